/- Steps of the program (9); no conditions. -/
import Derived.Test.YtfohooineeijkaaGreatM08
set_option linter.all false
set_option maxRecDepth 100000
set_option maxHeartbeats 16000000
namespace Go.Proofs.YtfohooineeijkaaGreat.Fix
open Go.ChangeShapes Go.WideShapes Go.ChangeAt Go.RowKit
open Go.Proofs.Tryz renaming prog → ja0
section
open List renaming setIfInBounds_toArray → ja1,set_cons_zero → ja2,set_cons_succ → ja3
open World renaming setCell → ja4,alloc → ja5
variable {z:Int}
theorem sQ{a b c d a' b' c' d':Int}(h1:a=a')(h2:b=b')(h3:c=c')(h4:d=d'):Ending.returned (.agg #[.int .i64 a,.int .i64 b,.int .i64 c,.int .i64 d])=.returned (.agg #[a',b',c',d']):=by rw[h1,h2,h3,h4]
theorem yU(x y a b:Int)(w:World):Calls ja0 116 #[.agg #[x,y,a,b]] w λe w'=>e=.returned (.bool (Fx.emp a b))/\Below w w w':=by
 go_enter Tryz.func116,Tryz.ntmps116
 go_wp2
 all_goals go_ret
 all_goals exact⟨fV (by unfold Fx.emp;simp<;>omega),(Below.refl _ _).alloc aF _⟩
theorem uQ(x y a b:Int)(w:World):Calls ja0 16 #[x,y,a,b] w λe w'=>e=.returned (.agg #[Fx.cut x,Fx.cut y,.int .i64 (Fx.mx (Fx.cut a) 0),.int .i64 (Fx.mx (Fx.cut b) 0)])/\Below w w w':=by
 go_enter Tryz.func16,Tryz.ntmps16
 go_wp2_with (first|(go_at_call 34;with_reducible refine oo (fO _ _) ?_))
 all_goals
  refine bodyPost_ret (v:=.agg #[_,_,_,_]) (by simp[results,Tryz.results16,go_sem];first|done|exact⟨rfl,rfl⟩|exact⟨rfl,rfl,rfl,rfl⟩|rfl) rfl ⟨sQ rfl rfl (by unfold Fx.mx;split<;>omega) (by unfold Fx.mx;split<;>omega),?_⟩;exact Z1
theorem uR(x y a b:Int)(w:World):Calls ja0 44 #[.agg #[x,y,a,b]] w λe w'=>e=.returned (.agg #[Fx.cut x,Fx.hi x a])/\Below w w w':=by
 go_enter Tryz.func44,Tryz.ntmps44
 go_wp2_with (first|(go_at_call 78;(with_reducible refine(Sq _ _ _).mono ?_);rintro e w' ⟨rfl,hb⟩;(try replace hb:=Below.after (by assumption) hb);obtain⟨hc,hf⟩:=iV hb;have hz:=hb.size;(try simp at hz)))
 refine bodyPost_ret (by simp[results,Tryz.results44,go_sem, *];first|done|exact⟨rfl,rfl⟩|rfl) rfl ⟨tK rfl rfl,?_⟩;exact Z1
theorem xQ(x y a b:Int)(w:World):Calls ja0 45 #[.agg #[x,y,a,b]] w λe w'=>e=.returned (.agg #[Fx.cut y,Fx.hi y b])/\Below w w w':=by
 go_enter Tryz.func45,Tryz.ntmps45
 go_wp2_with (first|(go_at_call 78;(with_reducible refine(Sq _ _ _).mono ?_);rintro e w' ⟨rfl,hb⟩;(try replace hb:=Below.after (by assumption) hb);obtain⟨hc,hf⟩:=iV hb;have hz:=hb.size;(try simp at hz)))
 refine bodyPost_ret (by simp[results,Tryz.results45,go_sem, *];first|done|exact⟨rfl,rfl⟩|rfl) rfl ⟨tK rfl rfl,?_⟩;exact Z1
theorem Sr(a b c d:Int)(w:World):Calls ja0 117 #[.agg #[a,b],.agg #[c,d]] w λe w'=>e=.returned (.agg #[a,c,Fx.size a b,Fx.size c d])/\Below w w w':=by
 go_enter Tryz.func117,Tryz.ntmps117
 go_wp2;refine zB 9 1 ?_ (h0:=by first|assumption|exact Below.refl _ _)
 (repeat (first|refine jV ?_ | refine jW ?_ (hc:=by intro w2 hS;first|with_reducible exact jI hS (X3 _ _ _))|refine jX ?_))
 refine aj.dH ?_;intro w2 hS;obtain⟨hc,hf⟩:=iV hS;refine vH ?_;intro K hK;go_simp;refine hK _ _ (aj.bF ?_);clear hK K;go_wp2;refine bodyPost_ret (by simp[results,Tryz.results117,go_sem, *];first|done|exact⟨rfl,rfl⟩|rfl) rfl ⟨sQ rfl rfl rfl rfl,?_⟩;exact Z1
theorem UO(x y a b x' y' a' b':Int)(w:World):Calls ja0 111 #[.agg #[x,y,a,b],.agg #[x',y',a',b']] w λe w'=>e=.returned (.agg #[.int .i64 (Fx.mOf x y a b x' y' a' b' (Fx.mLo x a x' a')),.int .i64 (Fx.mOf x y a b x' y' a' b' (Fx.mLo y b y' b')),.int .i64 (Fx.mOf x y a b x' y' a' b' (Fx.mSz x a x' a')),.int .i64 (Fx.mOf x y a b x' y' a' b' (Fx.mSz y b y' b'))])/\Below w w w':=by
 cases hE:Fx.emp (Fx.mSz x a x' a') (Fx.mSz y b y' b')
 all_goals
  have HE:=ah hE;unfold Fx.mSz Fx.mLo Fx.mHi at hE;go_enter Tryz.func111,Tryz.ntmps111
  go_wp2
  (generalize hW:ja5 (ja5 (ja5 w _) _) _=W0;have A0:At W0 (w.heap.size) (.cells #[x,y,a,b] 40):=WL;have A1:At W0 (w.heap.size+1) (.cells #[x',y',a',b'] 40):=TM;have A2:At W0 (w.heap.size+1+1) (.cells #[(),(),(),()] 40):=TN;have hB:Below w w W0:=Z44;clear hW;obtain⟨l0,aA,aB,aY,dP⟩:=At.four A0;obtain⟨l1,aH,aJ,dn,dw⟩:=At.four A1;obtain⟨l2,aL,aM,aP,aQ⟩:=At.four A2;have gJ:=A2.thaw 0;have gM:=A2.thaw 1;have gN:=A2.thaw 2;have gP:=A2.thaw 3)
  refine sbt [0,1,2,3,4,5,6,7,8,9,10] 11 12 ?_ (norm:=[⟨_,_,_,_,_,_⟩,⟨_,_,_,_,_,_⟩,⟨_,_,_,_,_,_⟩,⟨_,_,_,_,_,_⟩,⟨_,_,_,_,_,_⟩,⟨_,_,_,_,_,_⟩,⟨_,_,_,_,_,_⟩,⟨_,_,_,_,_,_⟩,⟨_,_,_,_,_,_⟩,⟨_,_,_,_,_,_⟩,⟨_,_,_,_,_,_⟩]) (tail:=[⟨_,_,_,_,_,_⟩]) (x:=.cells #[(),(),(),()] 40) (so:=⟨_,_,_,_,_,_⟩)
  (repeat (first|refine sbk ?_ | refine sbc ?_ (hc:=by intro w2 hS;first|with_reducible exact(uR _ _ _ _ _)|with_reducible exact(xQ _ _ _ _ _)|with_reducible exact(X4 _ _ _ _ _)|with_reducible exact(Sr _ _ _ _ _))|refine sbv ?_))
  refine aj.oP ?_;intro n0 w2 hn hA hS;(try simp only[bV,bW,bX,tks])
  ((have hB0:=hB);have nU:=dK (bA A0.lt hn);have ne1:=dK (bA A1.lt hn);have nV:=dK (bA A2.lt hn);(clear l0 aA aB aY dP l1 aH aJ dn dw l2 aL aM aP aQ gJ gM gN gP);(replace hB:=Below.ay qj aF hS);replace A0:=At.keep sM hS;replace A1:=At.keep qP hS;replace A2:=At.keep qW hS;clear hS;obtain⟨l0,aA,aB,aY,dP⟩:=At.four A0;obtain⟨l1,aH,aJ,dn,dw⟩:=At.four A1;obtain⟨l2,aL,aM,aP,aQ⟩:=At.four A2;have gJ:=A2.thaw 0;have gM:=A2.thaw 1;have gN:=A2.thaw 2;have gP:=A2.thaw 3;have A3:=hA;clear hA;obtain⟨l3,aZ,bq,bZ,cu⟩:=At.four A3;have eF:=A3.thaw 0;have eG:=A3.thaw 1;have eX:=A3.thaw 2;have eY:=A3.thaw 3;have g0:=aK Z4b hn;clear hB0)
  refine vH ?_;intro K hK;go_simp;refine hK _ _ (aj.bF ?_);clear hK K
  (generalize hW:ja4 (ja4 (ja4 (ja4 _ _ _) _ _) _ _) _ _=W2;clear l0 aA aB aY dP l1 aH aJ dn dw l2 aL aM aP aQ gJ gM gN gP l3 aZ bq bZ cu eF eG eX eY;replace A3:At W2 _ _:=hW▸(At.TH A3 _ _ _ _);replace A0:At W2 _ _:=hW▸(At.off (At.off (At.off (At.off A0 nU _ _) nU _ _) nU _ _) nU _ _);replace A1:At W2 _ _:=hW▸(At.off (At.off (At.off (At.off A1 ne1 _ _) ne1 _ _) ne1 _ _) ne1 _ _);replace A2:At W2 _ _:=hW▸(At.off (At.off (At.off (At.off A2 nV _ _) nV _ _) nV _ _) nV _ _);replace hB:Below w w W2:=hW▸(Below.setCell (Below.setCell (Below.setCell (Below.setCell hB g0 _) g0 _) g0 _) g0 _);clear hW nU ne1 nV;obtain⟨l0,aA,aB,aY,dP⟩:=At.four A0;obtain⟨l1,aH,aJ,dn,dw⟩:=At.four A1;obtain⟨l2,aL,aM,aP,aQ⟩:=At.four A2;have gJ:=A2.thaw 0;have gM:=A2.thaw 1;have gN:=A2.thaw 2;have gP:=A2.thaw 3;obtain⟨l3,aZ,bq,bZ,cu⟩:=At.four A3)
  clear A0 l0 aA aB aY dP A1 l1 aH aJ dn dw
  go_wp2_with (first|(go_at_call 116;(with_reducible refine(yU _ _ _ _ _).mono ?_);rintro e w' ⟨rfl,hb⟩;(clear l2 aL aM aP aQ gJ gM gN gP l3 aZ bq bZ cu);(replace hB:=Below.ay qj aF hb);replace A2:=At.keep qW hb;replace A3:=At.keep zC hb;clear hb;obtain⟨l2,aL,aM,aP,aQ⟩:=At.four A2;have gJ:=A2.thaw 0;have gM:=A2.thaw 1;have gN:=A2.thaw 2;have gP:=A2.thaw 3;obtain⟨l3,aZ,bq,bZ,cu⟩:=At.four A3))
  refine bodyPost_ret (v:=.agg #[_,_,_,_]) (by simp[results,Tryz.results111,go_sem, *];first|done|exact⟨rfl,rfl⟩|exact⟨rfl,rfl,rfl,rfl⟩|rfl) rfl ⟨sQ Z4v Z4v Z4v Z4v,?_⟩;exact Z1
theorem UQ(x y a b x' y' a' b':Int)(w:World):Calls ja0 76 #[.agg #[x,y,a,b],.agg #[x',y',a',b']] w λe w'=>e=.returned (.agg #[.int .i64 (Fx.TR a b a' b' x x' (Fx.jLo x a x' a')),.int .i64 (Fx.TR a b a' b' y y' (Fx.jLo y b y' b')),.int .i64 (Fx.TR a b a' b' a a' (Fx.jSz x a x' a')),.int .i64 (Fx.TR a b a' b' b b' (Fx.jSz y b y' b'))])/\Below w w w':=by
 cases hE:Fx.emp a b<;>cases hE':Fx.emp a' b'
 . have HE:=ah hE
   have HE':=ah hE';go_enter Tryz.func76,Tryz.ntmps76
   go_upto_region 1 with(fail)
   (generalize hW:ja5 (ja5 (ja5 w _) _) _=W0;have A0:At W0 (w.heap.size) (.cells #[x,y,a,b] 40):=WL;have A1:At W0 (w.heap.size+1) (.cells #[x',y',a',b'] 40):=TM;have A2:At W0 (w.heap.size+1+1) (.cells #[(),(),(),()] 40):=TN;have hB:Below w w W0:=Z44;clear hW;obtain⟨l0,aA,aB,aY,dP⟩:=At.four A0;obtain⟨l1,aH,aJ,dn,dw⟩:=At.four A1;obtain⟨l2,aL,aM,aP,aQ⟩:=At.four A2;have gJ:=A2.thaw 0;have gM:=A2.thaw 1;have gN:=A2.thaw 2;have gP:=A2.thaw 3)
   go_upto_region 7 with(first|(go_at_call 116;(with_reducible refine(yU _ _ _ _ _).mono ?_);rintro e w' ⟨rfl,hb⟩;(clear l0 aA aB aY dP l1 aH aJ dn dw l2 aL aM aP aQ gJ gM gN gP);(replace hB:=Below.ay qj aF hb);replace A0:=At.keep sM hb;replace A1:=At.keep qP hb;replace A2:=At.keep qW hb;clear hb;obtain⟨l0,aA,aB,aY,dP⟩:=At.four A0;obtain⟨l1,aH,aJ,dn,dw⟩:=At.four A1;obtain⟨l2,aL,aM,aP,aQ⟩:=At.four A2;have gJ:=A2.thaw 0;have gM:=A2.thaw 1;have gN:=A2.thaw 2;have gP:=A2.thaw 3))
   refine zB 11 1 ?_
   (repeat (first|refine jV ?_ | refine jW ?_ (hc:=by intro w2 hS;first|with_reducible exact jI hS (uR _ _ _ _ _)|with_reducible exact jI hS (xQ _ _ _ _ _)|with_reducible exact jI hS (X5 _ _ _ _ _)|with_reducible exact jI hS (Sr _ _ _ _ _))|refine jX ?_))
   refine aj.dH ?_;intro w2 hS
   (clear l0 aA aB aY dP l1 aH aJ dn dw l2 aL aM aP aQ gJ gM gN gP);(replace hB:=Below.ay qj aF hS);replace A0:=At.keep sM hS;replace A1:=At.keep qP hS;replace A2:=At.keep qW hS;clear hS;obtain⟨l0,aA,aB,aY,dP⟩:=At.four A0;obtain⟨l1,aH,aJ,dn,dw⟩:=At.four A1;obtain⟨l2,aL,aM,aP,aQ⟩:=At.four A2;have gJ:=A2.thaw 0;have gM:=A2.thaw 1;have gN:=A2.thaw 2;have gP:=A2.thaw 3
   refine vH ?_;intro K hK;go_simp;refine hK _ _ (aj.bF ?_);clear hK K;go_wp2;exact Z1e
 all_goals
  have HE:=ah hE;have HE':=ah hE';go_enter Tryz.func76,Tryz.ntmps76
  go_upto_region 1 with(fail)
  (generalize hW:ja5 (ja5 (ja5 w _) _) _=W0;have A0:At W0 (w.heap.size) (.cells #[x,y,a,b] 40):=WL;have A1:At W0 (w.heap.size+1) (.cells #[x',y',a',b'] 40):=TM;have A2:At W0 (w.heap.size+1+1) (.cells #[(),(),(),()] 40):=TN;have hB:Below w w W0:=Z44;clear hW;obtain⟨l0,aA,aB,aY,dP⟩:=At.four A0;obtain⟨l1,aH,aJ,dn,dw⟩:=At.four A1;obtain⟨l2,aL,aM,aP,aQ⟩:=At.four A2;have gJ:=A2.thaw 0;have gM:=A2.thaw 1;have gN:=A2.thaw 2;have gP:=A2.thaw 3)
  go_wp2_with (first|(go_at_call 116;(with_reducible refine(yU _ _ _ _ _).mono ?_);rintro e w' ⟨rfl,hb⟩;(clear l0 aA aB aY dP l1 aH aJ dn dw l2 aL aM aP aQ gJ gM gN gP);(replace hB:=Below.ay qj aF hb);replace A0:=At.keep sM hb;replace A1:=At.keep qP hb;replace A2:=At.keep qW hb;clear hb;obtain⟨l0,aA,aB,aY,dP⟩:=At.four A0;obtain⟨l1,aH,aJ,dn,dw⟩:=At.four A1;obtain⟨l2,aL,aM,aP,aQ⟩:=At.four A2;have gJ:=A2.thaw 0;have gM:=A2.thaw 1;have gN:=A2.thaw 2;have gP:=A2.thaw 3))
  exact Z1e
theorem I9(x y a b p q:Int)(w:World):Calls ja0 15 #[.agg #[x,y,a,b],pt p q] w λe w'=>e=.returned (.agg #[.int .i64 (Fx.cut (Fx.add x p)),.int .i64 (Fx.cut (Fx.add y q)),a,b])/\Below w w w':=by
 go_enter Tryz.func15,Tryz.ntmps15
 go_wp2_with (first|(go_at_call 8;with_reducible refine oo (qC _ _ _) ?_)|(go_at_call 49;with_reducible refine oo (X0 _ _ _ _ _) ?_))
 exact Z14
theorem G6(s0 s1 s2 s3:Int)(w:World):Calls ja0 86 #[.agg #[s0,s1,s2,s3]] w λe w'=>e=.returned (.tuple #[.int .i64 (Fx.add (Fx.add 0 s1) s3),.int .i64 (Fx.add (Fx.add 0 s0) s2)])/\Below w w w':=by
 have i0:∀w:World,(Instr.index 52 (.agg #[s0,s1,s2,s3]) (.int .i64 0)).run ja0 w=.ok (.int .i64 s0) w:=λ_=>by kernel_rfl
 have i1:∀w:World,(Instr.index 52 (.agg #[s0,s1,s2,s3]) (.int .i64 1)).run ja0 w=.ok (.int .i64 s1) w:=λ_=>by kernel_rfl
 have i2:∀w:World,(Instr.index 52 (.agg #[s0,s1,s2,s3]) (.int .i64 2)).run ja0 w=.ok (.int .i64 s2) w:=λ_=>by kernel_rfl
 have i3:∀w:World,(Instr.index 52 (.agg #[s0,s1,s2,s3]) (.int .i64 3)).run ja0 w=.ok (.int .i64 s3) w:=λ_=>by kernel_rfl
 go_enter Tryz.func86,Tryz.ntmps86
 go_wp2;refine wp_loop_rounds 5 ?_
 repeat (rw[rounds_succ];go_wp2_with (first|(go_at_call 82;with_reducible refine oo (jG _ _ _) ?_)))
 go_ret2
 exact⟨rfl,(Below.refl _ _).alloc aF _⟩
theorem EZ(x y a b s0 s1 s2 s3:Int)(w:World):Calls ja0 56 #[.agg #[x,y,a,b],.agg #[s0,s1,s2,s3]] w λe w'=>e=.returned (.agg #[Fx.add x s3,Fx.add y s0,.int .i64 (Fx.less a (Fx.add (Fx.add 0 s1) s3)),.int .i64 (Fx.less b (Fx.add (Fx.add 0 s0) s2))])/\Below w w w':=by
 by_cases h1:Fx.sub a (Fx.add (Fx.add 0 s1) s3)<0<;>by_cases h2:Fx.sub b (Fx.add (Fx.add 0 s0) s2)<0
 all_goals
  (try replace h1:=Int.not_lt.1 h1)
  (try replace h2:=Int.not_lt.1 h2)
  go_enter Tryz.func56,Tryz.ntmps56
  go_upto_region 1 with(fail)
  (generalize hW:ja5 (ja5 (ja5 w _) _) _=W0;have A0:At W0 (w.heap.size) (.cells #[x,y,a,b] 40):=WL;have A1:At W0 (w.heap.size+1) (.cells #[s0,s1,s2,s3] 52):=TM;have A2:At W0 (w.heap.size+1+1) (.cells #[(),(),(),()] 40):=TN;have hB:Below w w W0:=Z44;clear hW;obtain⟨l0,aA,aB,aY,dP⟩:=At.four A0;obtain⟨l1,aH,aJ,dn,dw⟩:=At.four A1;obtain⟨l2,aL,aM,aP,aQ⟩:=At.four A2;have gJ:=A2.thaw 0;have gM:=A2.thaw 1;have gN:=A2.thaw 2;have gP:=A2.thaw 3)
  go_upto_region 2 with(first|(go_at_call 86;(with_reducible refine(G6 _ _ _ _ _).mono ?_);rintro e w' ⟨rfl,hb⟩;(clear l0 aA aB aY dP l1 aH aJ dn dw l2 aL aM aP aQ gJ gM gN gP);(replace hB:=Below.ay qj aF hb);replace A0:=At.keep sM hb;replace A1:=At.keep qP hb;replace A2:=At.keep qW hb;clear hb;obtain⟨l0,aA,aB,aY,dP⟩:=At.four A0;obtain⟨l1,aH,aJ,dn,dw⟩:=At.four A1;obtain⟨l2,aL,aM,aP,aQ⟩:=At.four A2;have gJ:=A2.thaw 0;have gM:=A2.thaw 1;have gN:=A2.thaw 2;have gP:=A2.thaw 3))
  refine zB 21 1 ?_
  (repeat (first|refine jV ?_ | refine jW ?_ (hc:=by intro w2 hS;first|with_reducible exact AF hS (jG _ _ _)|with_reducible exact AF hS (mY _ _ _))|refine jX ?_))
  refine aj.dH ?_;intro w2 hS
  (clear l0 aA aB aY dP l1 aH aJ dn dw l2 aL aM aP aQ gJ gM gN gP);(replace hB:=Below.ay qj aF hS);replace A0:=At.keep sM hS;replace A1:=At.keep qP hS;replace A2:=At.keep qW hS;clear hS;obtain⟨l0,aA,aB,aY,dP⟩:=At.four A0;obtain⟨l1,aH,aJ,dn,dw⟩:=At.four A1;obtain⟨l2,aL,aM,aP,aQ⟩:=At.four A2;have gJ:=A2.thaw 0;have gM:=A2.thaw 1;have gN:=A2.thaw 2;have gP:=A2.thaw 3
  refine vH ?_;intro K hK;go_simp;refine hK _ _ (aj.bF ?_);clear hK K;go_wp2;refine bodyPost_ret (v:=.agg #[_,_,_,_]) (by simp[results,Tryz.results56,go_sem, *];first|done|exact⟨rfl,rfl⟩|exact⟨rfl,rfl,rfl,rfl⟩|rfl) rfl ⟨sQ rfl rfl (by unfold Fx.less Fx.mx;split<;>omega) (by unfold Fx.less Fx.mx;split<;>omega),?_⟩;exact Z1
structure Pr where
 x:Int
 y:Int
 w:Int
 h:Int
def p0:Pr:=⟨0,0,0,0⟩
def Pr.ag(p:Pr):Value:=.agg #[p.x,p.y,p.w,p.h]
def Pr.arr(p:Pr):Array Value:=#[p.x,p.y,p.w,p.h]
def RM(W:World)(m:Nat)(R:Int->Option Pr):Prop:=∃n g,GM 3 W m n g/\∀z,g (.int .i64 z)=(R z).map Pr.ag
section
variable {W W':World} {m:Nat} {R:Int->Option Pr}
theorem RM.lt(h:RM W m R):m<W.heap.size:=by obtain⟨n,g,h,_⟩:=h;exact h.lt
theorem RM.out{M:Nat->Prop}(h:RM W m R)(hm:¬ M m)(q:Out M W W'):RM W' m R:=by obtain⟨n,g,h,r⟩:=h;exact⟨n,g,h.out hm q,r⟩
theorem RM.keep(h:RM W m R)(hb:Below W W W'):RM W' m R:=by obtain⟨n,g,h,r⟩:=h;exact⟨n,g,h.keep hb,r⟩
theorem RM.look(h:RM W m R)(hz:Wf z):(Instr.lookup 28 (.map (some m)) (.int .i64 z) false).run ja0 W=.ok (.agg #[.int .i64 ((R z).getD p0).x,.int .i64 ((R z).getD p0).y,.int .i64 ((R z).getD p0).w,.int .i64 ((R z).getD p0).h]) W:=by
 obtain⟨n,g,h,r⟩:=h;have k:=h.look jH Tryz.underlying28 (z:=.agg #[(),(),(),()]) bE (jh hz);rw[r]at k;rw[k];cases R z<;>rfl
theorem RM.look_ok(h:RM W m R)(hz:Wf z):(Instr.lookup 28 (.map (some m)) (.int .i64 z) true).run ja0 W=.ok (.tuple #[.agg #[.int .i64 ((R z).getD p0).x,.int .i64 ((R z).getD p0).y,.int .i64 ((R z).getD p0).w,.int .i64 ((R z).getD p0).h],.bool (R z).isSome]) W:=by
 obtain⟨n,g,h,r⟩:=h;have k:=h.look_ok jH Tryz.underlying28 (z:=.agg #[(),(),(),()]) bE (jh hz);rw[r]at k;rw[k];cases R z<;>rfl
end
theorem Ck(x y a b:Int)(w:World):Calls ja0 77 #[.agg #[x,y,a,b]] w λe w'=>e=.returned (pt x y)/\Below w w w':=by
 go_enter Tryz.func77,Tryz.ntmps77
 go_wp2_with (go_at_call 8;refine(qC _ _ _).mono ?_;rintro e w' ⟨rfl,rfl⟩)
 go_ret
 exact⟨rfl,aD aG _⟩
def cnt(T:Tr.T)(R:Int->Option Pr):Nat->Int->Bool
 | 0,_=>true
 | f+1,z=>match T z with
   | none=>true
   | some nd=>(R z).isSome&&cnt T R f nd.up
section
variable {w:World} {t n:Nat} {L:Lay} {T:Tr.T} {m:Nat} {R:Int->Option Pr}
theorem yC(h:fE w t L T n)(hm:RM w m R)(hz:Wf z)(hn:T z=none):Calls ja0 35 #[t,.map (some m),z] w λe w'=>e=.returned (.bool false)/\w=w':=by
 have key:=gH h hz;rw[hn]at key;clear h;go_enter Tryz.func35,Tryz.ntmps35
 exact Z22
theorem oN(h:fE w t L T n)(hmm:RM w m R)(hr:∀nd,T 0=some nd->nd.up = -1){d:Nat}(hd:Tr.Dp T z d):Calls ja0 35 #[t,.map (some m),z] w λe w'=>e=.returned (.bool (cnt T R (d+1) z))/\Below w w w':=by
 have hm:T (-1)=none:=by
  exact Z2j
 obtain⟨nd0,hT0⟩:=hd.live;have XV:=gH h (h.wf hT0);rw[hT0]at XV;have HR:=ah h;have HMM:=ah hmm;have Ij:=ah hr;have HD:=ah hd;obtain⟨ans,fT⟩:∃x,Hid (cnt T R (d+1) z=x):=⟨_,ah rfl⟩;rw[fT.out];clear h hr hd hT0 hmm;go_enter Tryz.func35,Tryz.ntmps35
 go_wp2_with (go_at_call 48;(with_reducible refine XV.mono ?_);rintro e w' ⟨rfl,rfl⟩)
 go_loopw [2] (λi wr=>((∃(y:Int) (q:Nat),i=.int .i64 y/\Tr.Dp T y q/\cnt T R (q+1) y=ans)\/(i=.int .i64 (-1)/\ans=true))/\Below w w wr) (λi _=>vI T (intOf i))
 case atStart=>exact⟨.inl ⟨z,d,rfl,HD.out,fT.out⟩,Below.refl _ _⟩
 case round =>
  obtain⟨hrel,hB⟩:=hrel;rcases hrel with⟨y,q,rfl,hD,hs⟩|⟨rfl,rfl⟩
  . obtain⟨nd,hT⟩:=hD.live
    have h1:=HR.out.after hB;have key:=gH h1 (h1.wf hT);rw[hT]at key;have hlk:=(HMM.out.keep hB).look_ok (h1.wf hT);have HB:=ah hB;have RF:=ah hD;have Qj:=ah hs;have HT:=ah hT;have H1:=ah h1;have rR:=λX (hb:Below wr wr X)=>rC (h1.after hb) (h1.wf hT);have hu:Hid (jP T y=nd.up):=ah (by unfold jP;rw[hT]);generalize jP T y=u at *;obtain⟨r,hrr⟩:=aC ((R y).getD p0);obtain⟨c,hcc⟩:=aC ((R y).isSome);rw[hrr,hcc]at hlk;have HC:=ah hcc;clear hB hD hs h1 hT hrr hcc
    go_upto_region 5 with(go_at_call 48;(with_reducible refine key.mono ?_);rintro e w' ⟨rfl,rfl⟩)
    generalize hW:ja5 _ _=w2;have hb2:Below wr wr w2:=hW▸aD aG _;have hB2:Below w w w2:=Below.ay HB.out aF hb2;clear hW hlk key;cases c
    . go_wp2
      go_ret
      refine⟨fV ?_,hB2⟩;rw[<-Qj.out];show false=(match T y with|none=>true|some nd=>(R y).isSome&&cnt T R q nd.up);rw[HT.out];simp only[HC.out,Bool.false_and]
    . go_wp2_with (go_at_call 14;(with_reducible refine(rR _ hb2).mono ?_);rintro e w' ⟨rfl,rfl⟩)
      have hs:=Qj.out;rw[hu.out];have hsh:cnt T R (q+1) y=cnt T R q nd.up:=by
       show(match T y with|none=>true|some nd=>(R y).isSome&&cnt T R q nd.up)=_;rw[HT.out];simp only[HC.out,Bool.true_and]
      rw[hsh]at hs;exact Zj
  . exact Z2l
end
def kf(R:Int->Option Pr)(l:List Int):List Int:=l.filter λk=>(R k).isSome
theorem abv(R:Int->Option Pr)(l:List Int)(x:Int):kf R (l++[x])=if (R x).isSome=true then kf R l++[x]else kf R l:=by
 unfold kf;rw[List.filter_append,List.filter_cons];split<;>simp
theorem adM(R:Int->Option Pr)(l:List Int)(k:Nat):(kf R (l.take k)).length<=l.length:=by
 unfold kf;have:=List.length_filter_le (λk=>(R k).isSome) (l.take k);rw[List.length_take]at this;omega
theorem UR(w:World)(e:TypeId)(sz:Nat):(w.alloc (.cells #[] e)).ownsRow w.heap.size e sz (.slice w 0 0) 0 [] :=
 ⟨by simp,.inr ⟨w.heap.size,0,#[],rfl,aO _,At.new _ _,aO _,by simp[maxLen],by simp,by simp⟩⟩
section
variable {w:World} {t n:Nat} {L:Lay} {T:Tr.T} {m:Nat} {R:Int->Option Pr}
theorem E5(h:fE w t L T n)(hmm:RM w m R){nd:Tr.Nd}(hT:T z=some nd)(ks:List Int)(hks:nd.kids=ks)(hw:∀x∈ks,Wf x)(hl:ks.length<=5000):Calls ja0 73 #[t,.map (some m),z] w λe w'=>(∃v,e=.returned v/\w'.ownsRow w.heap.size 3 1 v (kf R ks).length ((kf R ks).map (Value.int .i64)))/\Below w w w':=by
 have HM:=ah hmm;have HW:=ah hw;have HL:=ah hl;have su:=λX (hb:Below w w X)=>I4 (h.after hb) (h.wf hT);rw[hT]at su;simp only[Option.elim_some,hks]at su;clear hks h hT hmm hw hl;go_enter Tryz.func73,Tryz.ntmps73
 go_upto_region 2 with(fail)
 have ho0:=UR w 3 1;have hB0:Below w w (w.alloc (.cells #[] 3)):=aD aG _;have hs0:w.heap.size+1=(w.alloc (.cells #[] 3)).heap.size:=by simp
 generalize w.alloc (.cells #[] 3)=w0 at *
 go_upto_region 3 with(go_at_call 100;(with_reducible refine(su _ hB0).mono ?_);rintro e w1 ⟨⟨v1,rfl,ho1⟩,hb1⟩;obtain⟨A1,c1,rfl⟩:=fK ho1)
 have hB1:=hB0.trans (hb1.mono hB0.size);have hk1:=fD (base':=w.heap.size) ho1 hB0.size;have JF:Apart (.slice A1 ks.length c1) (.slice w 0 0):=by
  by_cases hn:(Value.slice A1 ks.length c1).ownBlock=none
  . exact .inl hn
  . refine .inr (.inr λe => ?_)
    have:=(ho1.lt w.heap.size (by rw[e];rfl)).1;omega
 have ho2:=cK (M:=λ_=>False) ho0 (λ_ _ q=>q) (Out.of_below hb1);clear ho0 ho1 hb1 hB0 su hs0
 go_loopw [7,17] (λv i wr=>∃k:Nat,k<=ks.length/\i=.int .i64 (k:Nat)/\wr.ownsRow w.heap.size 3 1 v (kf R (ks.take k)).length ((kf R (ks.take k)).map (Value.int .i64))/\wr.ownsRow w.heap.size 3 1 (.slice A1 ks.length c1) ks.length (ks.map (Value.int .i64))/\Apart (.slice A1 ks.length c1) v/\Below w w wr) (λ_ i _=>ks.length-(intOf i).toNat)
 case atStart=>exact⟨0,by omega,rfl,by simpa[kf]using ho2,hk1,JF,hB1⟩
 case round =>
  clear ho2 hk1 JF hB1;obtain⟨k,hkl,rfl,hv,hu,hap,hB⟩:=hrel;by_cases hlt:k<ks.length
  . obtain⟨A6,c6,e6,hI6,-⟩:=KS.ints (show KS wr (.slice A1 ks.length c1) ks from fD hu qh)
    injection e6 with e7 e8 e9;subst e7;obtain⟨b0,o0,Uz,l0,c0⟩:=hI6.at_ (k:=k) hlt;obtain⟨x,hx⟩:=aC (ks.getD k 0);have hxx:ks[k]=x:=by rw[<-hx,List.getD_eq_getElem?_getD,List.getElem?_eq_getElem hlt];rfl
    have hwx:Wf x:=HW.out x (hxx▸List.getElem_mem _);have htk:ks.take (k+1)=ks.take k++[x]:=by rw[List.take_succ_eq_append_getElem hlt,hxx]
    have hlk:=(HM.out.keep hB).look_ok hwx;have hkn:=adM R ks k;have D9:=ah hlt;have hlenL:=HL.out;have hwk:wrap64 ((k:Int)+1)=(k:Int)+1:=IntWalk.wrap64_in _ ak;have hsn:=abv R (ks.take k) x;obtain⟨r,hrr⟩:=aC ((R x).getD p0);obtain⟨c,hcc⟩:=aC ((R x).isSome);rw[hrr,hcc]at hlk;rw[hcc,<-htk]at hsn;subst Uz;rw[hx]at c0;clear hrr hcc hx hxx htk hI6 e8 e9
    go_upto_region 6 with(fail)
    have hB3:Below wr wr (wr.alloc (.cells #[r.x,r.y,r.w,r.h] 40)):=aD aG _;have hv3:=hv.alloc (.cells #[r.x,r.y,r.w,r.h] 40);have hu3:=hu.alloc (.cells #[r.x,r.y,r.w,r.h] 40);have hB4:=Below.ay hB aF hB3;generalize wr.alloc (.cells #[r.x,r.y,r.w,r.h] 40)=w3 at *;clear hlk hv hu hB c0 l0;cases c
    . rw[if_neg aN]at hsn
      have HSN:=ah hsn;clear hsn;go_wp2
      go_roundw
      case rel =>
       refine⟨k+1,Nat.succ_le_of_lt D9.out,by go_num,?_⟩
       . rw[HSN.out]
         exact⟨hv3,hu3,hap,hB4⟩
      case measure =>
       exact wF D9.out
    . rw[if_pos rfl]at hsn
      have HSN:=ah hsn;obtain⟨g,c,w4,hr,ho4,hp4,ha4,hb4,hs4⟩:=yJ x hv3 hu3 hap hB4.size ak;have HRR:=ah hr;obtain⟨A7,c7,rfl⟩:=fK hv3;clear hr hsn hv3 hu3
      go_wp2_with (at_builtin;refine wpList_append_run bB _ _ 37 rfl rfl rfl HRR.out ?_)
      (try simp only[bV,bW,bX,tks])
      (try simp only[Act.put,ja1,ja2,ja3,List.size_toArray,Array.getD_eq_getD_getElem?])
      go_roundw
      case rel =>
       refine⟨k+1,Nat.succ_le_of_lt D9.out,by go_num,?_⟩
       . rw[HSN.out]
         exact⟨by rw[List.length_append];exact ho4,hp4,ha4,hB4.trans hb4⟩
      case measure =>
       exact wF D9.out
  . obtain rfl:k=ks.length:=by omega
    rw[List.take_length]at hv;go_wp2
    go_ret
    exact⟨⟨_,rfl,hv⟩,hB⟩
end
end
section
open Go.Shelf
open List renaming length_cons → jb4
variable {S:Nat->Fe.St}{W:World}{I n:Nat}
attribute [local go_sem] Oper.semAt_some
def L6(s:Fe.St)(j:Nat):Value :=
 if j=0 then .int .i64 s.x.b else if j=1 then .int .i64 s.x.lo else if j=2 then .int .i64 s.x.hi else if j=3 then .int .i64 s.x.g else if j=4 then .int .i64 s.x.s
 else if j=5 then .int .i64 s.z else if j=6 then .int .i64 s.m else .bool s.f
def um(W:World)(I n:Nat)(S:Nat->Fe.St):Prop :=
 ∃vs:Array Value,At W I (.cells vs 305)/\vs.size=n*8/\∀i j,i<n->j<8->vs[i*8+j]? = some (L6 (S i) j)
theorem um.lt(h:um W I n S):I<W.heap.size:=by obtain⟨_,h,_⟩:=h;exact h.lt
theorem um.cell(h:um W I n S){i:Nat}(hi:i<n)(j:Nat)(hj:j<8):W.cell? ⟨I,i*8+j,none⟩=some (L6 (S i) j):=by
 obtain⟨vs,h,_,hc⟩:=h;rw[h.cell];exact hc i j hi hj
theorem um.thaw(h:um W I n S)(k:Nat):W.frozen? ⟨I,k,none⟩=false:=by
 obtain⟨vs,h,_⟩:=h;exact h.thaw k
theorem um.keep{W W':World}(h:um W I n S)(hb:Below W W W'):um W' I n S:=by
 obtain⟨vs,h,r⟩:=h;exact⟨vs,h.keep hb,r⟩
theorem um.alloc(h:um W I n S)(o:Obj):um (W.alloc o) I n S:=by
 obtain⟨vs,h,r⟩:=h;exact⟨vs,h.alloc o,r⟩
theorem um.off{I n b k:Nat}(h:um W I n S)(hne:I≠b)(v:Value):um (W.setCell ⟨b,k,none⟩ v) I n S:=by
 obtain⟨vs,h,r⟩:=h;exact⟨vs,h.off hne k v,r⟩
theorem um.same{S T:Nat->Fe.St}(h:um W I n S)(hs:∀i,i<n->S i=T i):um W I n T:=by
 obtain⟨vs,h,hz,hc⟩:=h;exact⟨vs,h,hz,λi j hi hj=>by rw[hc i j hi hj,hs i hi]⟩
theorem um.put{S T:Nat->Fe.St}{i j:Nat}{v:Value}(h:um W I n S)(hi:i<n)(hj:j<8)(hv:L6 (T i) j=v)(ho:∀q,q<8->q≠j->L6 (T i) q=L6 (S i) q)(hs:∀k,k<n->k≠i->T k=S k) :
  um (W.setCell ⟨I,i*8+j,none⟩ v) I n T:=by
 obtain⟨vs,h,hz,hc⟩:=h;refine⟨_,h.set (i*8+j) v,by simpa using hz,λk q hk hq => ?_⟩;rw[Array.getElem?_setIfInBounds];by_cases e:i*8+j=k*8+q
 . obtain rfl:i=k:=by omega
   obtain rfl:j=q:=by omega
   rw[if_pos rfl,if_pos ak,hv]
 . rw[if_neg e,hc k q hk hq]
   by_cases hik:k=i
   . subst hik
     rw[ho q hq ak]
   . rw[hs k hk hik]
theorem um.turn{I n r:Nat}(h:um W I n S)(hne:I≠r)(o:Obj):um (W.putObj r o) I n S:=by
 obtain⟨vs,h,r⟩:=h;exact⟨vs,(World.putObj_heap_other hne).trans h,r⟩
theorem At.turn{b r:Nat}{x:Obj}(h:At W b x)(hne:b≠r)(o:Obj):At (W.putObj r o) b x:=(World.putObj_heap_other hne).trans h
def Qo(I n:Nat)(room way:Int):Obj:=.cells #[.slice I n n,room,way] 303
def adN(R I n:Nat)(room way:Int)(S:Nat->Fe.St)(i:Nat)(W:World):Prop :=
 At W R (Qo I n room way)/\I<W.heap.size/\∀k,i<=k->k<n->W.cell? ⟨I,k*8+7,none⟩=some (.bool (S k).f)
theorem tL(n R I N:Nat)(room way:Int)(S:Nat->Fe.St)(hN:N<=64)(lp:Nat)(J:Nat->World->Prop)(Jx:World->Prop)(W:World)
  (hV:∀i W,J i W->adN R I N room way S i W) (R8:∀i W,i<N->(S i).f=true->J i W->J (i+1) W)
  (hY:∀i W,i<N->(S i).f=false->J i W->YieldAt Fence.wide (n-1) ja0 lp #[.int .i64 (Fe.pl S i:Nat),.pointer (some ⟨I,i*8,none⟩)] W λe W'=>(e=.returned (.bool true)/\J (i+1) W')\/(e=.returned (.bool false)/\Jx W')) (h0:J 0 W) :
  CallsIn Fence.wide n ja0 215 (#[.pointer R] ++ #[.func (.yield lp) #[] #[]] ++ #[]) W λe W'=>(∃v,e=.returned v)/\(J N W'\/Jx W'):=by
 have HY:=ah hY;have HV:=ah hV;have HS:=ah R8;obtain⟨a0,_,_⟩:=hV 0 W h0;have l0:=a0.lt;have c0:=a0.cell 0;replace c0:W.cell? ⟨R,0,none⟩=some (.slice I N N):=c0;have H0:=ah h0;clear hY hV R8 a0 h0;refine callsIn_of_wp Tryz.func215 rfl trivial ?_ rfl;simp only[Tryz.ntmps215,List.size_toArray,jb4,List.length_nil,Nat.reduceAdd,Nat.reduceSub,Array.replicate_succ,Array.replicate_zero,List.push_toArray,List.append_toArray,List.nil_append,List.cons_append]
 gi_wp2
 gi_loopw [4,12] (λp i wr=>∃k:Nat,k<=N/\i=.int .i64 k/\p=.int .i64 (Fe.pl S k:Nat)/\J k wr) (λ_ i _=>N-(intOf i).toNat)
 case atStart=>exact⟨0,by omega,rfl,rfl,H0.out⟩
 case round =>
  obtain⟨k,hk,rfl,rfl,hJ⟩:=hrel;obtain⟨a1,li,cs⟩:=HV.out k wr hJ;have l1:=a1.lt;have c1:=a1.cell 0;replace c1:wr.cell? ⟨R,0,none⟩=some (.slice I N N):=c1;by_cases hlt:k<N
  . have hltz:(k:Int)<(N:Int):=by omega
    have cf:=cs k aF hlt;have hpl:=Fe.RZ S k;cases hf:(S k).f with
    | true =>
      rw[hf]at cf;have hJ2:=HS.out k wr hlt hf hJ;have HP:Hid (Fe.pl S (k+1)=Fe.pl S k):=ah (by simp[Fe.pl,hf]);clear cs
      gi_wp2
      go_roundw
      case rel=>exact⟨k+1,by omega,by go_num,by rw[HP.out],hJ2⟩
      case measure=>simp[intOf];omega
    | false =>
      rw[hf]at cf;have HP:Hid (Fe.pl S (k+1)=Fe.pl S k+1):=ah (by simp[Fe.pl,hf]);obtain⟨fn,tmps,assign,body,hy,hR⟩:=HY.out k wr hlt hf hJ;clear cs
      gi_wp2
      refine⟨λhd=>Z4t,hR.mono ?_⟩;rintro e W3 (⟨rfl,hJ3⟩|⟨rfl,hJx3⟩)
      . gi_wp2
        go_roundw
        case rel=>exact⟨k+1,by omega,by go_num,by rw[HP.out];go_num,hJ3⟩
        case measure=>simp[intOf];omega
      . gi_wp2
        refine bodyPost_ret (results_none rfl _ _ _) rfl ?_;exact⟨⟨_,rfl⟩,.inr hJx3⟩
  . have hltz:¬ (k:Int)<(N:Int):=by omega
    obtain rfl:k=N:=by omega
    gi_wp2
    go_end0
    exact⟨⟨_,rfl⟩,.inl hJ⟩
end
section
variable {S:Nat->Fe.St}{room:Int}{R I n:Nat}
def fZ(W:World)(R I n:Nat)(room:Int)(gr:Bool)(S:Nat->Fe.St):Prop:=At W R (Qo I n room (Fe.sg gr))/\um W I n S
theorem fZ.keep{W W':World}{gr:Bool}(h:fZ W R I n room gr S)(hb:Below W W W'):fZ W' R I n room gr S:=⟨h.1.keep hb,h.2.keep hb⟩
theorem fZ.drew{W:World}{gr:Bool}(h:fZ W R I n room gr S):fZ W.drew R I n room gr S:=h.keep (Below.refl _ _).drew
theorem fZ.cells{W:World}{gr:Bool}(h:fZ W R I n room gr S) :
 R<W.heap.size/\W.cell? ⟨R,0,none⟩=some (.slice I n n)/\W.cell? ⟨R,1,none⟩=some (.int .i64 room)/\W.cell? ⟨R,2,none⟩=some (.int .i64 (Fe.sg gr)):=⟨h.1.lt,h.1.cell 0,h.1.cell 1,h.1.cell 2⟩
theorem um.fields{W:World}{I n:Nat}(h:um W I n S){i:Nat}(hi:i<n) :
  I<W.heap.size/\W.cell? ⟨I,i*8,none⟩=some (.int .i64 (S i).x.b)/\W.cell? ⟨I,i*8+1,none⟩=some (.int .i64 (S i).x.lo)/\W.cell? ⟨I,i*8+2,none⟩=some (.int .i64 (S i).x.hi)/\W.cell? ⟨I,i*8+3,none⟩=some (.int .i64 (S i).x.g)/\W.cell? ⟨I,i*8+4,none⟩=some (.int .i64 (S i).x.s) /\
   W.cell? ⟨I,i*8+5,none⟩=some (.int .i64 (S i).z)/\W.cell? ⟨I,i*8+6,none⟩=some (.int .i64 (S i).m)/\W.cell? ⟨I,i*8+7,none⟩=some (.bool (S i).f) :=
 ⟨h.lt,h.cell hi 0 ak,h.cell hi 1 ak,h.cell hi 2 ak,h.cell hi 3 ak,h.cell hi 4 ak,h.cell hi 5 ak,h.cell hi 6 ak,h.cell hi 7 ak⟩
theorem uS(R I n i:Nat)(room:Int)(gr:Bool)(S:Nat->Fe.St)(w:World)(h:fZ w R I n room gr S)(hi:i<n) :
  Calls ja0 220 #[R,.pointer (some ⟨I,i*8,none⟩)] w λe w'=>e=.returned (.int .i64 (Fe.fac gr (S i).x))/\w=w':=by
 obtain⟨l0,c0,c1,c2⟩:=h.cells;obtain⟨l1,d0,d1,d2,d3,d4,d5,d6,d7⟩:=h.2.fields hi;clear h c0 c1 d0 d1 d2 d5 d6 d7;cases gr
 . simp only[Fe.fac,Fe.sg,Bool.false_eq_true,if_false]at *
   go_enter Tryz.func220,Tryz.ntmps220
   go_wp2;exact Zy
 . simp only[Fe.fac,Fe.sg,if_true]at *
   go_enter Tryz.func220,Tryz.ntmps220
   go_wp2;exact Zy
theorem Qp(R I n i:Nat)(room:Int)(gr:Bool)(S:Nat->Fe.St)(w:World)(h:fZ w R I n room gr S)(hi:i<n)(hb:(0<=(S i).x.b/\(S i).x.b<=1048576)/\0<=(S i).x.s/\(S i).x.s<=1000) :
  Calls ja0 217 #[R,.pointer (some ⟨I,i*8,none⟩)] w λe w'=>e=.returned (.int .i64 (Fe.wt gr (S i).x))/\Below w w w':=by
 obtain⟨l0,c0,c1,c2⟩:=h.cells;obtain⟨l1,d0,d1,d2,d3,d4,d5,d6,d7⟩:=h.2.fields hi;clear h c0 c1 d1 d2 d5 d6 d7;cases gr
 . simp only[Fe.wt,Fe.sg,Bool.false_eq_true,if_false]at *
   obtain⟨⟨b1,b2⟩,b3,b4⟩:=hb;have hp:=Fe.RV b3 b4 b1 b2;have hw:IntKind.i64.wrap ((S i).x.s*(S i).x.b)=(S i).x.s*(S i).x.b:=IntWalk.i64_in _ ak;have hw2:wrap64 ((S i).x.s*(S i).x.b)=(S i).x.s*(S i).x.b:=IntWalk.wrap64_in _ ak;generalize (S i).x.s=s at *;generalize (S i).x.b=b at *;have HW:=ah hw2;clear hw2;go_enter Tryz.func217,Tryz.ntmps217
   go_upto_region 3 with(fail)
   refine vS ?_
   (repeat (first|refine jV ?_ | refine jW ?_ (hc:=by intro w2 hS;first|with_reducible exact AF hS (fO _ _))|refine jX ?_))
   refine aj.bY ?_;intro w2 hS;go_wp2
   go_ret
   exact⟨bQ (by first|rfl|exact HW.out),by(repeat (first|exact Below.refl _ _ | assumption|refine Below.drew ?_ | refine Below.drewN ?_ _ | refine aD ?_ _ | refine Below.setCell ?_ Z4f _ | refine Below.ay ?_ aF (by assumption)))⟩
 . simp only[Fe.wt,Fe.sg,if_true]at *
   clear hb;go_enter Tryz.func217,Tryz.ntmps217
   go_wp2
   go_ret
   exact⟨rfl,Below.refl _ _⟩
theorem UU(R I n i:Nat)(room:Int)(gr:Bool)(S:Nat->Fe.St)(w:World)(h:fZ w R I n room gr S)(hi:i<n)(hb:(0<=(S i).x.b/\(S i).x.b<=1048576)/\0<=(S i).z/\(S i).z<=1048576) :
  Calls ja0 216 #[R,.pointer (some ⟨I,i*8,none⟩)] w λe w'=>e=.returned (.bool (Fe.stay gr (S i).x (S i).z))/\Below w w w':=by
 obtain⟨l0,c0,c1,c2⟩:=h.cells;obtain⟨l1,d0,d1,d2,d3,d4,d5,d6,d7⟩:=h.2.fields hi;have HR:=ah h;have Hi:=ah hi;clear h c0 c1 d1 d2 d3 d4 d6 d7 hi;unfold Fe.stay;obtain⟨⟨b1,b2⟩,b3,b4⟩:=hb;generalize hfc:Fe.fac gr (S i).x=fc;have HFC:=ah hfc;clear hfc;generalize (S i).x.b=b at *;generalize (S i).z=z at *;have W1:Hid (IntKind.i64.wrap (Fe.sg gr*b)=Fe.sg gr*b):=ah (IntWalk.i64_in _ (by cases gr<;>simp only[Fe.sg,Bool.false_eq_true,if_false,if_true]<;>omega));have W2:Hid (IntKind.i64.wrap (Fe.sg gr*z)=Fe.sg gr*z):=ah (IntWalk.i64_in _ (by cases gr<;>simp only[Fe.sg,Bool.false_eq_true,if_false,if_true]<;>omega));generalize Fe.sg gr=way at *;by_cases h0:fc=0
 . have k0:(Fe.fac gr (S i).x==0)=true:=by rw[HFC.out];simpa using h0
   subst h0;clear HFC;go_enter Tryz.func216,Tryz.ntmps216
   go_wp2;refine aj.wO aG bE bE bE ?_
   (repeat (first|refine jV ?_ | refine jW ?_ (hc:=by intro w2 hS;first|with_reducible exact AF hS (uS _ _ _ _ _ _ _ _ (HR.out.keep hS) Hi.out))|refine jX ?_))
   try simp only[k0]
   (repeat (first|refine jV ?_ | refine jW ?_ (hc:=by intro w2 hS;first|with_reducible exact AF hS (uS _ _ _ _ _ _ _ _ (HR.out.keep hS) Hi.out))|refine jX ?_))
   refine aj.bY ?_;intro w2 hS;go_wp2
   go_ret
   exact⟨rfl,by(repeat (first|exact Below.refl _ _ | assumption|refine Below.drew ?_ | refine Below.drewN ?_ _ | refine aD ?_ _ | refine Below.setCell ?_ Z4f _ | refine Below.ay ?_ aF (by assumption)))⟩
 . have k0:(Fe.fac gr (S i).x==0)=false:=by rw[HFC.out];simpa using h0
   go_enter Tryz.func216,Tryz.ntmps216
   go_wp2;refine aj.wO aG bE bE bE ?_
   (repeat (first|refine jV ?_ | refine jW ?_ (hc:=by intro w2 hS;first|with_reducible exact AF hS (uS _ _ _ _ _ _ _ _ (HR.out.keep hS) Hi.out))|refine jX ?_))
   try simp only[k0]
   (repeat (first|refine jV ?_ | refine jW ?_ (hc:=by intro w2 hS;first|with_reducible exact AF hS (uS _ _ _ _ _ _ _ _ (HR.out.keep hS) Hi.out))|refine jX ?_))
   refine aj.bY ?_;intro w2 hS;go_wp2
   go_ret
   exact⟨fV (by rw[W1.out,W2.out];simp[h0]),by(repeat (first|exact Below.refl _ _ | assumption|refine Below.drew ?_ | refine Below.drewN ?_ _ | refine aD ?_ _ | refine Below.setCell ?_ Z4f _ | refine Below.ay ?_ aF (by assumption)))⟩
def Sound(S:Nat->Fe.St)(n:Nat):Prop:=∀i,i<n->((0<=(S i).x.b/\(S i).x.b<=1048576)/\0<=(S i).x.s/\(S i).x.s<=1000)/\0<=(S i).z/\(S i).z<=1048576
theorem JZ{n:Nat}(h:Sound S n)(k:Nat)(hk:k<=n):room-1048576*k<=Fe.left room S k/\Fe.left room S k<=room:=by
 induction k with
 | zero=>simp[Fe.left]
 | succ k ih =>
   obtain⟨h1,h2⟩:=ih ak;obtain⟨⟨⟨b1,b2⟩,_⟩,z1,z2⟩:=h k ak;simp only[Fe.left];split<;>constructor<;>omega
theorem Ng(R I n:Nat)(room:Int)(gr:Bool)(S:Nat->Fe.St)(w:World)(h:fZ w R I n room gr S)(hs:Sound S n)(hn:n<=64)(hr:0<=room/\room<=67108864) :
  Calls ja0 219 #[R] w λe w'=>e=.returned (.int .i64 (Fe.free gr room S n))/\Below w w w':=by
 have HR:=ah h;have HS:=ah hs;obtain⟨l0,c0,c1,c2⟩:=h.cells;clear h hs c2;go_enter Tryz.func219,Tryz.ntmps219
 go_wp2;clear c0 c1
 go_loopw [3,15] (λl i wr=>∃k:Nat,k<=n/\i=.int .i64 k/\l=.int .i64 (Fe.left room S k)/\Below w w wr) (λ_ i _=>n-(intOf i).toNat)
 case atStart=>exact⟨0,by omega,rfl,rfl,Below.refl _ _⟩
 case round =>
  obtain⟨k,hk,rfl,rfl,hB⟩:=hrel;obtain⟨l0,c0,c1,c2⟩:=(HR.out.keep hB).cells;by_cases hlt:k<n
  . obtain⟨l1,d0,d1,d2,d3,d4,d5,d6,d7⟩:=(HR.out.keep hB).2.fields hlt
    obtain⟨g1,g2⟩:=JZ (room:=room) HS.out k ak;obtain⟨⟨⟨b1,b2⟩,_⟩,z1,z2⟩:=HS.out k hlt;cases hf:(S k).f with
    | true =>
      have HL:Hid (Fe.left room S (k+1)=Fe.left room S k-(S k).z):=ah (by simp[Fe.left,hf]);exact Zw
    | false =>
      have HL:Hid (Fe.left room S (k+1)=Fe.left room S k-(S k).x.b):=ah (by simp[Fe.left,hf]);exact Zw
  . obtain rfl:k=n:=by omega
    obtain⟨g1,g2⟩:=JZ (room:=room) HS.out k ak;obtain⟨q,hq,HQ⟩:∃q,q=(if Fe.sg gr*Fe.left room S k<0 then 0 else Fe.sg gr*Fe.left room S k)/\Fe.free gr room S k=q:=⟨_,rfl,rfl⟩;replace HQ:=ah HQ;generalize Fe.left room S k=u at *;cases gr
    . simp only[Fe.sg,Bool.false_eq_true,if_false]at *
      go_wp2
      all_goals
       go_ret
       exact⟨bQ (by rw[HQ.out,hq];(repeat' split)<;>omega),hB⟩
    . simp only[Fe.sg,if_true]at *
      go_wp2
      all_goals
       go_ret
       exact⟨bQ (by rw[HQ.out,hq];(repeat' split)<;>omega),hB⟩
end
section
open Go.Shelf
open List renaming setIfInBounds_toArray → ja1,set_cons_zero → ja2,set_cons_succ → ja3,length_cons → jb4
variable {S:Nat->Fe.St}{room:Int}{W:World}{gr:Bool}
attribute [local go_sem] Oper.semAt_some
theorem Below.turn{N:Nat}{w W:World}{r:Nat}{o':Obj}(h:Below N w W)(hr:N<=r)(hW:W.heap[r]? = some o')(o:Obj):Below N w (W.putObj r o) :=
 h.trans ((Below.refl N W).grown (grownBy_putObj' W r o) (by have:=(Array.getElem?_eq_some_iff.1 hW).1;omega) (λk e=>by cases e;exact hr))
theorem fZ.turn{R I n r:Nat}(h:fZ W R I n room gr S)(h1:R<r)(h2:I<r)(o:Obj):fZ (W.putObj r o) R I n room gr S:=⟨h.1.turn ak o,h.2.turn ak o⟩
theorem fZ.alloc{R I n:Nat}(h:fZ W R I n room gr S)(o:Obj):fZ (W.alloc o) R I n room gr S:=⟨h.1.alloc o,h.2.alloc o⟩
theorem fZ.off{R I n b k:Nat}(h:fZ W R I n room gr S)(h1:R≠b)(h2:I≠b)(v:Value):fZ (W.setCell ⟨b,k,none⟩ v) R I n room gr S:=⟨h.1.off h1 k v,h.2.off h2 v⟩
theorem fZ.sees{R I n:Nat}(h:fZ W R I n room gr S)(i:Nat):adN R I n room (Fe.sg gr) S i W :=
 ⟨h.1,h.2.lt,λk _ hk=>h.2.cell hk 7 ak⟩
theorem KeepsFrom.of_below{B:Nat}{W W':World}(h:Below W W W'):KeepsFrom B W W' :=
 ⟨h.size,λk o _ hk _=>(h.block k (Array.getElem?_eq_some_iff.1 hk).1).trans hk⟩
theorem DU(R I n:Nat)(room:Int)(gr:Bool)(S:Nat->Fe.St)(w:World)(h:fZ w R I n room gr S)(hn:n<=64) :
  Calls ja0 209 #[R] w λe w'=>e=.returned (.bool (decide (0<Fe.pl S n)))/\Below w w w':=by
 have Kc:=@tC;have hR:=h.1.lt;have hI:=h.2.lt;have HR:=ah h;clear h;refine(callsIn_wide (n:=5)).1 ?_;refine callsIn_of_wp_marks Tryz.func209 rfl trivial ?_ rfl;simp only[Tryz.ntmps209,List.size_toArray,jb4,List.length_nil,Nat.reduceAdd,Nat.reduceSub,Array.replicate_succ,Array.replicate_zero,List.push_toArray,List.append_toArray,List.nil_append,List.cons_append]
 gi_wp2
 have hA:At (w.alloc (.cells #[false] 4)) w.heap.size (.cells #[false] 4):=At.new _ _;have hB:Below w w (w.alloc (.cells #[false] 4)):=aD aG _;have yD:=HR.out.alloc (.cells #[false] 4);have hsz:(w.alloc (.cells #[false] 4)).heap.size=w.heap.size+1:=by simp
 generalize w.alloc (.cells #[false] 4)=W0 at *
 refine lH (n:=5) (gf:=215) (first:=#[R]) (lb:=#[]) rfl (enters_of Tryz.func215 bE rfl) n (λi=>(S i).f) (λi=>#[.int .i64 (Fe.pl S i:Nat),.pointer (some ⟨I,i*8,none⟩)]) (λ_=>rfl)
  (λi W=>fZ W R I n room gr S/\At W w (.cells #[false] 4)/\Below w w W/\Fe.pl S i=0)
  (λW=>At W w (.cells #[true] 4)/\Below w w W/\0<Fe.pl S n)
  (λi W r o o' h hr hW _=>⟨h.1.turn ak ak o,h.2.1.turn ak o,Below.turn h.2.2.1 ak hW o,h.2.2.2⟩)
  (λW r o o' h hr hW _=>⟨h.1.turn ak o,Below.turn h.2.1 ak hW o,h.2.2⟩)
  (λo1 o2=>⟨(yD.alloc o1).alloc o2,(hA.alloc o1).alloc o2,aD (aD hB o1) o2,rfl⟩)
  (λlp J Jx W hV hs hY hJ=>tL 4 R I n room (Fe.sg gr) S hn lp J Jx W (λi W h=>(hV i W h).1.sees i) hs hY hJ)
  (λi W hi hf h=>⟨h.1,h.2.1,h.2.2.1,by simp[Fe.pl,hf,h.2.2.2]⟩)
  (λi t=>(t.setIfInBounds 5 (.int .i64 (Fe.pl S i:Nat))).setIfInBounds 6 (.pointer (some ⟨I,i*8,none⟩))) ?assign ?body ?done ?stop
 case assign =>
  intro l i W G hi hG;exact Z1k
 case body =>
  rintro l i W hi hf ⟨uN,hA1,hB1,hp⟩;have hc:=hA1.cell 0;have hz:=hA1.thaw 0;simp only[ja1,ja2,ja3]
  gi_wp2
  exact⟨(KeepsOthers.setCell _ _ _).from _,hA1.set 0 _,Below.setCell hB1 aF _,by have:=Fe.R4 S hi hf;omega⟩
 case done =>
  rintro D W hD ⟨uN,hA1,hB1,hp⟩ hK;have hc:=hA1.cell 0;have hz:=hA1.thaw 0
  gi_wp2
  refine⟨by simp,.inl ⟨_,_,rfl,run_takeDeferred ((KeepsOthers.setCell _ _ _).same D _ hK rfl),?_⟩⟩;have hA2:=(hA1.set 0 (.bool false)).turn (r:=D) ak (.deferred none);have hB2:=Below.turn (Below.setCell hB1 aF (.bool false) (p:=⟨w,0,none⟩)) ak ((KeepsOthers.setCell _ _ _).same D _ hK rfl) (.deferred none);have hc2:=hA2.cell 0;generalize World.putObj _ _ _=W2 at *;refine⟨.bool false,?_,by rw[hp];rfl,hB2⟩;simp[results,Tryz.results209,go_sem,hc2]
 case stop =>
  rintro D W hD ⟨hA1,hB1,hp⟩ hK;have hc:=hA1.cell 0
  gi_wp2
  refine⟨by simp,.inl ⟨_,_,rfl,run_takeDeferred hK,?_⟩⟩;have hA2:=hA1.turn (r:=D) ak (.deferred none);have hB2:=Below.turn hB1 ak hK (.deferred none);have hc2:=hA2.cell 0;generalize World.putObj _ _ _=W2 at *;refine⟨.bool true,?_,by rw[decide_eq_true hp],hB2⟩;simp[results,Tryz.results209,go_sem,hc2]
end
section
open Go.Shelf
open List renaming setIfInBounds_toArray → ja1,set_cons_zero → ja2,set_cons_succ → ja3,length_cons → jb4
variable {S T:Nat->Fe.St}
attribute [local go_sem] Oper.semAt_some
def nD(S T:Nat->Fe.St)(i:Nat):Nat->Fe.St:=λk=>if k<i then T k else S k
theorem xR(S T:Nat->Fe.St):nD S T 0=S:=by funext k;simp[nD]
theorem pX{i k:Nat}(h:i<=k):nD S T i k=S k:=by simp[nD,show¬ k<i by omega]
theorem Ja{i:Nat}(h:T i=S i):nD S T (i+1)=nD S T i:=by
 funext k;unfold nD;rcases Nat.lt_trichotomy k i with h'|h'|h'
 . simp[h',show k<i+1 by omega]
 . subst h';simp[h]
 . simp[show¬ k<i by omega,show¬ k<i+1 by omega]
theorem uT(S T:Nat->Fe.St)(i:Nat):nD S T (i+1) i=T i:=by simp[nD]
theorem zV(S T:Nat->Fe.St){i k:Nat}(h:k≠i):nD S T (i+1) k=nD S T i k:=by
 unfold nD;rcases Nat.lt_or_ge k i with h'|h'
 . simp[h',show k<i+1 by omega]
 . simp[show¬ k<i by omega,show¬ k<i+1 by omega]
theorem zW(S T:Nat->Fe.St)(n:Nat):∀i,i<n->nD S T n i=T i:=λi hi=>by simp[nD,hi]
theorem fZ.mixed{W:World}{R I n i:Nat}{room:Int}{gr:Bool}(h:fZ W R I n room gr (nD S T i)):adN R I n room (Fe.sg gr) S i W :=
 ⟨h.1,h.2.lt,λk hk hn=>by have:=h.2.cell hn 7 ak;rw[pX hk]at this;exact this⟩
theorem fZ.ne{W:World}{R I n:Nat}{room:Int}{gr:Bool}{S:Nat->Fe.St}(h:fZ W R I n room gr S):R≠I:=by
 rintro rfl;obtain⟨h1,vs,h2,_⟩:=h;unfold At Qo at h1;unfold At at h2;rw[h1]at h2;injection h2 with h2;injection h2 with _ h2;exact absurd h2 aN
theorem abw{S:Nat->Fe.St}{n:Nat}(h:∀i,i<n->-134217728<=(S i).m/\(S i).m<=134217728)(k:Nat)(hk:k<=n) : -134217728*k<=Fe.made S k/\Fe.made S k<=134217728*k:=by
 induction k with
 | zero=>simp[Fe.made]
 | succ k ih =>
   have:=ih ak;have:=h k ak;simp only[Fe.made];split<;>constructor<;>omega
theorem E8(N R I n:Nat)(room:Int)(gr:Bool)(S:Nat->Fe.St)(w:World)(h:fZ w R I n room gr S)(hn:n<=64)(hN:N<=I/\N<=w.heap.size)(hm:∀i,i<n->-134217728<=(S i).m/\(S i).m<=134217728) :
  Calls ja0 211 #[R] w λe w'=>(∃v,e=.returned v)/\fZ w' R I n room gr (Fe.froze n S)/\Below N w w':=by
 have Kc:=@tC;have hR:=h.1.lt;have hI:=h.2.lt;have HR:=ah h;have HM:=ah hm;clear h hm;refine(callsIn_wide (n:=5)).1 ?_;refine callsIn_of_wp_marks Tryz.func211 rfl trivial ?_ rfl;simp only[Tryz.ntmps211,List.size_toArray,jb4,List.length_nil,Nat.reduceAdd,Nat.reduceSub,Array.replicate_succ,Array.replicate_zero,List.push_toArray,List.append_toArray,List.nil_append,List.cons_append]
 gi_wp2
 obtain⟨W0,hA,hB,yD,hsz,hW⟩:∃W0,At W0 w (.cells #[()] 3)/\Below N w W0/\fZ W0 R I n room gr S/\W0.heap.size=w.heap.size+1/\w.alloc (.cells #[()] 3)=W0 :=
  ⟨_,At.new w (.cells #[()] 3),(Below.refl _ _).alloc hN.2 _,HR.out.alloc _,by simp,rfl⟩
 rw[hW];clear hW
 refine lH (n:=5) (gf:=215) (first:=#[R]) (lb:=#[]) rfl (enters_of Tryz.func215 bE rfl) n (λi=>(S i).f) (λi=>#[.int .i64 (Fe.pl S i:Nat),.pointer (some ⟨I,i*8,none⟩)]) (λ_=>rfl)
  (λi W=>fZ W R I n room gr S/\At W w (.cells #[.int .i64 (Fe.made S i)] 3)/\Below N w W)
  (λW=>False)
  (λi W r o o' h hr hW _=>⟨h.1.turn ak ak o,h.2.1.turn ak o,Below.turn h.2.2 ak hW o⟩)
  (λW r o o' h hr hW _=>h)
  (λo1 o2=>⟨(yD.alloc o1).alloc o2,(hA.alloc o1).alloc o2,(hB.alloc ak o1).alloc jB o2⟩)
  (λlp J Jx W hV hs hY hJ=>tL 4 R I n room (Fe.sg gr) S hn lp J Jx W (λi W h=>(hV i W h).1.sees i) hs hY hJ)
  (λi W hi hf h=>⟨h.1,by simp only[Fe.made,hf,if_true];exact h.2.1,h.2.2⟩)
  (λi t=>((t.setIfInBounds 9 (.int .i64 (Fe.pl S i:Nat))).setIfInBounds 10 (.pointer (some ⟨I,i*8,none⟩))).setIfInBounds 4 (.pointer (some ⟨I,i*8,none⟩))) ?assign ?body ?done ?stop
 case assign =>
  exact Z15
 case body =>
  rintro l i W hi hf ⟨uN,hA1,hB1⟩;have hc:=hA1.cell 0;have hz:=hA1.thaw 0;have l1:=hA1.lt;obtain⟨l2,d0,d1,d2,d3,d4,d5,d6,d7⟩:=uN.2.fields hi;have g1:=abw HM.out i ak;have g2:=HM.out i hi;have HL:Hid (Fe.made S (i+1)=Fe.made S i+(S i).m):=ah (by simp[Fe.made,hf]);have w1:IntKind.i64.wrap (Fe.made S i+(S i).m)=Fe.made S (i+1):=by rw[HL.out];exact IntWalk.i64_in _ ak
  generalize hT:Fe.made S (i+1)=T at *;have HT:=ah hT;clear hT;generalize Fe.made S i=u at *;generalize (S i).m=v at *;clear d0 d1 d2 d3 d4 d5 d7
  (simp only[ja1,ja2,ja3])
  gi_upto_region 3 with(fail)
  refine aj.PE 6 1 aG bE bE rfl bE bE bE (by rintro⟨_,_,hh⟩;exact hh) ?_
  (repeat (first|refine jV ?_ | refine jW ?_ (hc:=by intro w2 hS;first|with_reducible exact AF hS (fO _ _))|refine jX ?_))
  refine aj.dH ?_;intro w2 hS;have A2:=hA1.keep hS;have z2:=A2.thaw 0;have e2:=A2.cell 0;refine vH ?_;intro K hK;go_simp;refine hK _ _ (aj.bF ?_);clear hK K
  gi_wp2
  refine⟨(KeepsFrom.of_below hS).trans ((KeepsOthers.setCell _ _ _).from _),(uN.keep hS).off ak ak _,?_,Below.setCell (Below.trans hB1 (hS.mono ak)) hN.2 _⟩;exact A2.set 0 _
 case stop=>exact λD W hD h _=>h.elim
 case done =>
  rintro D W hD ⟨uN,hA1,hB1⟩ hK;have hlD:=(Array.getElem?_eq_some_iff.1 hK).1;generalize hT:Fe.made S n=T at *;have HT:=ah hT;clear hT;have hF:∀i,Fe.froze n S i=if (S i).f then S i else ⟨(S i).x,(S i).z,(S i).m,Fe.RY T (S i).m⟩:=λi=>by unfold Fe.froze;rw[HT.out]
  have HF:=ah hF;clear hF hA hB yD HR
  gi_wp2
  refine lH (n:=5) (gf:=215) (first:=#[R]) (lb:=#[]) rfl (enters_of Tryz.func215 bE rfl) n (λi=>(S i).f) (λi=>#[.int .i64 (Fe.pl S i:Nat),.pointer (some ⟨I,i*8,none⟩)]) (λ_=>rfl)
   (λi W=>fZ W R I n room gr (nD S (Fe.froze n S) i)/\At W w (.cells #[T] 3)/\Below N w W/\W.heap[D]? = some (.deferred (some [])))
   (λW=>False)
   (λi W r o o' h hr hW _=>⟨h.1.turn ak ak o,h.2.1.turn ak o,Below.turn h.2.2.1 ak hW o,(World.putObj_heap_other ak).trans h.2.2.2⟩)
   (λW r o o' h hr hW _=>h)
   (λo1 o2=>⟨by rw[xR];exact(uN.alloc o1).alloc o2,(hA1.alloc o1).alloc o2,(hB1.alloc ak o1).alloc jB o2,(At.alloc (show At W D _ from hK) o1).alloc o2⟩)
   (λlp J Jx W hV hs hY hJ=>tL 4 R I n room (Fe.sg gr) S hn lp J Jx W (λi W h=>(hV i W h).1.mixed) hs hY hJ)
   (λi W hi hf h=>⟨by rw[Ja (by rw[HF.out,hf];rfl)];exact h.1,h.2⟩)
   (λi t=>((t.setIfInBounds 19 (.int .i64 (Fe.pl S i:Nat))).setIfInBounds 20 (.pointer (some ⟨I,i*8,none⟩))).setIfInBounds 6 (.pointer (some ⟨I,i*8,none⟩))) ?assign ?body ?done ?stop
  case assign =>
   exact Z15
  case body =>
   rintro l i W2 hi hf ⟨hR2,hA2,hB2,hD2⟩;have hc:=hA2.cell 0;have hz:=hA2.thaw 0;have l1:=hA2.lt;obtain⟨l2,d0,d1,d2,d3,d4,d5,d6,d7⟩:=hR2.2.fields hi;rw[pX (aO _)]at d6;have z7:=hR2.2.thaw (i*8+7);have HN:Hid (Fe.froze n S i=⟨(S i).x,(S i).z,(S i).m,Fe.RY T (S i).m⟩):=ah (by rw[HF.out,hf];rfl);have hne:=hR2.ne;have fin:∀b,Fe.RY T (S i).m=b->roundEnd W.heap.size (λW=>fZ W R I n room gr (nD S (Fe.froze n S) (i+1))/\At W w (.cells #[T] 3)/\Below N w W/\W.heap[D]? = some (.deferred (some []))) (λ_=>False) W2 .normal { tmps:=#[],defers:=[] } (W2.setCell ⟨I,i*8+7,none⟩ (.bool b)):=by
    intro b hb;refine⟨(KeepsOthers.setCell _ _ _).from _,⟨hR2.1.off ak _ _,?_⟩,hA2.off ak _ _,Below.setCell hB2 hN.1 _,(KeepsOthers.setCell _ _ _).same _ _ hD2 rfl⟩;refine hR2.2.put hi ak ?_ ?_ ?_
    . rw[uT,HN.out];simp[L6,hb]
    . intro q hq hqn
      rw[uT,HN.out,pX (aO _)];unfold L6
      (repeat' split)<;>first|rfl|omega
    . intro k hk hkn;rw[zV _ _ hkn]
   have FIN:=ah fin;clear fin d0 d1 d2 d3 d4 d5 HN;generalize (S i).m=v at *
   (simp only[ja1,ja2,ja3])
   rcases Int.lt_trichotomy T 0 with hT|hT|hT
   . have q1:decide (T=0)=false:=by simp;omega
     have q2:decide (0<T)=false:=by simp;omega
     have q3:decide (T<0)=true:=by simp;omega
     by_cases hv:v<0
     . gi_wp2
       refine FIN.out _ ?_;unfold Fe.RY;rw[q1,q2,q3];first|(simp;done)|(simp;omega)
     . gi_wp2
       refine FIN.out _ ?_;rw[show(T==0)=false by simp;omega];unfold Fe.RY;rw[q1,q2,q3];simp;omega
   . subst hT
     gi_wp2
     refine FIN.out _ ?_;simp[Fe.RY]
   . have q1:decide (T=0)=false:=by simp;omega
     have q2:decide (0<T)=true:=by simp;omega
     have q3:decide (T<0)=false:=by simp;omega
     by_cases hv:0<v
     . gi_wp2
       refine FIN.out _ ?_;unfold Fe.RY;rw[q1,q2,q3];first|(simp;done)|(simp;omega)
     . gi_wp2
       refine FIN.out _ ?_;rw[show(T==0)=false by simp;omega];unfold Fe.RY;rw[q1,q2,q3];simp;omega
  case stop=>exact λD W hD h _=>h.elim
  case done =>
   rintro D2 W2 hD2 ⟨hR2,hA2,hB2,hK1⟩ hK2
   gi_wp2
   have hl2:=(Array.getElem?_eq_some_iff.1 hK2).1;refine⟨by simp,.inl ⟨_,_,rfl,run_takeDeferred hK2,?_⟩⟩;have hK3:(W2.putObj D2 (.deferred none)).heap[D]? = some (.deferred (some [])):=(World.putObj_heap_other ak).trans hK1;refine⟨by simp,.inl ⟨_,_,rfl,run_takeDeferred hK3,?_⟩⟩;exact⟨_,results_none rfl _ _ _,⟨_,rfl⟩,⟨((hR2.turn ak ak _).turn ak ak _).1,(((hR2.turn ak ak _).turn ak ak _).2.same (zW _ _ _))⟩,Below.turn (Below.turn hB2 ak hK2 _) ak hK3 _⟩
end
open World renaming alloc → ja5
def enc(x:Fe.It):Value:=.agg #[x.b,x.lo,x.hi,x.g,x.s]
theorem Sv(n:Int)(w:World):Calls ja0 221 #[n] w λe w'=>e=.returned (.int .i64 (Fe.cw n))/\w=w':=by
 go_enter Tryz.func221,Tryz.ntmps221
 go_wp2_with (first|(go_at_call 38;with_reducible refine oo (qc _ _ _ _) ?_))
 go_ret
 exact⟨bQ (Fe.Xk ak ak),rfl⟩
theorem Kr(n m:Int)(w:World)(h:0<=m/\m<=1073741824):Calls ja0 38 #[n,(),m] w λe w'=>e=.returned (.int .i64 (Fe.to n m))/\w=w':=by
 rw[<-Fe.Xk h.1 h.2];exact qc n 0 m w
theorem Nh{a b c d f a' b' c' d' f':Int}(h1:a=a')(h2:b=b')(h3:c=c')(h4:d=d')(h5:f=f'):Ending.returned (.agg #[.int .i64 a,.int .i64 b,.int .i64 c,.int .i64 d,.int .i64 f])=.returned (.agg #[a',b',c',d',f']):=by rw[h1,h2,h3,h4,h5]
theorem Ni(x:Fe.It)(w:World):Calls ja0 203 #[enc x] w λe w'=>e=.returned (enc (Fe.cnt x))/\Below w w w':=by
 obtain⟨b,lo,hi,g,s⟩:=x;simp only[enc,Fe.cnt];go_enter Tryz.func203,Tryz.ntmps203
 go_wp2;refine zB 16 1 ?_ (h0:=by first|assumption|exact Below.refl _ _)
 (repeat (first|refine jV ?_ | refine jW ?_ (hc:=by intro w2 hS;first|with_reducible exact AF hS (Kr _ _ _ ak))|refine jX ?_))
 refine aj.dH ?_;intro w2 hS;obtain⟨hc,hf⟩:=iV hS;refine vH ?_;intro K hK;go_simp;refine hK _ _ (aj.bF ?_);clear hK K;go_wp2;refine bodyPost_ret (v:=.agg #[_,_,_,_,_]) (by simp[results,Tryz.results203,go_sem, *];first|done|exact⟨rfl,rfl⟩|exact⟨rfl,rfl,rfl,rfl⟩|exact⟨rfl,rfl,rfl,rfl,rfl⟩|rfl) rfl ⟨Nh rfl rfl rfl rfl rfl,?_⟩;exact Z1
theorem uU{w:World}{b:Nat}{T:TypeId}(f:Nat->Int)(n:Nat)(hn:n<=maxLen)(h:At w b (.cells (bG f n n) T)):Ints w (some ⟨b,0,none⟩) ((List.range n).map f):=by
 refine⟨by simpa using hn,λh0=>⟨b,0,rfl,λk hk => ?_⟩⟩;simp only[List.length_map,List.length_range]at hk;rw[h.cell,Nat.zero_add,dO _ hk];simp[hk]
theorem Qq(f:Nat->Int)(n:Nat)(h:∀k,k<n->f k=0):bG f n 0=bG f n n:=by
 unfold bG;congr 1;apply List.map_congr_left;intro j hj;have hj:j<n:=by simpa using hj
 simp[hj,h j hj]
theorem Ea(A:Option Addr)(l:List Int)(n c:Nat)(x:Int)(w:World)(hI:Ints w A l)(hl:l.length=n)(hn:n<=64) :
  Calls ja0 218 #[x,.slice A n c] w λe w'=>(∃b,e=.returned (.slice (some ⟨b,0,none⟩) n n)/\w.heap.size<=b/\Ints w' (some ⟨b,0,none⟩) (Fe.share x l))/\Below w w w':=by
 obtain⟨i0,hi0,hz0,hz1,hz2⟩:=info_parts intZero;have HI:=ah hI;clear hI;have HL:=ah hl;clear hl;go_enter Tryz.func218,Tryz.ntmps218
 go_upto_region 5 with(first|first|(go_at_call 38;with_reducible refine oo (Kr _ _ _ ak) ?_)|(at_make;refine wpList_make_row _ rfl _ _ 37 rfl 3 i0 (.int .i64 0) Tryz.underlying37 hi0 hz0 hz1 rfl .i64 .i64 n rfl rfl TQ ak ?_))
 have Uz:At (w.alloc (.cells (madeCells #[()] n) 3)) w.heap.size (.cells (bG (Fe.part x l) n 0) 3):=by rw[<-j3];exact At.new _ _
 have hB0:Below w w (w.alloc (.cells (madeCells #[()] n) 3)):=aD aG _;generalize (w.alloc (.cells (madeCells #[()] n) 3))=W1 at *;have HI1:Hid (Ints W1 A l):=ah (HI.out.after hB0);obtain⟨N,hN⟩:∃N,N=Fe.to x 67108864:=⟨_,rfl⟩;have N1:0<=N:=by rw[hN];exact Fe.sV ak
 have N2:N<=67108864:=by rw[hN];exact Fe.vJ ak
 rw[<-hN];have HN:=ah hN;clear hN;have HA0:=ah Uz;clear Uz;have HB0:=ah hB0;clear hB0;go_wp2
 go_loop [6,24] (λs i=>∃k:Nat,k<=n/\i=.int .i64 k/\s=.int .i64 (Fe.up l k)) (λ_ i=>n-(intOf i).toNat)
 case atStart=>exact⟨0,by omega,rfl,rfl⟩
 case round =>
  obtain⟨k,hk,rfl,rfl⟩:=hrel;by_cases hlt:k<n
  . obtain⟨b1,o1,hA1,l1,c1⟩:=HI1.out.at_ (k:=k) (by rw[HL.out];exact hlt)
    have hs:Hid (Fe.up l k+Fe.cw (l.getD k 0)=Fe.up l (k+1)):=ah rfl;have g1:=Fe.Ej l k;have g2:Fe.up l k<=68719476736:=by have:=Fe.Mg l k;omega
    have g3:=Fe.Xi (l.getD k 0);have g4:=Fe.Xj (l.getD k 0);generalize l.getD k 0=z at *;generalize Fe.up l k=u at *;subst hA1
    go_wp2_with (first|(go_at_call 221;with_reducible refine oo (Sv _ _) ?_))
    go_round
    case rel=>exact⟨k+1,by omega,by go_num,by rw[hs.out]⟩
    case measure=>simp[intOf];omega
  . obtain rfl:k=n:=by omega
    have ha:Hid (Fe.up l k=Fe.all l):=ah (by unfold Fe.all;rw[HL.out]);have g1:=Fe.Ej l k;have g2:Fe.up l k<=68719476736:=by have:=Fe.Mg l k;omega
    generalize ha':Fe.up l k=a at *;by_cases h0:a=0
    . subst h0
      go_wp2;refine bodyPost_ret (v:=.slice w k k) (by simp[results,Tryz.results218,go_sem, *];first|done|exact⟨rfl,rfl⟩|rfl) rfl ⟨⟨w.heap.size,rfl,aO _,?_⟩,HB0.out⟩;unfold Fe.share;rw[HL.out];refine uU (T:=3) _ k LY ?_;have h9:=HA0.out;rw[Qq _ _ (λj _=>Fe.IG (ha.out.symm) j)]at h9;exact h9
    . have ha1:1<=a:=by omega
      have HAA:Hid (Fe.up l k=a):=ah ha';clear ha';go_wp2
      go_loopw [9,10,38] (λh t i wr=>∃j:Nat,j<=k/\i=.int .i64 j/\h=.int .i64 (Fe.up l j)/\t=.int .i64 (Fe.so x l j)/\At wr w (.cells (bG (Fe.part x l) k j) 3)/\Below w w wr) (λ_ _ i _=>k-(intOf i).toNat)
      case atStart=>exact⟨0,by omega,rfl,rfl,by rw[Fe.RU],HA0.out,HB0.out⟩
      case round =>
       obtain⟨j,hj,rfl,rfl,rfl,hA,hB⟩:=hrel;by_cases hjt:j<k
       . obtain⟨b1,o1,hA1,l1,c1⟩:=(HI.out.after hB).at_ (k:=j) (by rw[HL.out];exact hjt)
         have hs:Hid (Fe.up l j+Fe.cw (l.getD j 0)=Fe.up l (j+1)):=ah rfl;have g3:=Fe.Xi (l.getD j 0);have g4:=Fe.Xj (l.getD j 0);have g5:=Fe.Ej l j;have g6:Fe.up l j<=68719476736:=by have:=Fe.Mg l j;omega
         have hq:Hid (N*Fe.up l (j+1)/a=Fe.so x l (j+1)):=ah (by unfold Fe.so;rw[HN.out,ha.out]);have hp:Hid (Fe.so x l (j+1)-Fe.so x l j=Fe.part x l j):=ah rfl;have q1:=Fe.acP x l j;have q2:=Fe.JX x l (show j<=j+1 by omega);have q3:Fe.so x l (j+1)<=67108864:=Int.le_trans (Fe.acQ x l (k:=j+1) Z4o) (Fe.vJ ak);have p1:=Fe.afE x l (k:=j+1) ak;rw[<-HN.out]at p1;have e1:(N*Fe.up l (j+1)).tdiv a=Fe.so x l (j+1):=by
          rw[<-hq.out];exact Int.tdiv_eq_ediv_of_nonneg p1.1
         have W2:Hid (wrap64 ((wrap64 (N*Fe.up l (j+1))).tdiv a)=Fe.so x l (j+1)):=ah (by rw[IntWalk.wrap64_in (N*Fe.up l (j+1)) ak,e1];exact IntWalk.wrap64_in _ ak);have W3:Hid (wrap64 (Fe.so x l (j+1)-Fe.so x l j)=Fe.part x l j):=ah (by rw[IntWalk.wrap64_in _ ak];exact hp.out);have w3:IntKind.i64.wrap (Fe.up l j+Fe.cw (l.getD j 0))=Fe.up l (j+1):=by rw[hs.out];exact IntWalk.i64_in _ (by have:=Fe.Mg l (j+1);have:=Fe.Ej l (j+1);omega)
         have hz:=hA.thaw j;have hc0:=hA.cell j;rw[dO _ hjt]at hc0;have hlb:=hA.lt;clear e1 p1 q1 q2 q3;generalize l.getD j 0=z at *;generalize hu':Fe.up l (j+1)=u' at *;have hs2:=ah hu';clear hu';generalize Fe.up l j=u at *;generalize hs':Fe.so x l (j+1)=s' at *;have hs1:=ah hs';clear hs';generalize Fe.so x l j=s at *;generalize hpp:Fe.part x l j=p at *;have HPP:=ah hpp;clear hpp;subst hA1
         go_wp2_with (first|(go_at_call 221;with_reducible refine oo (Sv _ _) ?_))
         go_roundw
         case rel =>
          refine⟨j+1,by omega,by go_num,by rw[hs2.out],by rw[W2.out,hs1.out],?_,Below.setCell hB aF _⟩;rw[W2.out,W3.out,<-lD _ hjt,HPP.out];exact hA.set j _
         case measure=>simp[intOf];omega
       . obtain rfl:j=k:=by omega
         go_wp2;refine bodyPost_ret (v:=.slice w j j) (by simp[results,Tryz.results218,go_sem, *];first|done|exact⟨rfl,rfl⟩|rfl) rfl ⟨⟨w.heap.size,rfl,aO _,?_⟩,hB⟩;unfold Fe.share;rw[HL.out];exact uU _ j LY hA
theorem At.five{W:World}{b:Nat}{x y z u v:Value}{T:TypeId}(h:At W b (.cells #[x,y,z,u,v] T)):b<W.heap.size/\W.cell? ⟨b,0,none⟩=some x/\W.cell? ⟨b,1,none⟩=some y/\W.cell? ⟨b,2,none⟩=some z/\W.cell? ⟨b,3,none⟩=some u/\W.cell? ⟨b,4,none⟩=some v:=⟨h.lt,h.cell 0,h.cell 1,h.cell 2,h.cell 3,h.cell 4⟩
theorem X6(n lo hi:Int)(w:World)(h:(0<=lo/\lo<=1048576)/\0<=hi/\hi<=1048576):Calls ja0 38 #[n,lo,hi] w λe w'=>e=.returned (.int .i64 (Fe.inn lo hi n))/\w=w':=by
 rw[<-Fe.aa0 h.1.1 h.1.2 h.2.1 h.2.2];exact qc n lo hi w
theorem Nj(b lo hi g s:Int)(w:World):Calls ja0 203 #[.agg #[b,lo,hi,g,s]] w λe w'=>e=.returned (enc (Fe.cnt ⟨b,lo,hi,g,s⟩))/\Below w w w':=Ni ⟨b,lo,hi,g,s⟩ w
theorem Qr(x:Fe.It)(n:Int)(w:World):Calls ja0 175 #[enc x,n] w λe w'=>e=.returned (.int .i64 (Fe.clamp x n))/\Below w w w':=by
 obtain⟨b,lo,hi,g,s⟩:=x;obtain⟨d1,d2,d3,d4,d5,d6,d7,d8,d9,d10⟩:=Fe.JU ⟨b,lo,hi,g,s⟩;unfold Fe.clamp;have HC:Hid (Fe.cnt ⟨b,lo,hi,g,s⟩=Fe.cnt ⟨b,lo,hi,g,s⟩):=ah rfl;generalize hc:Fe.cnt ⟨b,lo,hi,g,s⟩=c at *;obtain⟨b',lo',hi',g',s'⟩:=c;simp only at d1 d2 d3 d4 d5 d6;have HE:=ah hc;clear hc HC d7 d8 d9 d10;simp only[enc];go_enter Tryz.func175,Tryz.ntmps175
 go_upto_region 1 with(fail)
 generalize hW:ja5 _ _=W0;have A0:At W0 w (.cells #[b,lo,hi,g,s] 214):=hW▸At.new _ _;have hB:Below w w W0:=hW▸aD aG _;clear hW;obtain⟨l0,c0,c1,c2,c3,c4⟩:=A0.five
 go_upto_region 2 with(go_at_call 203;(with_reducible refine(Nj _ _ _ _ _ _).mono ?_);rintro e w' ⟨rfl,hb⟩;rw[HE.out];simp only[enc];clear l0 c0 c1 c2 c3 c4;replace A0:=A0.keep hb;replace hB:=Below.ay hB aF hb;clear hb;obtain⟨l0,c0,c1,c2,c3,c4⟩:=A0.five;have z0:=A0.thaw 0;have z1:=A0.thaw 1;have z2:=A0.thaw 2;have z3:=A0.thaw 3;have z4:=A0.thaw 4)
 go_wp2_with (first|(go_at_call 38;with_reducible refine oo (X6 _ _ _ _ ⟨by omega,by omega⟩) ?_))
 go_ret
 exact⟨bQ (by unfold Fe.inn;(repeat' split)<;>omega),by(repeat (first|exact Below.refl _ _ | assumption|refine Below.drew ?_ | refine Below.drewN ?_ _ | refine aD ?_ _ | refine Below.setCell ?_ Z4f _ | refine Below.ay ?_ aF (by assumption)))⟩
end Go.Proofs.YtfohooineeijkaaGreat.Fix
