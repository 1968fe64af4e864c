/- Steps of the program (12); no conditions. -/
import Derived.Test.YtfohooineeijkaaGreatM11
set_option linter.all false
set_option maxRecDepth 100000
set_option maxHeartbeats 16000000
namespace Go.Proofs.YtfohooineeijkaaGreat.Fix
open Go.ChangeShapes Go.WideShapes Go.ChangeAt Go.RowKit
open Go.Proofs.Tryz renaming prog → ja0
open List renaming set_cons_zero → ja2,ext_getElem → jb5,length_take → jc1
open World renaming setCell → ja4,alloc → ja5
variable {b1 b2 b3 b4 k:Nat}{left p s q:Int}{W W' w:World}{P P' M:Nat->Prop}
theorem aX{cs:Array Value}{i:Nat}{v:Value}(h:cs[i]? = some v):cs.setIfInBounds i v=cs:=by
 apply Array.ext_getElem?;intro j;rw[Array.getElem?_setIfInBounds];by_cases e:i=j
 . subst e
   have hlt:=(Array.getElem?_eq_some_iff.1 h).1;rw[if_pos rfl,if_pos hlt,h]
 . rw[if_neg e]
section
variable {Y:rF} {B:Int->Fw.Bx} {D:Int->Prop} {KM:World->Nat->Prop}
theorem Va(hK:∀(X X':World) (b:Nat),KM X b->Below X X X'->KM X' b)(z r0 r1 a0 a1:Int)(hz:D z)(R o:Nat)(cs:Array Value)(w:World)(hR:RO w Y B D KM)(hA:At w R (.cells cs 88))(ho:cs[o]? = some (.int .i64 z))(h5:cs[o+5]? = some (.int .i64 a0))(h6:cs[o+6]? = some (.int .i64 a1)) :
  Calls ja0 101 #[Y.lb,.pointer (some ⟨R,o,none⟩),.agg #[r0,r1]] w λe w'=>e=.returned (.tuple #[])/\At w' R (.cells ((cs.setIfInBounds (o+5) (.int .i64 (if (B z).sty.c 1=1 then Fw.AV (B z).sty 0 r0 a0 else a0))).setIfInBounds (o+6) (.int .i64 (if (B z).sty.c 1=1 then Fw.AV (B z).sty 1 r1 a1 else a1))) 88)/\Out (λb=>b=R) w w':=by
 obtain⟨x0,HX0⟩:∃x,Hid ((if (B z).sty.c 1=1 then Fw.AV (B z).sty 0 r0 a0 else a0)=x):=⟨_,ah rfl⟩;obtain⟨x1,TL⟩:∃x,Hid ((if (B z).sty.c 1=1 then Fw.AV (B z).sty 1 r1 a1 else a1)=x):=⟨_,ah rfl⟩;rw[HX0.out,TL.out];obtain⟨es0,U0,hpm⟩:=hR.Gv;have hbx:=(hR.box z hz).1;have hW1:Below w w (w.alloc (.cells #[r0,r1] 81)):=aD aG _;have hL:=λX (hb:Below (w.alloc (.cells #[r0,r1] 81)).heap.size (w.alloc (.cells #[r0,r1] 81)) X)=>(hR.keep hK (Below.after hW1 hb)).look hz;have A0:At (w.alloc (.cells #[r0,r1] 81)) w.heap.size (.cells #[r0,r1] 81):=At.new _ _;have A2:=hbx.alloc (.cells #[r0,r1] 81);have AR:=hA.alloc (.cells #[r0,r1] 81);have AL:=hR.lay.alloc (.cells #[r0,r1] 81);have hlR:=hA.lt;have hRb:R≠Y.bl z:=λq=>by have:=At.uniq hA (q▸hbx);cases this
 generalize hs:(B z).sty=s at *;generalize Y.vf z=vf at *;generalize Y.va z=va at *;generalize (B z).ib=ib at *;generalize Y.bl z=bz at *;go_enter Tryz.func101,Tryz.ntmps101
 go_upto_region 1 with(fail)
 generalize w.alloc (.cells #[r0,r1] 81)=W0 at *;obtain⟨l0,aA,aB⟩:=At.two A0;have Di:=AL.lt;have G9:W0.cell? ⟨Y.lb,2,none⟩=some (.map (some Y.bm)):=AL.cell 2;have lR:=AR.lt;have cR:W0.cell? ⟨R,o,none⟩=some (.int .i64 z):=(AR.cell o).trans ho;have l2:=A2.lt;have p1:W0.cell? ⟨bz,1,none⟩=some (.int .i64 (s.c 1)):=aR.int A2 1 aN rfl;refine vS ?_
 (repeat (first|refine jV ?_ | refine jW ?_ (hc:=by intro w2 hS;first|with_reducible exact jI hS (jE _))|refine jX ?_))
 refine aj.bY ?_;intro w2 hS;have hQ:Out (λb=>b=R) W0 w2:=Out.of_below hS;replace A0:=At.keep A0 hS;replace A2:=At.keep A2 hS;replace AR:=At.keep AR hS;replace p1:=((iV hS).1 _ _ l2).trans p1;clear hS hL Di G9 AL cR lR;replace l2:=A2.lt;have lR:=AR.lt;have cR:=(AR.cell (o+5)).trans h5;have zR:=AR.thaw (o+5);clear l0 aA aB;obtain⟨l0,aA,aB⟩:=At.two A0;have yg:R<w.heap.size:=hlR;by_cases hp:s.c 1=1
 . have HP:=ah hp
   have hp':(s.c 1 != 1)=false:=by simpa using hp
   clear hp
   go_upto_region 3 with(fail)
   clear p1 hp';go_wp2;refine wp_loop_rounds 3 ?_;cases abG:Fw.Gn s 0 0 r0
   . have Qv:=ah abG
     clear abG;cases abH:Fw.Gn s 0 1 r0
     . have Yn:=ah abH
       clear abH;rw[rounds_succ]
       go_upto_region 6 with(fail)
       go_upto_region 7 with((go_at_call 145;(with_reducible refine(wV bz s vf va ib r0 r1 _ A2).mono ?_);rintro e w3 ⟨rfl,hb⟩;replace hQ:=hQ.trans (Out.of_below hb);replace A0:=At.keep A0 hb;replace A2:=At.keep A2 hb;replace AR:=At.keep AR hb;clear hb))
       clear l0 aA aB lR cR zR;obtain⟨l0,aA,aB⟩:=At.two A0;have lR:=AR.lt;have cR:=(AR.cell (o+5)).trans h5;have zR:=AR.thaw (o+5);rw[Qv.out]
       go_upto_region 10 with((go_at_call 145;(with_reducible refine(zP bz s vf va ib r0 r1 _ A2).mono ?_);rintro e w3 ⟨rfl,hb⟩;replace hQ:=hQ.trans (Out.of_below hb);replace A0:=At.keep A0 hb;replace A2:=At.keep A2 hb;replace AR:=At.keep AR hb;clear hb))
       clear l0 aA aB lR cR zR;obtain⟨l0,aA,aB⟩:=At.two A0;have lR:=AR.lt;have cR:=(AR.cell (o+5)).trans h5;have zR:=AR.thaw (o+5);rw[Yn.out];rw[<-aX h5,show a0=Fw.AV s 0 r0 a0 from by unfold Fw.AV;rw[if_neg (by rw[Qv.out];simp),if_neg (by rw[Yn.out];simp)]]at AR;exact Z0
     . have Yn:=ah abH
       clear abH;rw[rounds_succ]
       go_upto_region 6 with(fail)
       go_upto_region 7 with((go_at_call 145;(with_reducible refine(wV bz s vf va ib r0 r1 _ A2).mono ?_);rintro e w3 ⟨rfl,hb⟩;replace hQ:=hQ.trans (Out.of_below hb);replace A0:=At.keep A0 hb;replace A2:=At.keep A2 hb;replace AR:=At.keep AR hb;clear hb))
       clear l0 aA aB lR cR zR;obtain⟨l0,aA,aB⟩:=At.two A0;have lR:=AR.lt;have cR:=(AR.cell (o+5)).trans h5;have zR:=AR.thaw (o+5);rw[Qv.out]
       go_upto_region 10 with((go_at_call 145;(with_reducible refine(zP bz s vf va ib r0 r1 _ A2).mono ?_);rintro e w3 ⟨rfl,hb⟩;replace hQ:=hQ.trans (Out.of_below hb);replace A0:=At.keep A0 hb;replace A2:=At.keep A2 hb;replace AR:=At.keep AR hb;clear hb))
       clear l0 aA aB lR cR zR;obtain⟨l0,aA,aB⟩:=At.two A0;have lR:=AR.lt;have cR:=(AR.cell (o+5)).trans h5;have zR:=AR.thaw (o+5);rw[Yn.out]
       go_upto_region 11 with(fail)
       refine yI 11 1 ?_
       (repeat (first|refine jV ?_ | refine jW ?_ (hc:=by intro w2 hS;first|with_reducible exact jI hS (jE _))|refine jX ?_))
       refine aj.dH ?_;intro w2 hS;replace hQ:=hQ.trans (Out.of_below hS);replace A0:=At.keep A0 hS;replace A2:=At.keep A2 hS;replace AR:=At.keep AR hS;clear hS;clear l0 aA aB lR cR zR;obtain⟨l0,aA,aB⟩:=At.two A0;have lR:=AR.lt;have cR:=(AR.cell (o+5)).trans h5;have zR:=AR.thaw (o+5);refine vH ?_;intro K hK;go_simp;refine hK _ _ (aj.bF ?_);clear hK K;generalize hW:ja4 _ _ _=W9;replace A0:At W9 _ _:=hW▸At.off A0 ak _ _;replace A2:At W9 _ _:=hW▸At.off A2 ak _ _;replace hQ:Out _ _ W9:=hW▸Out.set hQ rfl _ _;replace AR:At W9 R _:=hW▸At.set AR (o+5) _;clear hW;rw[sK,show Fw.wr (a0-Fw.ins s 0 1 r0)=Fw.AV s 0 r0 a0 from by unfold Fw.AV;rw[if_neg (by rw[Qv.out];simp),if_pos Yn.out]]at AR;exact Z0
   . have Qv:=ah abG
     clear abG;rw[rounds_succ]
     go_upto_region 6 with(fail)
     go_upto_region 7 with((go_at_call 145;(with_reducible refine(wV bz s vf va ib r0 r1 _ A2).mono ?_);rintro e w3 ⟨rfl,hb⟩;replace hQ:=hQ.trans (Out.of_below hb);replace A0:=At.keep A0 hb;replace A2:=At.keep A2 hb;replace AR:=At.keep AR hb;clear hb))
     clear l0 aA aB lR cR zR;obtain⟨l0,aA,aB⟩:=At.two A0;have lR:=AR.lt;have cR:=(AR.cell (o+5)).trans h5;have zR:=AR.thaw (o+5);rw[Qv.out]
     go_upto_region 8 with(fail)
     refine yI 11 1 ?_
     (repeat (first|refine jV ?_ | refine jW ?_ (hc:=by intro w2 hS;first|with_reducible exact jI hS (jE _))|refine jX ?_))
     refine aj.dH ?_;intro w2 hS;replace hQ:=hQ.trans (Out.of_below hS);replace A0:=At.keep A0 hS;replace A2:=At.keep A2 hS;replace AR:=At.keep AR hS;clear hS;clear l0 aA aB lR cR zR;obtain⟨l0,aA,aB⟩:=At.two A0;have lR:=AR.lt;have cR:=(AR.cell (o+5)).trans h5;have zR:=AR.thaw (o+5);refine vH ?_;intro K hK;go_simp;refine hK _ _ (aj.bF ?_);clear hK K;generalize hW:ja4 _ _ _=W9;replace A0:At W9 _ _:=hW▸At.off A0 ak _ _;replace A2:At W9 _ _:=hW▸At.off A2 ak _ _;replace hQ:Out _ _ W9:=hW▸Out.set hQ rfl _ _;replace AR:At W9 R _:=hW▸At.set AR (o+5) _;clear hW;rw[sK,show Fw.wr (a0+Fw.ins s 0 0 r0)=Fw.AV s 0 r0 a0 from by unfold Fw.AV;rw[if_pos Qv.out]]at AR;exact Z0
 . have hp':(s.c 1 != 1)=true:=by simpa using hp
   go_wp2;refine bodyPost_ret (v:=.tuple #[]) (by simp[results,Tryz.results101,go_sem]) rfl ⟨rfl,?_,Out.trans' (Out.of_below hW1) hQ λb _ q=>q⟩;rw[show x0=a0 from by rw[<-HX0.out];exact if_neg hp,show x1=a1 from by rw[<-TL.out];exact if_neg hp,aX h5,aX h6];exact AR
end
def SF(W:World)(P:Nat->Prop)(A:Option Addr)(l:List Fw.Ld):Prop:=l=[]\/∃b cs,A=some ⟨b,0,none⟩/\P b/\At W b (.cells cs 88)/\∀i (h:i<l.length) j,j<7->cs[i*7+j]? = (fH l[i])[j]?
def CV(W:World)(P:Nat->Prop)(v:Value)(c:List Fw.Ld×Int):Prop:=∃A cap,v=.agg #[.slice A c.1.length cap,.int .i64 c.2]/\SF W P A c.1
def Kp(Y:rF)(B:Int->Fw.Bx)(F:Int->Nat)(n:Nat)(P:Nat->Prop)(W:World):Prop :=
 P Y.pm/\∃g,GM 86 W Y.pm n g/\∀z a b v,Wf z->Wf a->Wf b->g (klit z a b)=some v->CV W P v (Fw.cont B (F z) z a b)
theorem SF.out{A:Option Addr}{l:List Fw.Ld}(h:SF W P A l)(k:Out M W W')(hm:∀b,P b->¬ M b)(hp:∀b,P b->P' b):SF W' P' A l:=by
 rcases h with h|⟨b,cs,e,hb,hA,hc⟩
 . exact .inl h
 . exact .inr ⟨b,cs,e,hp b hb,hA.out (hm b hb) k,hc⟩
theorem CV.out{v:Value}{c:List Fw.Ld×Int}(h:CV W P v c)(k:Out M W W')(hm:∀b,P b->¬ M b)(hp:∀b,P b->P' b):CV W' P' v c:=by
 obtain⟨A,cap,e,h⟩:=h;exact⟨A,cap,e,h.out k hm hp⟩
theorem Kp.out{Y:rF}{B:Int->Fw.Bx}{F:Int->Nat}{n:Nat}{P M:Nat->Prop}(h:Kp Y B F n P W)(k:Out M W W')(hm:∀b,P b->¬ M b):Kp Y B F n P W':=by
 obtain⟨hp,g,h1,h2⟩:=h;exact⟨hp,g,h1.out (hm _ hp) k,λz a b v hz ha hb hg=>(h2 z a b v hz ha hb hg).out k hm λ_ q=>q⟩
theorem zY(W:World):(zeroValue 147).run ja0 W=.ok (.agg #[.slice none 0 0,()]) W:=by kernel_rfl
section
variable {Y:rF} {B:Int->Fw.Bx} {D:Int->Prop} {KM:World->Nat->Prop}
theorem Ky(hK:∀(X X':World) (b:Nat),KM X b->Below X X X'->KM X' b)(z i0 i1:Int)(hz:D z)(w:World)(hR:RO w Y B D KM)(hne:(B z).fl=[]) :
  Calls ja0 67 #[Y.lb,.agg #[z,i0,i1]] w λe w'=>e=.returned (.agg #[.slice none 0 0,.int .i64 ((B z).sty.c 54)])/\Below w w w':=by
 obtain⟨hbx,hks,_⟩:=hR.box z hz;obtain⟨es0,U0,hpm⟩:=hR.Gv;have hbig:Below w w ((w.alloc (.cells #[z,i0,i1] 86)).alloc (.cells #[.slice none 0 0,()] 147)):=aD (aD aG _) _;have hL:=λX (hb:Below ((w.alloc (.cells #[z,i0,i1] 86)).alloc (.cells #[.slice none 0 0,()] 147)).heap.size ((w.alloc (.cells #[z,i0,i1] 86)).alloc (.cells #[.slice none 0 0,()] 147)) X)=>(hR.keep hK (Below.after hbig hb)).look hz;have HR:=ah hR;have A0:At ((w.alloc (.cells #[z,i0,i1] 86)).alloc (.cells #[.slice none 0 0,()] 147)) w.heap.size (.cells #[z,i0,i1] 86):=At.alloc (At.new _ _) _;have A1:At ((w.alloc (.cells #[z,i0,i1] 86)).alloc (.cells #[.slice none 0 0,()] 147)) (w.heap.size+1) (.cells #[.slice none 0 0,()] 147):=At.new' _ Gs;have A2:=hbx.keep hbig;have AL:=hR.lay.keep hbig;have hB:=hbig;obtain⟨s,hs⟩:=aC ((B z).sty);obtain⟨fl,hfl⟩:=aC ((B z).fl);rw[hs]at A2;rw[hfl]at hks;obtain⟨A,cp,hvf,hI,hle,hmx,hAn⟩:=hks.ints;rw[hvf]at A2;generalize Y.va z=va at A2;generalize hib:(B z).ib=ib at A2;generalize hbz:Y.bl z=bz at *;have HS:=ah hs;have Iy:=ah hfl;have qM:=ah hbx;clear hbx hR hks hs hfl hvf hib;go_enter Tryz.func67,Tryz.ntmps67
 go_upto_region 1 with(fail)
 generalize (w.alloc (.cells #[z,i0,i1] 86)).alloc (.cells #[.slice none 0 0,()] 147)=W0 at *;obtain⟨l0,aA,aB,aY⟩:=At.three A0;have Di:=AL.lt;have G9:W0.cell? ⟨Y.lb,2,none⟩=some (.map (some Y.bm)):=AL.cell 2;refine vS ?_
 (repeat (first|refine jV ?_ | refine jW ?_ (hc:=by intro w2 hS;first|with_reducible exact jI hS (jE _))|refine jX ?_))
 refine aj.bY ?_;intro w2 hS;replace A0:=At.keep A0 hS;replace A1:=At.keep A1 hS;replace A2:=At.keep A2 hS;replace AL:=At.keep AL hS;replace hB:=Below.ay hB aF hS;clear hS hL G9 Di l0 aA aB aY hbig;have pQ:w2.cell? ⟨bz,71,none⟩=some (.slice A fl.length cp):=aR.ext A2 16;have l2:=A2.lt;have c54:w2.cell? ⟨bz,54,none⟩=some (.int .i64 (s.c 54)):=aR.int A2 54 aN rfl;have l1:=A1.lt;have aH:w2.cell? ⟨w.heap.size+1,0,none⟩=some (.slice none 0 0):=A1.cell 0;have aJ:w2.cell? ⟨w.heap.size+1,1,none⟩=some (.int .i64 0):=A1.cell 1;have dZ:=A1.thaw 0;have eu:=A1.thaw 1;have hlz:((fl.length:Int)==0)=true:=by rw[<-Iy.out,hne];rfl
 have Vb:∀X,(Instr.build 147 #[(1,.int .i64 (s.c 54))]).run ja0 X=.ok (.agg #[.slice none 0 0,s.c 54]) X:=λ_=>by kernel_rfl
 go_wp2;refine bodyPost_ret (v:=.agg #[.slice none 0 0,s.c 54]) Z4k rfl ⟨by rw[HS.out],?_⟩;exact Z1
theorem Kz(hK:∀(X X':World) (b:Nat),KM X b->Below X X X'->KM X' b)(z i0 i1:Int)(hz:D z)(w:World)(hR:RO w Y B D KM)(n:Nat)(h0:Wf i0)(h1:Wf i1)(hne:(B z).fl≠[])
  (g:Lit->Option Value) (hg:GM 86 w Y.pm n g) (Av:Option Addr) (lv cv:Nat) (hv:Int) (hgv:g (klit z i0 i1)=some (.agg #[.slice Av lv cv,hv])) :
  Calls ja0 67 #[Y.lb,.agg #[z,i0,i1]] w λe w'=>e=.returned (.agg #[.slice Av lv cv,hv])/\Below w w w':=by
 obtain⟨hbx,hks,_⟩:=hR.box z hz;obtain⟨es0,U0,hpm⟩:=hR.Gv;have hbig:Below w w ((w.alloc (.cells #[z,i0,i1] 86)).alloc (.cells #[.slice none 0 0,()] 147)):=aD (aD aG _) _;have hL:=λX (hb:Below ((w.alloc (.cells #[z,i0,i1] 86)).alloc (.cells #[.slice none 0 0,()] 147)).heap.size ((w.alloc (.cells #[z,i0,i1] 86)).alloc (.cells #[.slice none 0 0,()] 147)) X)=>(hR.keep hK (Below.after hbig hb)).look hz;have HR:=ah hR;have A0:At ((w.alloc (.cells #[z,i0,i1] 86)).alloc (.cells #[.slice none 0 0,()] 147)) w.heap.size (.cells #[z,i0,i1] 86):=At.alloc (At.new _ _) _;have A1:At ((w.alloc (.cells #[z,i0,i1] 86)).alloc (.cells #[.slice none 0 0,()] 147)) (w.heap.size+1) (.cells #[.slice none 0 0,()] 147):=At.new' _ Gs;have A2:=hbx.keep hbig;have AL:=hR.lay.keep hbig;have hB:=hbig;obtain⟨s,hs⟩:=aC ((B z).sty);obtain⟨fl,hfl⟩:=aC ((B z).fl);rw[hs]at A2;rw[hfl]at hks;obtain⟨A,cp,hvf,hI,hle,hmx,hAn⟩:=hks.ints;rw[hvf]at A2;generalize Y.va z=va at A2;generalize hib:(B z).ib=ib at A2;generalize hbz:Y.bl z=bz at *;have HS:=ah hs;have Iy:=ah hfl;have qM:=ah hbx;clear hbx hR hks hs hfl hvf hib;go_enter Tryz.func67,Tryz.ntmps67
 go_upto_region 1 with(fail)
 generalize (w.alloc (.cells #[z,i0,i1] 86)).alloc (.cells #[.slice none 0 0,()] 147)=W0 at *;obtain⟨l0,aA,aB,aY⟩:=At.three A0;have Di:=AL.lt;have G9:W0.cell? ⟨Y.lb,2,none⟩=some (.map (some Y.bm)):=AL.cell 2;refine vS ?_
 (repeat (first|refine jV ?_ | refine jW ?_ (hc:=by intro w2 hS;first|with_reducible exact jI hS (jE _))|refine jX ?_))
 refine aj.bY ?_;intro w2 hS;replace A0:=At.keep A0 hS;replace A1:=At.keep A1 hS;replace A2:=At.keep A2 hS;replace AL:=At.keep AL hS;replace hB:=Below.ay hB aF hS;clear hS hL G9 Di l0 aA aB aY hbig;have pQ:w2.cell? ⟨bz,71,none⟩=some (.slice A fl.length cp):=aR.ext A2 16;have l2:=A2.lt;have c54:w2.cell? ⟨bz,54,none⟩=some (.int .i64 (s.c 54)):=aR.int A2 54 aN rfl;have l1:=A1.lt;have aH:w2.cell? ⟨w.heap.size+1,0,none⟩=some (.slice none 0 0):=A1.cell 0;have aJ:w2.cell? ⟨w.heap.size+1,1,none⟩=some (.int .i64 0):=A1.cell 1;have dZ:=A1.thaw 0;have eu:=A1.thaw 1;have hlz:((fl.length:Int)==0)=false:=by rw[<-Iy.out];simp;exact hne
 go_upto_region 4 with(fail)
 obtain⟨l0,aA,aB,aY⟩:=At.three A0;have Di:=AL.lt;have ly4:w2.cell? ⟨Y.lb,4,none⟩=some (.map (some Y.pm)):=AL.cell 4;have hzf:=HR.out.wf z hz;have hKL:=λX (hb:Below w2 w2 X)=>(hg.keep (Below.ay hB aF hb)).look_ok DR Tryz.underlying92 (zY X) (Na hzf h0 h1);simp only[hgv,Option.getD_some,Option.isSome_some,Qh]at hKL;have hS0:Below w2 w2 w2.drew:=Below.drew aG;refine jy (S:=λX=>Below w2 w2 X) 12 ?_ ?_
 . exact hS0
 intro hS1;clear hS0;refine aS 0 ?_;refine aS 1 ?_;refine aS 2 ?_;refine aS 3 ?_;refine aS 4 ?_;refine aS 5 ?_;refine aS 6 ?_;refine aS 7 ?_;refine aS 8 ?_;refine tk1 9 ?_;refine aj.Step.value eD ?_;have AN:At (w2.alloc (.cells #[.slice none 0 0,()] 147)).drew w2.heap.size (.cells #[.slice none 0 0,()] 147):=At.drew (At.new _ _);have hS2:Below w2 w2 (w2.alloc (.cells #[.slice none 0 0,()] 147)).drew:=Below.drew (aD aG _);have Dj:=At.keep A1 hS2;have l1w:=l1;refine⟨λ_=>hS2,?_⟩
 (try simp only[bV,bW,bX,tks])
 generalize (w2.alloc (.cells #[.slice none 0 0,()] 147)).drew=w3 at *;obtain⟨ln,cn0,cn1⟩:=At.two AN;have zn0:=AN.thaw 0;have zn1:=AN.thaw 1;clear aH aJ dZ eu l1;refine tk1 10 ?_;refine aj.Step.skip eD ?_;have rY:Below w2 w2 ((w3.setCell ⟨w2,0,none⟩ (.slice Av lv cv)).setCell ⟨w2,1,none⟩ (.int .i64 hv)):=Below.setCell (Below.setCell hS2 bI _) bI _;have AN2:=At.set (At.set AN 0 (.slice Av lv cv)) 1 (.int .i64 hv);replace Dj:=At.off (At.off Dj (n:=w2.heap.size) ak 0 (.slice Av lv cv)) (n:=w2.heap.size) ak 1 (.int .i64 hv);refine⟨λ_=>rY,?_⟩
 (try simp only[Act.put])
 generalize (w3.setCell ⟨w2,0,none⟩ (.slice Av lv cv)).setCell ⟨w2,1,none⟩ (.int .i64 hv)=w4 at *;clear hS2 AN ln cn0 cn1 zn0 zn1 hS1;refine aS 11 ?_;refine jk ?_;replace hB:=Below.ay hB aF rY;clear rY;obtain⟨ln,cn0,cn1⟩:=At.two (x:=.slice Av lv cv) (y:=.int .i64 hv) AN2;obtain⟨l1,aH,aJ⟩:=At.two Dj;have dZ:=At.thaw Dj 0;have eu:=At.thaw Dj 1;clear pQ l2 c54 l0 aA aB aY Di ly4;go_wp2;refine bodyPost_ret (v:=.agg #[.slice Av lv cv,hv]) Z4k rfl ⟨rfl,?_⟩;exact Z1
end
theorem GM.put{k t e:TypeId}{W:World}{b n:Nat}{g:Lit->Option Value}(h:GM k W b n g)(K:Maps.Keyed ja0 k)(ht:Tryz.prog.underlying t=some (.map k e))(hn:n<maxLen){key v:Value}{kl:Lit}(hkey:keyOf ja0 k key=some kl) :
  ∃W' n',n'<=n+1/\(Instr.mapUpdate t (.map (some b)) key v).run ja0 W=.ok () W'/\GM k W' b n' (zQ g kl v)/\Out (λx=>x=b) W W':=by
 obtain⟨D,h1,h2,h3⟩:=h;obtain⟨W',hr,ho,ht⟩:=h1.store K ht hn hkey (val:=v) rfl;have hle:=ho.size_le;refine⟨W',Maps.size (D.put kl (.held v)),hle,hr,⟨_,XR ho,rfl,λy hy => ?_⟩,Out.turned ht⟩;exact Z1q
section
variable {Y:rF} {B:Int->Fw.Bx} {D:Int->Prop} {KM:World->Nat->Prop}
theorem RO.fresh(uo:∀(X X':World) (b:Nat),KM X b->Out (λq=>q≠b) X X'->KM X' b)(h:RO W Y B D KM)(hkm:Y.km<W.heap.size)(k:Out (λb=>b=Y.pm\/W.heap.size<=b) W W')(hp:∃es ck,At W' Y.pm (.map es ck)):RO W' Y B D KM:=by
 obtain⟨es0,U0,hpm⟩:=h.Gv
 have cell:∀{b:Nat} {cs:Array Value} {T:TypeId},At W b (.cells cs T)->¬ (b=Y.pm\/W.heap.size<=b):=λ{b cs T} ha q=>by
  rcases q with rfl|q
  . have:=At.uniq ha hpm;cases this
  . exact absurd ha.lt ak
 have ks:∀{v:Value} {l:List Int},KS W v l->KS W' v l:=λ{v l} hk=>hk.out (λg hg q=>by
  obtain⟨cur,ha⟩:=hk.rowAt hg
  exact cell ha q) k
 refine⟨h.lay.out (cell h.lay) k,?_,λz hz => ?_,?_,h.wf,hp,h.pmb,h.pmk,h.pmr⟩
 . obtain⟨n,g,h1,h2⟩:=h.boxes
   exact⟨n,g,h1.out (λq=>by rcases q with q|q;exact h.pmb q.symm;exact absurd h1.lt ak) k,h2⟩
 . obtain⟨h1,h2,h3⟩:=h.box z hz
   exact⟨At.out h1 (cell h1) k,ks h2,ks h3⟩
 . refine uo _ _ _ h.kinds ⟨k.1,λb hb hn => ?_⟩
   have hb':b=Y.km:=Classical.byContradiction hn;subst hb';exact k.2 _ hb (λq=>by rcases q with q|q;exact h.pmk q.symm;omega)
end
def o8(cs:Array Value)(l:List Fw.Ld):Prop:=l.length*7<=cs.size/\∀i (h:i<l.length) j,j<7->cs[i*7+j]? = (fH l[i])[j]?
theorem o8.step{cs:Array Value}{l:List Fw.Ld}(h:o8 cs l)(hk:k<l.length)(x0 x1:Int) :
  o8 ((cs.setIfInBounds (k*7+5) (.int .i64 x0)).setIfInBounds (k*7+6) (.int .i64 x1)) (l.set k { l[k]with a0:=x0,a1:=x1 }):=by
 refine⟨by simpa using h.1,λi hi j hj => ?_⟩;have hi':i<l.length:=by simpa using hi
 have hs:=h.1;simp only[Array.getElem?_setIfInBounds,Array.size_setIfInBounds,List.getElem_set];by_cases e:k=i
 . subst e
   rw[if_pos rfl];have h0:=h.2 k hi' j hj;by_cases e6:k*7+6=k*7+j
   . obtain rfl:j=6:=by omega
     rw[if_pos rfl,if_pos ak];rfl
   . rw[if_neg e6]
     by_cases e5:k*7+5=k*7+j
     . obtain rfl:j=5:=by omega
       rw[if_pos rfl,if_pos ak];rfl
     . rw[if_neg e5,h0]
       rcases(show j=0\/j=1\/j=2\/j=3\/j=4 by omega)with rfl|rfl|rfl|rfl|rfl<;>rfl
 . rw[if_neg e,if_neg ak,if_neg ak]
   exact h.2 i hi' j hj
def Qw(f:Fw.Ld->Fw.Ld)(l:List Fw.Ld)(k:Nat):List Fw.Ld:=(l.take k).map f++l.drop k
theorem Yo(f:Fw.Ld->Fw.Ld)(l:List Fw.Ld):Qw f l 0=l:=by simp[Qw]
theorem abI(f:Fw.Ld->Fw.Ld)(l:List Fw.Ld):Qw f l l.length=l.map f:=by simp[Qw]
theorem Fg(f:Fw.Ld->Fw.Ld)(l:List Fw.Ld)(k:Nat):(Qw f l k).length=l.length:=by simp[Qw];omega
theorem abJ(f:Fw.Ld->Fw.Ld)(l:List Fw.Ld)(hk:k<l.length):(Qw f l k)[k]'(by rw[Fg];exact hk)=l[k]:=by
 simp only[Qw];rw[List.getElem_append_right jB];simp only[List.length_map,jc1,List.getElem_drop];congr 1;omega
theorem Yp(f:Fw.Ld->Fw.Ld)(l:List Fw.Ld)(hk:k<l.length):(Qw f l k).set k (f l[k])=Qw f l (k+1):=by
 apply jb5
 . simp[Qw];omega
 . intro i h1 h2
   simp only[Qw,List.getElem_set,List.getElem_append,List.length_map,jc1,List.getElem_map,List.getElem_take,List.getElem_drop];by_cases e:k=i
   . subst e;rw[if_pos rfl,dif_pos ak]
   . rw[if_neg e]
     by_cases hl:i<k
     . rw[dif_pos ak,dif_pos ak]
     . rw[dif_neg ak,dif_neg ak]
       congr 1;omega
theorem Yq{k L:Nat}(h:k<L):L-(intOf (.int .i64 ((k:Int)+1))).toNat<L-(intOf (.int .i64 (k:Int))).toNat:=by simp[intOf];omega
theorem CV.aiv{v:Value}{c:List Fw.Ld×Int}{pm:Nat}{es:Array MapEntry}{ck:Nat}(h:CV W P v c)(hp:At W pm (.map es ck))(k:Out M W W')(hm:∀b,P b->b≠pm->¬ M b)(hq:∀b,P b->P' b):CV W' P' v c:=by
 obtain⟨A,cap,e,h⟩:=h;refine⟨A,cap,e,?_⟩;rcases h with h|⟨b,cs,e,hb,hA,hc⟩
 . exact .inl h
 . exact .inr ⟨b,cs,e,hq b hb,hA.out (hm b hb λq=>by subst q;have:=At.uniq hA hp;cases this) k,hc⟩
theorem rG{o:Oper}{a:Act}{t:TypeId}(m x y:Operand)(ho:o.op=.mapUpdate t m x y){vm vx vy:Value}(hm:a.eval m=vm)(hx:a.eval x=vx)(hy:a.eval y=vy)(hr:(Instr.mapUpdate t vm vx vy).run ja0 W=.ok () W'):(execOp a.eval o).run ja0 W=.ok .skip W':=by
 unfold execOp;simp only[ho,hm,hx,hy,Sem.run_bind,hr,Result.andThen_ok,Sem.run_pure]
section
variable {Y:rF} {B:Int->Fw.Bx} {D:Int->Prop} {KM:World->Nat->Prop}
theorem Ns(hK:∀(X X':World) (b:Nat),KM X b->Below X X X'->KM X' b)(uo:∀(X X':World) (b:Nat),KM X b->Out (λq=>q≠b) X X'->KM X' b)(F:Int->Nat)(z i0 i1:Int)(hz:D z)(w:World)(hR:RO w Y B D KM)(n:Nat)(P:Nat->Prop)(hw:Kp Y B F n P w)(hP:∀b,P b->b<w.heap.size)(h0:Wf i0)(h1:Wf i1)(hne:(B z).fl≠[])(kf:FuncId)(hcf:∀(args:Array Value) (X:World),(callFunc kf args).run ja0 X=.ok (.enter kf args) X)(hkm:Y.km<w.heap.size)
  (OP:∀X,KM X Y.km->(Instr.lookup 91 (.map (some Y.km)) (.int .i64 ((B z).sty.c 0)) false).run ja0 X=.ok (.func (.func kf) #[] #[]) X) (xs:List Fw.Ld) (hi:Int) (hcn:Fw.cont B (F z) z i0 i1=(xs.map (Fw.mv B i0 i1),hi)) (hDx:∀x∈xs,D x.id) (kk:Nat) (hnk:n+kk<maxLen) (hlx:xs.length<=10000)
  (g:Lit->Option Value) (hg:GM 86 w Y.pm n g) (hgv:g (klit z i0 i1)=none)
  (hkind:∀X,RO X Y B D KM->Kp Y B F n P X->(∀b,P b->b<X.heap.size)->Calls ja0 kf #[Y.lb,.agg #[z,i0,i1]] X λe X'=>∃R cap cs P' n',e=.returned (.agg #[.slice (some ⟨R,0,none⟩) xs.length cap,hi])/\X.heap.size<=R/\At X' R (.cells cs 88)/\o8 cs xs/\n'<=n+kk/\Kp Y B F n' P' X'/\(∀b,P' b->P b\/X.heap.size<=b)/\¬ P' R/\Out (λb=>b=Y.pm) X X') :
  Calls ja0 67 #[Y.lb,.agg #[z,i0,i1]] w λe w'=>∃v P' n',e=.returned v/\CV w' P' v (Fw.cont B (F z) z i0 i1)/\n'<=n+kk+1/\Kp Y B F n' P' w'/\(∀b,P' b->P b\/w.heap.size<=b)/\Out (λb=>b=Y.pm) w w':=by
 have HW:=ah hw;have HCN:=ah hcn;have HKF:=ah OP;have HKD:=ah hkind;clear hw hcn OP hkind;obtain⟨hbx,hks,_⟩:=hR.box z hz;obtain⟨es0,U0,hpm⟩:=hR.Gv;have hbig:Below w w ((w.alloc (.cells #[z,i0,i1] 86)).alloc (.cells #[.slice none 0 0,()] 147)):=aD (aD aG _) _;have hL:=λX (hb:Below ((w.alloc (.cells #[z,i0,i1] 86)).alloc (.cells #[.slice none 0 0,()] 147)).heap.size ((w.alloc (.cells #[z,i0,i1] 86)).alloc (.cells #[.slice none 0 0,()] 147)) X)=>(hR.keep hK (Below.after hbig hb)).look hz;have HR:=ah hR;have A0:At ((w.alloc (.cells #[z,i0,i1] 86)).alloc (.cells #[.slice none 0 0,()] 147)) w.heap.size (.cells #[z,i0,i1] 86):=At.alloc (At.new _ _) _;have A1:At ((w.alloc (.cells #[z,i0,i1] 86)).alloc (.cells #[.slice none 0 0,()] 147)) (w.heap.size+1) (.cells #[.slice none 0 0,()] 147):=At.new' _ Gs;have A2:=hbx.keep hbig;have AL:=hR.lay.keep hbig;have hB:=hbig;obtain⟨s,hs⟩:=aC ((B z).sty);obtain⟨fl,hfl⟩:=aC ((B z).fl);rw[hs]at A2;rw[hfl]at hks;obtain⟨A,cp,hvf,hI,hle,hmx,hAn⟩:=hks.ints;rw[hvf]at A2;generalize Y.va z=va at A2;generalize hib:(B z).ib=ib at A2;generalize hbz:Y.bl z=bz at *;have HS:=ah hs;have Iy:=ah hfl;have qM:=ah hbx;clear hbx hR hks hs hfl hvf hib;go_enter Tryz.func67,Tryz.ntmps67
 go_upto_region 1 with(fail)
 generalize (w.alloc (.cells #[z,i0,i1] 86)).alloc (.cells #[.slice none 0 0,()] 147)=W0 at *;obtain⟨l0,aA,aB,aY⟩:=At.three A0;have Di:=AL.lt;have G9:W0.cell? ⟨Y.lb,2,none⟩=some (.map (some Y.bm)):=AL.cell 2;refine vS ?_
 (repeat (first|refine jV ?_ | refine jW ?_ (hc:=by intro w2 hS;first|with_reducible exact jI hS (jE _))|refine jX ?_))
 refine aj.bY ?_;intro w2 hS;replace A0:=At.keep A0 hS;replace A1:=At.keep A1 hS;replace A2:=At.keep A2 hS;replace AL:=At.keep AL hS;replace hB:=Below.ay hB aF hS;clear hS hL G9 Di l0 aA aB aY hbig;have pQ:w2.cell? ⟨bz,71,none⟩=some (.slice A fl.length cp):=aR.ext A2 16;have l2:=A2.lt;have c54:w2.cell? ⟨bz,54,none⟩=some (.int .i64 (s.c 54)):=aR.int A2 54 aN rfl;have l1:=A1.lt;have aH:w2.cell? ⟨w.heap.size+1,0,none⟩=some (.slice none 0 0):=A1.cell 0;have aJ:w2.cell? ⟨w.heap.size+1,1,none⟩=some (.int .i64 0):=A1.cell 1;have dZ:=A1.thaw 0;have eu:=A1.thaw 1;have hlz:((fl.length:Int)==0)=false:=by rw[<-Iy.out];simp;exact hne
 go_upto_region 4 with(fail)
 obtain⟨l0,aA,aB,aY⟩:=At.three A0;have Di:=AL.lt;have ly4:w2.cell? ⟨Y.lb,4,none⟩=some (.map (some Y.pm)):=AL.cell 4;have hzf:=HR.out.wf z hz;have hKL:=λX (hb:Below w2 w2 X)=>(hg.keep (Below.ay hB aF hb)).look_ok DR Tryz.underlying92 (zY X) (Na hzf h0 h1);simp only[hgv,Option.getD_none,Option.isSome_none,Qh]at hKL;have hS0:Below w2 w2 w2.drew:=Below.drew aG;refine jy (S:=λX=>Below w2 w2 X) 12 ?_ ?_
 . exact hS0
 intro hS1;clear hS0;refine aS 0 ?_;refine aS 1 ?_;refine aS 2 ?_;refine aS 3 ?_;refine aS 4 ?_;refine aS 5 ?_;refine aS 6 ?_;refine aS 7 ?_;refine aS 8 ?_;refine tk1 9 ?_;refine aj.Step.value eD ?_;have AN:At (w2.alloc (.cells #[.slice none 0 0,()] 147)).drew w2.heap.size (.cells #[.slice none 0 0,()] 147):=At.drew (At.new _ _);have hS2:Below w2 w2 (w2.alloc (.cells #[.slice none 0 0,()] 147)).drew:=Below.drew (aD aG _);have Dj:=At.keep A1 hS2;have l1w:=l1;refine⟨λ_=>hS2,?_⟩
 (try simp only[bV,bW,bX,tks])
 generalize (w2.alloc (.cells #[.slice none 0 0,()] 147)).drew=w3 at *;obtain⟨ln,cn0,cn1⟩:=At.two AN;have zn0:=AN.thaw 0;have zn1:=AN.thaw 1;clear aH aJ dZ eu l1;refine tk1 10 ?_;refine aj.Step.skip eD ?_;have rY:Below w2 w2 ((w3.setCell ⟨w2,0,none⟩ (.slice none 0 0)).setCell ⟨w2,1,none⟩ (.int .i64 0)):=Below.setCell (Below.setCell hS2 bI _) bI _;have AN2:=At.set (At.set AN 0 (.slice none 0 0)) 1 (.int .i64 0);replace Dj:=At.off (At.off Dj (n:=w2.heap.size) ak 0 (.slice none 0 0)) (n:=w2.heap.size) ak 1 (.int .i64 0);refine⟨λ_=>rY,?_⟩
 (try simp only[Act.put])
 generalize (w3.setCell ⟨w2,0,none⟩ (.slice none 0 0)).setCell ⟨w2,1,none⟩ (.int .i64 0)=w4 at *;clear hS2 AN ln cn0 cn1 zn0 zn1 hS1;refine aS 11 ?_;refine jk ?_;replace hB:=Below.ay hB aF rY;replace A0:=At.keep A0 rY;replace A2:=At.keep A2 rY;replace AL:=At.keep AL rY;have hcw:w.heap.size+1<w2.heap.size:=l1w;clear rY hKL pQ l2 c54 l0 aA aB aY Di ly4 l1w;generalize hnc:w2.heap.size=nc at *;clear hnc
 go_upto_region 6 with(fail)
 have hpl:=hP _ HW.out.1;have lp0:w.heap.size≠Y.pm:=by omega
 have lp1:w.heap.size+1≠Y.pm:=by omega
 have lpn:nc≠Y.pm:=by omega
 have LG:bz≠Y.pm:=λq=>by have:=At.uniq qM.out (q▸hpm);cases this
 have lbp:Y.lb≠Y.pm:=λq=>by have:=At.uniq HR.out.lay (q▸hpm);cases this
 have akk:=qM.out.lt;have akl:=HR.out.lay.lt;have lbn:bz≠nc:=by omega
 have lln:Y.lb≠nc:=by omega
 have l0n:w.heap.size≠nc:=by omega
 obtain⟨l0,aA,aB,aY⟩:=At.three A0;have Di:=AL.lt;have ly3:w4.cell? ⟨Y.lb,3,none⟩=some (.map (some Y.km)):=AL.cell 3;have l2:=A2.lt;have c00:w4.cell? ⟨bz,0,none⟩=some (.int .i64 (s.c 0)):=aR.int A2 0 aN rfl;have aiw:=hK _ _ _ HR.out.kinds hB
 have hkl:=λX (hO:Out (λb=>b=Y.pm\/b=nc) w4 X)=>HKF.out X (uo _ _ _ aiw ⟨hO.1,λb hb hn=>by
  have hb':b=Y.km:=Classical.byContradiction hn;subst hb'
  exact hO.2 _ hb (λq=>by rcases q with q|q;exact HR.out.pmk q.symm;omega)⟩)
 rw[HS.out]at hkl;have hS0:Out (λb=>b=Y.pm\/b=nc) w4 w4.drew:=(Out.refl _ _).drew;refine jy (S:=λX=>Out (λb=>b=Y.pm\/b=nc) w4 X) 14 ?_ ?_
 . exact hS0
 intro hS1;clear hS0;refine Wt 0 ?_;refine Wt 1 ?_;refine Wt 2 ?_;refine Wt 3 ?_;refine Wt 4 ?_;refine Wt 5 ?_;refine Wt 6 ?_;refine Wt 7 ?_;refine Wt 8 ?_;refine Wt 9 ?_;refine Wt 10 ?_;refine Wt 11 ?_;have hB4:Below w w w4.drew:=Below.drew hB;have hcall:=HKD.out w4.drew (HR.out.keep hK hB4) (HW.out.out (M:=λ_=>False) (Out.of_below hB4) λ_ _ q=>q) (λb hb=>bA (hP b hb) hB4.size);refine tk1 12 ?_;refine aj.Step.call (f:=kf) eD hcall ?_;rintro e w6 ⟨R,cap,cs,P5,n5,rfl,hRn,hAR,hrow,hn5,hK5,DW,Yr,Gq⟩;have jM:Out (λb=>b=Y.pm) w4 w6:=Out.trans (Out.refl _ w4).drew Gq;refine⟨_,rfl,λ_=>jM.mono λb _ q => .inl q,?_⟩;clear hcall Gq hkl hS1
 (try simp only[bV,bW,bX,tks])
 replace A0:=A0.out lp0 jM;have AN3:=AN2.out lpn jM;obtain⟨ln,cn0,cn1⟩:=At.two AN3;have zn0:=AN3.thaw 0;have zn1:=AN3.thaw 1;refine tk1 13 ?_;refine aj.Step.skip eD ?_;refine⟨λ_=>Out.set (Out.set (jM.mono λb _ q => .inl q) (.inr rfl) 0 _) (.inr rfl) 1 _,?_⟩
 (try simp only[Act.put])
 refine jk ?_;have AN4:At ((w6.setCell ⟨nc,0,none⟩ (.slice R xs.length cap)).setCell ⟨nc,1,none⟩ (.int .i64 hi)) nc (.cells #[.slice R xs.length cap,hi] 147):=At.set (At.set AN3 0 _) 1 _;have akm:w4.heap.size<=R:=hRn;have akn:nc<w4.heap.size:=AN2.lt;have hQ:Out (λb=>b=nc\/b=R) w6 ((w6.setCell ⟨nc,0,none⟩ (.slice R xs.length cap)).setCell ⟨nc,1,none⟩ (.int .i64 hi)):=Out.set (Out.set (Out.refl _ _) (.inl rfl) 0 _) (.inl rfl) 1 _;replace A0:=At.off (At.off A0 (n:=nc) l0n 0 (.slice R xs.length cap)) (n:=nc) l0n 1 (.int .i64 hi);have aix:=At.off (At.off (At.out Dj lp1 jM) (n:=nc) ak 0 (.slice R xs.length cap)) (n:=nc) ak 1 (.int .i64 hi);have adZ:R≠nc:=by omega
 replace hAR:=At.off (At.off hAR (n:=nc) adZ 0 (.slice R xs.length cap)) (n:=nc) adZ 1 (.int .i64 hi);generalize (w6.setCell ⟨nc,0,none⟩ (.slice R xs.length cap)).setCell ⟨nc,1,none⟩ (.int .i64 hi)=w7 at *;clear cn0 cn1 zn0 zn1 ln AN3 l0 aA aB aY Di ly3 l2 c00;obtain⟨ln,cn0,cn1⟩:=At.two AN4;have zn0:=AN4.thaw 0;have zn1:=AN4.thaw 1;have afW:=ah hlx;have afX:Out (λb=>b=Y.pm\/w.heap.size<=b) w w7:=Out.trans' ((Out.of_below hB (M:=λb=>b=Y.pm\/w.heap.size<=b)).trans (jM.mono λb _ q => .inl q)) hQ λb hb q=>by rcases q with rfl|rfl<;>omega
 obtain⟨es7,ck7,afY⟩:∃es ck,At w7 Y.pm (.map es ck):=by
  obtain⟨g5,hg5,_⟩:=hK5.2;obtain⟨es,ck,q⟩:=hg5.obj;exact⟨es,ck,q.out (by rintro(e|e)<;>omega) hQ⟩
 have lR0:w.heap.size≠R:=by omega
 have lRn:nc≠R:=λq=>adZ q.symm;have lRp:Y.pm≠R:=by omega
 clear hlx;go_wp2
 go_loopw [56] (λi wr=>∃k cs',k<=xs.length/\i=.int .i64 (k:Nat)/\At wr R (.cells cs' 88)/\o8 cs' (Qw (Fw.mv B i0 i1) xs k)/\Out (λb=>b=R) w7 wr) (λi _=>xs.length-(intOf i).toNat)
 case atStart=>exact⟨0,cs,by omega,rfl,hAR,by rw[Yo];exact hrow,Out.refl _ _⟩
 case round =>
  obtain⟨k,cs',hkl,rfl,hA',hrow',Cq⟩:=hrel;have AN5:=AN4.out lRn Cq;have A05:=A0.out lR0 Cq;by_cases hlt:k<xs.length
  . have hrl:k<(Qw (Fw.mv B i0 i1) xs k).length:=by rw[Fg];exact hlt
    have hge:=abJ (Fw.mv B i0 i1) xs hlt;obtain⟨x,hx⟩:=aC (xs[k]);have ho:=hrow'.2 k hrl 0 ak;have h5:=hrow'.2 k hrl 5 ak;have h6:=hrow'.2 k hrl 6 ak;rw[hge,hx]at ho h5 h6;have hstep:=λx0 x1=>hrow'.step hrl x0 x1;rw[hge,hx]at hstep;have hsu:=Yp (Fw.mv B i0 i1) xs hlt;rw[hx]at hsu;have hDk:D x.id:=hDx x (hx▸List.getElem_mem _);have afZ:RO wr Y B D KM:=HR.out.fresh uo hkm (Out.trans' afX Cq λb hb q=>by rcases q with rfl;omega) ⟨es7,ck7,afY.out lRp Cq⟩;have hmv:=Va hK x.id i0 i1 x.a0 x.a1 hDk R (k*7) cs' wr.drew (afZ.keep hK (Below.drew aG)) (At.drew hA') ho h5 h6;have hfx:∀a b,a=(if (B x.id).sty.c 1=1 then Fw.AV (B x.id).sty 0 i0 x.a0 else x.a0)->b=(if (B x.id).sty.c 1=1 then Fw.AV (B x.id).sty 1 i1 x.a1 else x.a1)->({ x with a0:=a,a1:=b }:Fw.Ld)=Fw.mv B i0 i1 x:=by
     rintro a b rfl rfl;unfold Fw.mv;split<;>rfl
    have HR9:Hid (o8 ((cs'.setIfInBounds (k*7+5) (.int .i64 (if (B x.id).sty.c 1=1 then Fw.AV (B x.id).sty 0 i0 x.a0 else x.a0))).setIfInBounds (k*7+6) (.int .i64 (if (B x.id).sty.c 1=1 then Fw.AV (B x.id).sty 1 i1 x.a1 else x.a1))) (Qw (Fw.mv B i0 i1) xs (k+1))):=ah (by
     have q:=hstep (if (B x.id).sty.c 1=1 then Fw.AV (B x.id).sty 0 i0 x.a0 else x.a0) (if (B x.id).sty.c 1=1 then Fw.AV (B x.id).sty 1 i1 x.a1 else x.a1);rw[hfx _ _ rfl rfl,hsu]at q
     exact q)
    have D9:=ah hlt;have HMV:=ah hmv;have hcmp:(k:Int)<(xs.length:Int):=by omega
    clear hstep hsu hfx hmv hge ho h5 h6 hrow' hrl hx afZ;obtain⟨l5,d0,d1⟩:=At.two AN5;obtain⟨l6,e0,e1,e2⟩:=At.three A05;have Dk:=hA'.lt
    go_upto_region 10 with(fail)
    have hS0:Out (λb=>b=R) wr wr.drew:=(Out.refl _ _).drew;refine jy (S:=λX=>Out (λb=>b=R) wr X) 8 ?_ ?_
    . exact hS0
    intro hS1;clear hS0;refine zo 0 ?_;refine zo 1 ?_;refine zo 2 ?_;refine zo 3 ?_;refine zo 4 ?_;refine zo 5 ?_;refine zo 6 ?_;refine tk1 7 ?_;refine aj.Step.call eD HMV.out ?_;rintro e w8 ⟨rfl,PZ,Yt⟩;have Jc:Out (λb=>b=R) wr w8:=(Out.refl _ wr).drew.trans Yt;refine⟨_,rfl,λ_=>Jc,?_⟩
    (try simp only[bV,bW,bX,tks])
    refine jk ?_;clear hS1 Yt d0 d1 e0 e1 e2 l5 l6;have hwk:IntKind.i64.wrap ((k:Int)+1)=(k:Int)+1:=by have q1:=afW.out;have q2:=D9.out;exact IntWalk.i64_in _ ak
    have ako:wrap64 ((k:Int)+1)=(k:Int)+1:=by rw[<-IntWalk.i64_left];exact hwk
    go_wp2
    go_roundw
    case rel=>exact⟨k+1,_,Nat.succ_le_of_lt D9.out,by have q1:=afW.out;have q2:=D9.out;go_num,PZ,HR9.out,Cq.trans Jc⟩
    case measure=>exact Yq D9.out
  . obtain rfl:k=xs.length:=by omega
    have HRW:=ah hrow';have aiy:Out (λb=>b=Y.pm\/w.heap.size<=b) w wr:=Out.trans' afX Cq λb hb q=>by rcases q with rfl;omega
    have hQr:Out (λb=>b=nc\/b=R) w6 wr:=hQ.trans (Cq.mono λb _ q => .inr q)
    have hKr:Kp Y B F n5 P5 wr:=hK5.out hQr λb hb=>by
     rintro(rfl|rfl)
     . rcases DW _ hb with q|q
       . exact absurd (hP _ q) ak
       . simp only[World.size_drew]at q;omega
     . exact Yr hb
    obtain⟨hpp,g5,hg5,aiz⟩:=hKr;have hzf:=HR.out.wf z hz;obtain⟨Wp,np,hnp,hput,hgp,hOp⟩:=(hg5.keep (Below.drew aG)).put (W:=wr.drew) (v:=.agg #[.slice R xs.length cap,hi]) DR Tryz.underlying92 ak (Na hzf h0 h1);have ALr:=(AL.out lbp jM).out (M:=λb=>b=nc\/b=R) (by rintro(rfl|rfl)<;>omega) hQr;obtain⟨l5,d0,d1⟩:=At.two AN5;obtain⟨l6,e0,e1,e2⟩:=At.three A05;have llr:=ALr.lt;have ly4:wr.cell? ⟨Y.lb,4,none⟩=some (.map (some Y.pm)):=ALr.cell 4;clear hrow'
    go_upto_region 12 with(fail)
    have hS0:Out (λb=>b=Y.pm) wr wr.drew:=(Out.refl _ _).drew;refine jy (S:=λX=>Out (λb=>b=Y.pm) wr X) 7 ?_ ?_
    . exact hS0
    intro hS1;clear hS0;refine zo 0 ?_;refine zo 1 ?_;refine zo 2 ?_;refine zo 3 ?_;refine zo 4 ?_;refine zo 5 ?_;refine tk1 6 ?_;refine aj.Step.skip (rG (.tmp 71) (.tmp 72) (.tmp 73) rfl rfl rfl rfl hput) ?_;have Vd:Out (λb=>b=Y.pm) wr Wp:=(Out.refl _ wr).drew.trans hOp;refine⟨λ_=>Vd,?_⟩
    (try simp only[Act.put])
    refine jk ?_;have SG:Out (λb=>b=Y.pm\/w.heap.size<=b) w Wp:=Out.trans' aiy Vd λb hb q => .inl q;have hAr:=hA'.out (M:=λb=>b=Y.pm) (λq=>lRp q.symm) Vd;have AN6:=AN5.out lpn Vd;have A16:=At.out (At.out aix ak Cq) lp1 Vd;obtain⟨l7,f0,f1⟩:=At.two AN6;obtain⟨l8,k0,k1⟩:=At.two A16;have zk0:=A16.thaw 0;have zk1:=A16.thaw 1;clear d0 d1 e0 e1 e2 l5 l6 ly4 llr hS1;go_wp2;generalize hW:ja4 _ _ _=W9;have Jc:Out (λb=>b=w.heap.size+1) Wp W9:=hW▸Out.set (M:=λb=>b=w.heap.size+1) (Out.set (M:=λb=>b=w.heap.size+1) (Out.refl _ _) rfl 0 _) rfl 1 _;have A19:At W9 (w.heap.size+1) (.cells #[.slice R xs.length cap,hi] 147):=hW▸At.set (At.set A16 0 _) 1 _;obtain⟨l9,g0,g1⟩:=At.two A19
    have aiA:¬ P5 (w.heap.size+1):=λhb=>by
     rcases DW _ hb with q|q
     . exact absurd (hP _ q) ak
     . simp only[World.size_drew]at q;omega
    have hP7:∀b,(P5 b\/b=R)->¬ (b=w.heap.size+1):=λb hb q=>by
     subst q;rcases hb with hb|hb
     . exact aiA hb
     . omega
    have hcv:CV W9 (λb=>P5 b\/b=R) (.agg #[.slice R xs.length cap,hi]) (Fw.cont B (F z) z i0 i1):=by
     rw[HCN.out];refine⟨some ⟨R,0,none⟩,cap,by simp,.inr ⟨R,cs',rfl,.inr rfl,hAr.out (λq=>by omega) Jc,?_⟩⟩;have q:=HRW.out;rw[abI]at q;exact q.2
    refine bodyPost_ret (v:=.agg #[.slice R xs.length cap,hi]) Z4k rfl ⟨_,(λb=>P5 b\/b=R),np,rfl,hcv,by omega,?_,?_,?_⟩
    . refine⟨.inl hpp,_,hgp.out (λq=>lp1 q.symm) Jc,λz' a b v' hz' ha hb hg' => ?_⟩
      by_cases e:klit z' a b=klit z i0 i1
      . obtain⟨rfl,rfl,rfl⟩:=XU hz' ha hb hzf h0 h1 e
        rw[jL]at hg';injection hg' with hg';subst hg';exact hcv
      . rw[mO e]at hg'
        exact(CV.aiv (P':=P5) (aiz _ _ _ _ hz' ha hb hg') (afY.out lRp Cq) Vd (λb _ hn q=>hn q) λ_ q=>q).out Jc (λb hb=>hP7 b (.inl hb)) λb hb => .inl hb
    . intro b hb
      rcases hb with hb|rfl
      . rcases DW _ hb with q|q
        . exact .inl q
        . simp only[World.size_drew]at q;exact .inr (aK hB.size q)
      . exact .inr ak
    . exact(Out.trans' SG Jc λb hb q=>by omega).mono λb hb q=>by rcases q with q|q;exact q;omega
end
theorem DY:Maps.Keyed ja0 45:=Maps.int_keyed Tryz.underlying45
theorem SH{z:Int}(h:Wf z):keyOf ja0 45 (.int .i64 z)=some (.int .i64 z):=Maps.keyOf_int_mk Tryz.underlying45 h
def fnv(f:FuncId):Value:=.func (.func f) #[] #[]
def pI(W:World)(b:Nat):Prop:=∃n g,GM 45 W b n g/\g (.int .i64 0)=some (fnv 95)/\g (.int .i64 1)=some (fnv 96)/\g (.int .i64 2)=some (fnv 97)
theorem pI.keep(X X':World)(b:Nat)(h:pI X b)(hb:Below X X X'):pI X' b:=by
 obtain⟨n,g,h1,h2⟩:=h;exact⟨n,g,h1.keep hb,h2⟩
theorem pI.out(X X':World)(b:Nat)(h:pI X b)(k:Out (λq=>q≠b) X X'):pI X' b:=by
 obtain⟨n,g,h1,h2⟩:=h;exact⟨n,g,h1.out (λq=>q rfl) k,h2⟩
theorem Qx(w:World):Calls ja0 64 #[] w λe w'=>(∃b,e=.returned (.map (some b))/\w.heap.size<=b/\pI w' b)/\Below w w w':=by
 have hmm:=@run_makeMap ja0;obtain⟨W1,n1,k1,p1,g1,o1⟩:=(GM.made 45 w).put (v:=fnv 95) DY Tryz.underlying91 (by simp[maxLen]) (SH (z:=0) Z4n);obtain⟨W2,n2,k2,p2,g2,o2⟩:=g1.put (v:=fnv 96) DY Tryz.underlying91 RN (SH (z:=1) Z4n);obtain⟨W3,n3,k3,p3,g3,o3⟩:=g2.put (v:=fnv 97) DY Tryz.underlying91 RN (SH (z:=2) Z4n);have hO:Out (λb=>w.heap.size<=b) w W3:=Out.trans' (Out.trans' (Out.trans' (Out.of_below (M:=λb=>w.heap.size<=b) (aD aG (.map #[] 0))) o1 λb _ q=>by omega) o2 λb _ q=>by omega) o3 λb _ q=>by omega
 have hB:Below w w W3:=hO.below aF λb hb q=>by omega
 have hne:∀{a b:Int},a≠b->Lit.int .i64 a≠Lit.int .i64 b:=λh e=>h (by injection e);have hK:pI W3 w.heap.size:=⟨n3,_,g3,by rw[mO (hne aN),mO (hne aN),jL],by rw[mO (hne aN),jL],by rw[jL]⟩;have HK:=ah hK;have HB:=ah hB;clear hK hB hO g1 g2 g3 o1 o2 o3 hne k1 k2 k3;unfold fnv at p1 p2 p3;go_enter Tryz.func64,Tryz.ntmps64
 go_wp2
 go_ret
 exact⟨⟨_,rfl,aO _,HK.out⟩,HB.out⟩
theorem pI.look{X:World}{b:Nat}(h:pI X b)(z:Int)(f:FuncId)(hz:(z=0/\f=95)\/(z=1/\f=96)\/(z=2/\f=97)):(Instr.lookup 91 (.map (some b)) (.int .i64 z) false).run ja0 X=.ok (.func (.func f) #[] #[]) X:=by
 obtain⟨n,g,h1,h2,h3,h4⟩:=h;have hw:Wf z:=by rw[jZ];omega
 rw[h1.look DY Tryz.underlying91 (z:=.nilFunc) bE (SH hw)];rcases hz with⟨rfl,rfl⟩|⟨rfl,rfl⟩|⟨rfl,rfl⟩
 . rw[h2];rfl
 . rw[h3];rfl
 . rw[h4];rfl
section
variable {Y:rF} {B:Int->Fw.Bx} {F:Int->Nat} {D:Int->Prop} {KM:World->Nat->Prop} {w W W':World} {n n':Nat} {P0 P P':Nat->Prop}
structure qR(Y:rF)(B:Int->Fw.Bx)(F:Int->Nat)(w:World)(P0:Nat->Prop)(n:Nat)(P:Nat->Prop)(W:World):Prop where
 out:Out (λb=>b=Y.pm\/w.heap.size<=b) w W
 kp:Kp Y B F n P W
 lt:∀b,P b->b<W.heap.size
 new:∀b,P b->P0 b\/w.heap.size<=b
theorem Kp.cut(h:Kp Y B F n P W):Kp Y B F n (λb=>P b/\b<W.heap.size) W:=by
 obtain⟨hp,g,h1,h2⟩:=h;refine⟨⟨hp,h1.lt⟩,g,h1,λz a b v hz ha hb hg => ?_⟩;obtain⟨A,cap,e,q⟩:=h2 z a b v hz ha hb hg;refine⟨A,cap,e,?_⟩;rcases q with q|⟨r,cs,e1,e2,e3,e4⟩
 . exact .inl q
 . exact .inr ⟨r,cs,e1,⟨e2,e3.lt⟩,e3,e4⟩
theorem Kp.pm(h:Kp Y B F n P W):Y.pm<W.heap.size/\∃es ck,At W Y.pm (.map es ck):=by
 obtain⟨hp,g,h1,h2⟩:=h;exact⟨h1.lt,h1.obj⟩
theorem qR.start(h:Kp Y B F n P w)(hP:∀b,P b->b<w.heap.size):qR Y B F w P n P w:=⟨Out.refl _ _,h,hP,λb hb => .inl hb⟩
theorem qR.size(h:qR Y B F w P0 n P W):w.heap.size<=W.heap.size:=h.out.size
theorem qR.ro(uo:∀(X X':World) (b:Nat),KM X b->Out (λq=>q≠b) X X'->KM X' b)(hR:RO w Y B D KM)(hkm:Y.km<w.heap.size)(h:qR Y B F w P0 n P W):RO W Y B D KM:=hR.fresh uo hkm h.out h.kp.pm.2
theorem qR.own{M:Nat->Prop}(h:qR Y B F w P0 n P W)(k:Out M W W')(hm:∀b,b<W.heap.size->M b->¬ P b/\w.heap.size<=b):qR Y B F w P0 n P W' :=
 ⟨Out.trans' h.out k λb hb q => .inr (hm b (bA hb h.size) q).2,h.kp.out k λb hb q=>(hm b (h.lt b hb) q).1 hb,λb hb=>bA (h.lt b hb) k.size,h.new⟩
theorem qR.after(h:qR Y B F w P0 n P W)(k:Below W W W'):qR Y B F w P0 n P W':=h.own (M:=λ_=>False) (Out.of_below k) λ_ _ q=>q.elim
theorem qR.call(h:qR Y B F w P0 n P W)(k1:Kp Y B F n' P' W')(k2:∀b,P' b->P b\/W.heap.size<=b)(k3:Out (λb=>b=Y.pm) W W'):qR Y B F w P0 n' (λb=>P' b/\b<W'.heap.size) W' :=
 ⟨Out.trans' h.out k3 λb hb q => .inl q,k1.cut,λb hb=>hb.2,λb hb=>by
  rcases k2 b hb.1 with q|q
  . exact h.new b q
  . exact .inr (aK h.size q)⟩
theorem qR.fin(h:qR Y B F w P0 n P W):Out (λb=>b=Y.pm) w W:=h.out.mono λb hb q=>by
 rcases q with q|q
 . exact q
 . omega
def xg(Y:rF)(B:Int->Fw.Bx)(F:Int->Nat)(D:Int->Prop)(KM:World->Nat->Prop)(f:Nat):Prop :=
 ∀(z r0 r1 t0 t1:Int) (w:World) (n:Nat) (P:Nat->Prop),D z->F z=f->RO w Y B D KM->Kp Y B F n P w->(∀b,P b->b<w.heap.size)->Y.km<w.heap.size->n+Fw.cst B f z<maxLen ->
  Calls ja0 32 #[Y.lb,z,.agg #[r0,r1],.agg #[t0,t1]] w λe w' =>
   e=.returned (.agg (fH (Fw.lay B f z r0 r1 t0 t1)))/\∃n' P',n'<=n+Fw.cst B f z/\Kp Y B F n' P' w'/\(∀b,P' b->P b\/w.heap.size<=b)/\Out (λb=>b=Y.pm) w w'
end
theorem Fh{ops:Array Oper}{S:World->Prop}{o:Oper}{a:Act}(p:Operand){R q:Nat}{x:Im}(hw:Region.wanted o (yielded ops a.tmps)=true)(ho:o.op=.load 216 p)(hp:a.eval p=.pointer (some ⟨R,q,none⟩))(h:∀X,S X->sD X R q x):aj.Reads ja0 ops S o (.agg (nW x)) a :=
 .inl ⟨hw,λX hX=>iH Yd Qt p ho hp (tN x) (h X hX)⟩
structure Nt(Y:rF)(B:Int->Fw.Bx)(D:Int->Prop)(F:Int->Nat)(f:Nat)(i0:Int)(x:Im):Prop where
 d:D x.ld.id
 f:F x.ld.id=f
 bx:x.bx=Y.bl x.ld.id
 m0:x.m0=Fw.mg (B x.ld.id).sty 0 0 i0
 m1:x.m1=Fw.mg (B x.ld.id).sty 0 1 i0
 m2:x.m2=Fw.mg (B x.ld.id).sty 1 0 i0
 m3:x.m3=Fw.mg (B x.ld.id).sty 1 1 i0
def Dl(B:Int->Fw.Bx)(f:Nat)(r0 r1 high:Int)(x:Im):Im :=
 if Fx.dY ((B x.ld.id).sty.c 5) r1=true then x else { x with ld:=Fw.lay B f x.ld.id r0 r1 x.ld.s0 (Fw.wr (Fx.limit (max (Fw.wr (high-ext1 x (B x.ld.id).sty)) 0) ((B x.ld.id).sty.c 9) ((B x.ld.id).sty.c 10) ((B x.ld.id).sty.c 13) ((B x.ld.id).sty.c 14) r1+Fw.wr (Fw.ed (B x.ld.id).sty 0+Fw.ed (B x.ld.id).sty 2))) }
def Fj(g:Im->Im)(l:List Im)(k:Nat):List Im:=(l.take k).map g++l.drop k
theorem kN(g:Im->Im)(l:List Im)(k:Nat):(Fj g l k).length=l.length:=by simp[Fj];omega
theorem uW(g:Im->Im)(l:List Im)(hk:k<l.length):(Fj g l k)[k]'(by rw[kN];exact hk)=l[k]:=by
 unfold Fj;rw[List.getElem_append_right jB];simp;congr 1;omega
theorem zZ(g:Im->Im)(l:List Im)(hk:k<l.length):(Fj g l k).set k (g l[k])=Fj g l (k+1):=by
 unfold Fj;have e:((l.take k).map g).length=k:=by simp;omega
 rw[List.set_append,if_neg ak,e,Nat.sub_self,List.drop_eq_getElem_cons hk,ja2,List.take_succ_eq_append_getElem hk,List.map_append,List.append_assoc];rfl
theorem Fp(g:Im->Im)(l:List Im):Fj g l 0=l:=by simp[Fj]
theorem KA(g:Im->Im)(l:List Im):Fj g l l.length=l.map g:=by simp[Fj]
theorem Yu(g:Im->Im)(l:List Im)(hk:k<l.length)(h:g l[k]=l[k]):Fj g l (k+1)=Fj g l k:=by
 rw[<-zZ g l hk,h]
 exact jb5 bI λi h1 h2=>by
  by_cases e:k=i
  . subst e;rw[List.getElem_set_self,uW g l hk]
  . rw[List.getElem_set_ne e]
def jw(B:Int->Fw.Bx)(f:Nat)(l:List Im)(k:Nat):Nat:=((l.take k).map λx=>Fw.cst B f x.ld.id).sum
theorem tO(B:Int->Fw.Bx)(f:Nat)(l:List Im)(hk:k<l.length):jw B f l (k+1)=jw B f l k+Fw.cst B f l[k].ld.id:=by
 unfold jw;rw[List.take_succ_eq_append_getElem hk];exact Z2k
theorem xU(B:Int->Fw.Bx)(f:Nat)(l:List Im)(k:Nat):jw B f l k<=jw B f l l.length:=by
 unfold jw;rw[List.take_length]
 conv=>rhs;rw[<-List.take_append_drop k l,List.map_append,List.sum_append]
 omega
section
variable {Y:rF} {B:Int->Fw.Bx} {F:Int->Nat} {D:Int->Prop} {KM:World->Nat->Prop} {f:Nat} {w0:World} {P0:Nat->Prop}
theorem tQ(hL:xg Y B F D KM f)(uo:∀(X X':World) (b:Nat),KM X b->Out (λq=>q≠b) X X'->KM X' b)(hR0:RO w0 Y B D KM)(hkm:Y.km<w0.heap.size){n:Nat}{P:Nat->Prop}{W:World}(h:qR Y B F w0 P0 n P W)(z r0 r1 t0 t1:Int)(hz:D z)(hf:F z=f)(hn:n+Fw.cst B f z<maxLen) :
  Calls ja0 32 #[Y.lb,z,.agg #[r0,r1],.agg #[t0,t1]] W λe W' =>
   e=.returned (.agg (fH (Fw.lay B f z r0 r1 t0 t1)))/\∃n' P',n'<=n+Fw.cst B f z/\qR Y B F w0 P0 n' P' W'/\(∀b,b<W.heap.size->P' b->P b)/\Out (λb=>b=Y.pm) W W' :=
 (hL z r0 r1 t0 t1 W n P hz hf (h.ro uo hR0 hkm) h.kp h.lt (bA hkm h.size) hn).mono λe W' ⟨h1,n',P',h2,h3,h4,h5⟩=>⟨h1,n',_,h2,h.call h3 h4 h5,λb hb q=>by
  rcases h4 b q.1 with q|q
  . exact q
  . omega,h5⟩
theorem Yv(hL:xg Y B F D KM f)(hK:∀(X X':World) (b:Nat),KM X b->Below X X X'->KM X' b)(uo:∀(X X':World) (b:Nat),KM X b->Out (λq=>q≠b) X X'->KM X' b)(hR0:RO w0 Y B D KM)(hkm:Y.km<w0.heap.size)
  (R q c:Nat) (i0 r0 r1 high:Int) (xs:List Im) (cs:Array Value) (w:World) (n:Nat) (P:Nat->Prop) (hS:qR Y B F w0 P0 n P w) (hA:At w R (.cells cs 216)) (hI:gV cs q xs) (hok:∀x∈xs,Nt Y B D F f i0 x) (Yr:¬ P R) (uN:w0.heap.size<=R) (hn:n+jw B f xs xs.length<maxLen) (hl:xs.length<=10000) :
  Calls ja0 179 #[Y.lb,.slice (some ⟨R,q,none⟩) xs.length c,.agg #[r0,r1],high] w λe w'=>e=.returned (.tuple #[]) /\
   ∃n' P' cs',n'<=n+jw B f xs xs.length/\qR Y B F w0 P0 n' P' w'/\¬ P' R/\(∀b,b<w.heap.size->P' b->P b)/\At w' R (.cells cs' 216)/\gV cs' q (xs.map (Dl B f r0 r1 high))/\kK q xs.length cs cs'/\Out (λb=>b=Y.pm\/b=R) w w':=by
 obtain⟨es0,U0,p9⟩:=hR0.Gv;have aiB:Y.pm<R:=bA p9.lt uN;obtain⟨m,hm⟩:=aC xs.length;have HM:=ah hm;have HN:=ah hn;have HOK:=ah hok;have wu:=ah hR0;have hRl:=hA.lt;have b1:Below w w (w.alloc (.cells #[r0,r1] 81)):=aD aG _;have A0:At (w.alloc (.cells #[r0,r1] 81)) w.heap.size (.cells #[r0,r1] 81):=At.new _ _;have hS1:=hS.after b1;have hA1:=hA.keep b1;have hsz:=b1.size;have hPw:=hS.lt;rw[hm]at hl ⊢;clear hn hok hR0 hS hA hm p9;go_enter Tryz.func179,Tryz.ntmps179
 go_upto_region 1 with(fail)
 generalize w.alloc (.cells #[r0,r1] 81)=w1 at *
 go_upto_region 2 with(fail)
 go_loopw [15] (λiv wr=>∃(k n':Nat) (P':Nat->Prop) (cs':Array Value),k<=m/\iv=.int .i64 k/\n'<=n+jw B f xs k/\qR Y B F w0 P0 n' P' wr/\¬ P' R/\(∀b,b<=w.heap.size->P' b->P b)/\At wr R (.cells cs' 216)/\Hid (gV cs' q (Fj (Dl B f r0 r1 high) xs k)/\kK q m cs cs')/\At wr w (.cells #[r0,r1] 81)/\Out (λb=>b=Y.pm\/b=R) w wr) (λiv _=>m-(intOf iv).toNat)
 case atStart=>exact⟨0,n,P,cs,gF _,rfl,by simp[jw],hS1,Yr,λb hb h=>h,hA1,ah ⟨by rw[Fp];exact hI,kK.refl _ _ _⟩,A0,Out.of_below b1⟩
 case round =>
  clear hS1 hA1 A0 b1 hI hsz;obtain⟨k,n',P',cs',hk,rfl,hn',hSr,yh,yX,hAr,hC,A0,hO⟩:=hrel;by_cases hlt:k<m
  . have hltz:(k:Int)<(m:Int):=by omega
    have hkx:k<xs.length:=by rw[HM.out];exact hlt
    have hkc:k<(Fj (Dl B f r0 r1 high) xs k).length:=by rw[kN];exact hkx
    have qU:=hC.out.1.at_ hAr hkc;rw[uW _ _ hkx]at qU;obtain⟨x,hx⟩:=aC (xs[k]);have mV:=ah (HOK.out x (hx▸List.getElem_mem _));rw[hx]at qU;have HX:=ah hx;have hsR:True:=trivial;have hRr:=hSr.ro uo wu.out hkm;have hbx:=(hRr.box x.ld.id mV.out.d).1;rw[<-mV.out.bx]at hbx;obtain⟨s,hs⟩:=aC ((B x.ld.id).sty);rw[hs]at hbx;generalize Y.vf x.ld.id=vf at hbx;generalize Y.va x.ld.id=va at hbx;generalize (B x.ld.id).ib=ib at hbx;have HS:=ah hs;have qM:=ah hbx;have HIM:=ah qU;have qD:=ah hSr;obtain⟨l2,aL,aM,aP,aQ,bO,bP,bM,bN⟩:=At.bx1 hbx;have Dk:=hAr.lt;have Nu:wr.cell? ⟨R,q+k*17+12,none⟩=some (.pointer x.bx):=(qU 12 ak).trans rfl;have l0:=A0.lt;clear hRr hbx qU hs hx
    go_upto_region 6 with(fail)
    have b5:Below wr wr (wr.alloc (.cells #[s.c 5,s.c 6,s.c 9,s.c 10,s.c 13,s.c 14] 137)):=aD aG _;have AE:At (wr.alloc (.cells #[s.c 5,s.c 6,s.c 9,s.c 10,s.c 13,s.c 14] 137)) wr.heap.size (.cells #[s.c 5,s.c 6,s.c 9,s.c 10,s.c 13,s.c 14] 137):=At.new _ _;generalize wr.alloc (.cells #[s.c 5,s.c 6,s.c 9,s.c 10,s.c 13,s.c 14] 137)=W1 at *;obtain⟨e,he⟩:=aC wr.heap.size;rw[he]at AE;have hel:wr.heap.size<=e:=Nat.le_of_eq he;have akp:e<=wr.heap.size:=Nat.le_of_eq he.symm;rw[he];have B0:=A0.keep b5;have hB1:=hAr.keep b5;have hS1:=hSr.after b5;have iR:Out (λb=>b=Y.pm\/b=R) w W1:=Out.trans' hO (Out.of_below (M:=λ_=>False) b5) λ_ _ q=>q.elim;have CU:=ah (qM.out.keep b5);have af0:=ah (λj hj=>(sD.keep HIM.out b5 Dk) j hj);have akq:w.heap.size<wr.heap.size:=A0.lt;clear he l2 aL aM aP aQ bO bP bM bN Nu l0;obtain⟨l0,aA,aB⟩:=At.two B0;obtain⟨l1,e0,e1,e2,e3,e4,e5⟩:=At.six AE;cases hfx:Fx.dY (s.c 5) r1 with
    | true =>
      have hsame:Hid (Dl B f r0 r1 high xs[k]=xs[k]):=ah (by rw[HX.out];unfold Dl;rw[HS.out,hfx];rfl);have Wo:=ah hfx;clear hfx
      go_wp2_with (go_at_call 104;(with_reducible refine(jJ _ _ _ _ _ _ _ _).mono ?_);rintro e' w5 ⟨rfl,hb⟩;rw[Wo.out])
      go_roundw
      case rel=>exact⟨k+1,n',P',cs',by omega,by go_num,by rw[tO B f xs hkx];omega,hS1.after hb,yh,yX,hB1.keep hb,ah (by rw[Yu _ _ hkx hsame.out];exact hC.out),B0.keep hb,Out.trans' iR (Out.of_below (M:=λ_=>False) hb) λ_ _ q=>q.elim⟩
      case measure=>simp[intOf];omega
    | false =>
      have Wo:=ah hfx;clear hfx
      go_upto_region 7 with(go_at_call 104;(with_reducible refine(jJ _ _ _ _ _ _ _ _).mono ?_);rintro e' w5 ⟨rfl,hb⟩;rw[Wo.out])
      have akr:=hb.size;have b15:=b5.size;have B5:=B0.keep hb;have AE5:=AE.keep hb;have yR:=hB1.keep hb;have hS5:=hS1.after hb;have Gq:Out (λb=>b=Y.pm\/b=R) w w5:=Out.trans' iR (Out.of_below (M:=λ_=>False) hb) λ_ _ q=>q.elim;have Nv:=ah (CU.out.keep hb);have ad1:=ah (sD.keep (x:=x) af0.out hb ak);have HSF:=ah (show Dl B f r0 r1 high x={ x with ld:=Fw.lay B f x.ld.id r0 r1 x.ld.s0 (Fw.wr (Fx.limit (max (Fw.wr (high-ext1 x s)) 0) (s.c 9) (s.c 10) (s.c 13) (s.c 14) r1+Fw.wr (Fw.ed s 0+Fw.ed s 2))) }by unfold Dl;rw[HS.out,Wo.out];rfl);clear hb l0 aA aB l1 e0 e1 e2 e3 e4 e5 B0 AE hB1 hS1 iR CU af0 b5;have hSd:Below w5 w5 w5.drew:=Below.drew aG;have UD:=λX (h:Below w5 w5 X)=>Sy x s vf va ib X (Nv.out.keep h);obtain⟨ex1,ad2⟩:=aC (ext1 x s);rw[ad2,<-sK (high-ex1)]at HSF;simp only[ad2]at UD;obtain⟨d1,hd1⟩:=aC (IntKind.i64.wrap (high-ex1));rw[hd1]at HSF;obtain⟨lm,hlm⟩:=aC (Fx.limit (max d1 0) (s.c 9) (s.c 10) (s.c 13) (s.c 14) r1);rw[hlm]at HSF;have nY:=λX=>tH (s.c 5) (s.c 6) (s.c 9) (s.c 10) (s.c 13) (s.c 14) (max d1 0) r1 X;simp only[hlm]at nY;clear ad2 hlm;obtain⟨l0,aA,aB⟩:=At.two B5;obtain⟨l1,e0,e1,e2,e3,e4,e5⟩:=At.six AE5;have lR5:=yR.lt;refine jy (S:=λX=>Below w5 w5 X) 12 ?_ ?_
      . exact hSd
      intro hx;clear hSd;refine aS 0 ?_;refine aS 1 ?_;refine aS 2 ?_;refine aS 3 ?_;refine aS 8 ?_;refine aS 9 ?_;refine mG 4 rfl (Fh (.tmp 36) bB rfl rfl (λX h=>sD.keep ad1.out h lR5)) ?_;refine tk1 5 ?_;refine aj.Step.call eD (UD _ hx) ?_;rintro e' w6 ⟨rfl,hb⟩;replace hx:=Below.ay hx aF hb;clear hb;refine⟨_,rfl,λ_=>hx,?_⟩
      (try simp only[bV,bW,bX,tks])
      refine aS 6 ?_;refine aS 7 ?_;refine tk1 10 ?_;refine aj.Step.call eD (nY _) ?_;rintro e' w7 ⟨rfl,hb⟩;replace hx:=Below.ay hx aF hb;clear hb;refine⟨_,rfl,λ_=>hx,?_⟩
      (try simp only[bV,bW,bX,tks])
      refine aS 11 ?_;refine jk ?_;have b7s:=hx.size;have B7:=B5.keep hx;have OO:=yR.keep hx;have hS7:=hS5.after hx;have Cq:Out (λb=>b=Y.pm\/b=R) w w7:=Out.trans' Gq (Out.of_below (M:=λ_=>False) hx) λ_ _ q=>q.elim;have ad3:=ah (Nv.out.keep hx);have Yw:=ah (sD.keep (x:=x) ad1.out hx lR5);clear hx l0 aA aB l1 e0 e1 e2 e3 e4 e5 B5 AE5 yR hS5 Gq Nv ad1 UD nY lR5 hd1;have vV:=λX=>eT (Fw.ed s 0) (Fw.ed s 2) X;obtain⟨e02,He⟩:=aC (Fw.wr (Fw.ed s 0+Fw.ed s 2));rw[He,<-sK (lm+e02)]at HSF;simp only[He]at vV;obtain⟨hh,Nq⟩:=aC (IntKind.i64.wrap (lm+e02));rw[Nq]at HSF;clear He;have cs0:w7.cell? ⟨R,q+k*17+8,none⟩=some (.int .i64 x.ld.s0):=(Yw.out 8 ak).trans rfl;have Nu:w7.cell? ⟨R,q+k*17+12,none⟩=some (.pointer x.bx):=(Yw.out 12 ak).trans rfl;have lR7:=OO.lt;obtain⟨l2,aL,aM,aP,aQ,bO,bP,bM,bN⟩:=At.bx1 ad3.out;clear aL aM aP aQ bO bP
      go_upto_region 8 with(fail)
      refine aj.iJ (λa0 a W5=>∃(T:Nat) (u44 u45 u46 u47 u48 u49 u50 u51 u52 u53 u54 u55 u56 u57 u58 u59 u60 u61:Value),a={ a0 with tmps:=((((((((((((((((((a0.tmps.setIfInBounds 44 u44).setIfInBounds 45 u45).setIfInBounds 46 u46).setIfInBounds 47 u47).setIfInBounds 48 u48).setIfInBounds 49 u49).setIfInBounds 50 u50).setIfInBounds 51 u51).setIfInBounds 52 u52).setIfInBounds 53 u53).setIfInBounds 54 u54).setIfInBounds 55 u55).setIfInBounds 56 u56).setIfInBounds 57 u57).setIfInBounds 58 u58).setIfInBounds 59 u59).setIfInBounds 60 u60).setIfInBounds 61 u61).setIfInBounds 12 (.pointer T) }/\w7.heap.size<=T/\At W5 T (.cells #[x.ld.s0,hh] 81)/\Below w7 w7 W5) ?_ ?_
      . have hSd:Below w7 w7 w7.drew:=Below.drew aG
        refine jy (S:=λX=>Below w7 w7 X) 20 ?_ ?_
        . exact hSd
        intro hx;clear hSd;refine aS 0 ?_;refine aS 1 ?_;refine aS 2 ?_;refine aS 3 ?_;refine aS 4 ?_;refine aS 5 ?_;refine aS 6 ?_;refine aS 7 ?_;refine aS 8 ?_;refine aS 9 ?_;refine aS 10 ?_;refine aS 11 ?_;refine aS 12 ?_;refine aS 13 ?_;refine aS 14 ?_;clear l2 bM bN cs0 Nu lR7 Yw ad3 Cq hS7 OO B7;refine tk2 15 18 ?_ ?_
        . refine aj.Step.call eD (vV _) ?_
          rintro e' w9 ⟨rfl,hb⟩;replace hx:=Below.ay hx aF hb;clear hb;refine⟨_,rfl,λ_=>hx,?_⟩
          (try simp only[bV,bW,bX,tks])
          refine aS 16 ?_;refine aS 17 ?_;refine tk1 18 ?_;refine aj.Step.value (u:=.pointer w9) (w':=w9.alloc (.cells #[(),()] 81)) eD ?_;obtain⟨jD,vZ,AT,iM,gT⟩:∃jD,jD=w9.alloc (.cells #[(),()] 81)/\At jD w9 (.cells #[(),()] 81)/\Below w9 w9 jD/\w7.heap.size<=w9.heap.size:=⟨_,rfl,At.new _ _,aD aG _,hx.size⟩;rw[<-vZ];clear vZ;replace hx:=Below.ay hx aF iM;generalize w9.heap.size=T at *;refine⟨λ_=>hx,?_⟩
          (try simp only[bV,bW,bX,tks])
          exact Zu
        . refine aj.Step.value (u:=.pointer w7.drew) (w':=w7.drew.alloc (.cells #[(),()] 81)) eD ?_
          obtain⟨jD,vZ,AT,iM,gT⟩:∃jD,jD=w7.drew.alloc (.cells #[(),()] 81)/\At jD w7.drew (.cells #[(),()] 81)/\Below w7.drew w7.drew jD/\w7.heap.size<=w7.drew.heap.size:=⟨_,rfl,At.new _ _,aD aG _,hx.size⟩;rw[<-vZ];clear vZ;replace hx:=Below.ay hx aF iM;generalize w7.drew.heap.size=T at *;refine⟨λ_=>hx,?_⟩
          (try simp only[bV,bW,bX,tks])
          refine tk1 15 ?_;refine aj.Step.call eD (vV _) ?_;rintro e' w9 ⟨rfl,hb⟩;replace hx:=Below.ay hx aF hb;replace AT:=AT.keep hb;clear hb;refine⟨_,rfl,λ_=>hx,?_⟩
          (try simp only[bV,bW,bX,tks])
          refine aS 16 ?_;refine aS 17 ?_;exact Zu
      . rintro a W9 ⟨T,u44,u45,u46,u47,u48,u49,u50,u51,u52,u53,u54,u55,u56,u57,u58,u59,u60,u61,rfl,gT,AT,iM⟩
        simp only[List.setIfInBounds_toArray,ja2,List.set_cons_succ];clear vV Nq l2 bM bN cs0 Nu;have b9s:=iM.size;have B9:=B7.keep iM;have qO:=OO.keep iM;have Hf:=(hS7.after iM).after ((Below.refl W9.heap.size W9).drew);have Jc:Out (λb=>b=Y.pm\/b=R) w W9:=Out.trans' Cq (Out.of_below (M:=λ_=>False) iM) λ_ _ q=>q.elim;have hid:W9.cell? ⟨R,q+k*17+5,none⟩=some (.int .i64 x.ld.id):=(sD.keep Yw.out iM lR7 5 ak).trans rfl;have lR9:=qO.lt;have hcs1:=tO B f xs hkx;rw[HX.out]at hcs1;have hcs2:=xU B f xs (k+1);have hnn:=HN.out;have sF:=tQ hL uo wu.out hkm Hf x.ld.id r0 r1 x.ld.s0 hh mV.out.d mV.out.f ak;have O7:=ah (show q+k*17+5+7<=cs'.size by have:=hC.out.1.1;rw[kN]at this;have h2:k*17+17<=xs.length*17:=ak;omega);have ad4:Fw.lay B f x.ld.id r0 r1 x.ld.s0 hh={ Fw.lay B f x.ld.id r0 r1 x.ld.s0 hh with id:=x.ld.id }:=rfl;obtain⟨ly,xS⟩:=aC (Fw.lay B f x.ld.id r0 r1 x.ld.s0 hh);have LX:ly.id=x.ld.id:=by rw[<-xS];rfl
        rw[xS]at sF;have aiC:=ah (show Dl B f r0 r1 high x={ x with ld:=ly }by rw[HSF.out,<-xS]);clear ad4 xS HSF hS7 OO B7 Cq Yw ad3 iM lR7;obtain⟨l0,aA,aB⟩:=At.two B9;obtain⟨lT,cT0,cT1⟩:=At.two AT;have n1:w.heap.size≠Y.pm:=by omega
        have n2:w.heap.size≠R:=by omega
        have n3:T≠Y.pm:=by omega
        have n4:T≠R:=by omega
        have hSd:Out (λb=>b=Y.pm\/b=R) W9 W9.drew/\W9.drew.cell? ⟨R,q+k*17+5,none⟩=some (.int .i64 x.ld.id):=⟨(Out.refl _ _).drew,hid⟩
        go_upto_region 9 with(fail)
        refine jy (S:=λX=>Out (λb=>b=Y.pm\/b=R) W9 X/\X.cell? ⟨R,q+k*17+5,none⟩=some (.int .i64 x.ld.id)) 14 ?_ ?_
        . exact hSd
        intro hx;clear hSd;refine iG 0 ?_;refine iG 1 ?_;refine iG 2 ?_;refine iG 3 ?_;refine iG 4 ?_;refine iG 5 ?_;refine iG 6 ?_;refine iG 7 ?_;refine iG 8 ?_;refine iG 9 ?_;refine tk1 10 ?_;refine aj.Step.call eD sF ?_;rintro e' jD ⟨rfl,n2',P2,hn2,nZ,Jd,mq⟩;have Qy:Out (λb=>b=Y.pm) W9 jD:=(Out.refl _ W9).drew.trans mq;have oq:=qO.out (M:=λb=>b=Y.pm) ak Qy;have vP:jD.cell? ⟨R,q+k*17+5,none⟩=some (.int .i64 x.ld.id):=(Out.cell Qy (q+k*17+5) lR9 ak).trans hid;have B10:=B9.out (M:=λb=>b=Y.pm) n1 Qy;have KF:Out (λb=>b=Y.pm\/b=R) W9 jD/\jD.cell? ⟨R,q+k*17+5,none⟩=some (.int .i64 x.ld.id):=⟨Qy.mono λb _ h => .inl h,vP⟩;refine⟨_,rfl,λ_=>KF,?_⟩
        (try simp only[bV,bW,bX,tks])
        refine iG 11 ?_;refine iG 12 ?_;refine tk1 13 ?_;refine aj.Step.skip (bH oC (.tmp 74) (.tmp 72) rfl rfl rfl oq (dW ly) O7.out (pY ly)) ?_;have pF:At (jD.setRow R (splice cs' (q+k*17+5) (fH ly))) R (.cells (splice cs' (q+k*17+5) (fH ly)) 216):=At.setRow oq _;have jU:Out (λb=>b=R) jD (jD.setRow R (splice cs' (q+k*17+5) (fH ly))):=Out.setRow (M:=λb=>b=R) (Out.refl _ _) rfl _;have Cr:(jD.setRow R (splice cs' (q+k*17+5) (fH ly))).cell? ⟨R,q+k*17+5,none⟩=some (.int .i64 x.ld.id):=by
         exact Z1h
        refine⟨λ_=>⟨(Qy.mono λb _ h => .inl h).trans (jU.mono λb _ h => .inr h),Cr⟩,?_⟩
        (try simp only[bV,bW,bX,tks])
        refine jk ?_;have sG:¬ P2 R:=λh=>yh (Jd R (by simpa using lR9) h);have hput:=hC.out.1.SC hkc ly;rw[uW _ _ hkx,HX.out]at hput
        have Yx:Hid (gV (splice cs' (q+k*17+5) (fH ly)) q (Fj (Dl B f r0 r1 high) xs (k+1))/\kK q m cs (splice cs' (q+k*17+5) (fH ly))):=ah ⟨by
         rw[<-zZ _ _ hkx,HX.out,aiC.out]
         exact hput.1,hC.out.2.trans (by have:=hput.2;rw[kN,HM.out]at this;exact this)⟩
        have sH:=nZ.own (M:=λb=>b=R) jU λb hb h=>by subst h;exact⟨sG,uN⟩
        have pJ:Out (λb=>b=Y.pm\/b=R) w (jD.setRow R (splice cs' (q+k*17+5) (fH ly))):=(Jc.trans (Qy.mono λb _ h => .inl h)).trans (jU.mono λb _ h => .inr h);have B11:=B10.out (M:=λb=>b=R) n2 jU;have ad5:∀b,b<=w.heap.size->P2 b->P b:=λb hb h=>yX b hb (Jd b (by simp only[World.size_drew];omega) h);generalize jD.setRow R (splice cs' (q+k*17+5) (fH ly))=rP at *;generalize splice cs' (q+k*17+5) (fH ly)=cs2 at *;clear hx hput oq jU Cr vP B10 B9 qO Hf Jc Qy mq hid AT l0 aA aB lT cT0 cT1 Jd nZ;go_wp2
        go_roundw
        case rel=>exact⟨k+1,n2',P2,cs2,by omega,by go_num,by omega,sH,sG,ad5,pF,Yx,B11,pJ⟩
        case measure=>simp[intOf];omega
  . obtain rfl:k=m:=by omega
    go_wp2
    go_end0
    refine⟨rfl,n',P',cs',by rw[<-HM.out]at hn' ⊢;exact hn',hSr,yh,λb hb h=>yX b ak h,hAr,?_,hC.out.2,hO⟩;have:=hC.out.1;rw[<-HM.out,KA]at this;exact this
end
theorem Ct(kind s room:Int)(w:World):Calls ja0 142 #[kind,s,room] w λe w'=>e=.returned (.int .i64 (Ju.across kind s room))/\w=w':=by
 by_cases h2:kind=2
 . subst h2
   have Hr:Hid (Ju.across 2 s room=Fx.div (Fx.sub room s) 2):=ah (by unfold Ju.across;simp);exact Z1d
 . by_cases h3:kind=3
   . subst h3
     have Hr:Hid (Ju.across 3 s room=Fx.sub room s):=ah (by unfold Ju.across;simp);exact Z1d
   . have Hr:Hid (Ju.across kind s room=0):=ah (by unfold Ju.across;rw[if_neg h2,if_neg h3])
     have g2:(kind==2)=false:=by simp[h2]
     have g3:(kind==3)=false:=by simp[h3]
     exact Z1d
theorem Nw(left p s q k:Int)(n b1 b2 b3 b4:Nat)(w:World)(c1:w.cell? ⟨b1,0,none⟩=some (.int .i64 left))(c2:w.cell? ⟨b2,0,none⟩=some (.int .i64 p))(c3:w.cell? ⟨b3,0,none⟩=some (.int .i64 s))(c4:w.cell? ⟨b4,0,none⟩=some (.int .i64 q))(p0:0<=p)(p1:p<=1)(s0:0<=s)(s2:s<=2)(k0:0<=k)(k1:k<=100000) :
  Calls ja0 205 #[k,b1,b2,b3,b4] w λe w'=>e=.returned (.int .i64 (Ju.fr left p s q k))/\Below w w w':=by
 have l1:b1<w.heap.size:=World.block_lt_of_cell? _ _ c1;have l2:b2<w.heap.size:=World.block_lt_of_cell? _ _ c2;have l3:b3<w.heap.size:=World.block_lt_of_cell? _ _ c3;have l4:b4<w.heap.size:=World.block_lt_of_cell? _ _ c4;obtain⟨m1,m2⟩:0<=s*k/\s*k<=2*100000:=Fx.Bl s0 s2 k0 k1;have hw1:IntKind.i64.wrap (s*k)=s*k:=IntWalk.i64_in _ ak;have hw2:IntKind.i64.wrap (p+s*k)=p+s*k:=IntWalk.i64_in _ ak;go_enter Tryz.func205,Tryz.ntmps205
 go_upto_region 1 with(fail)
 refine vS ?_
 (repeat (first|refine jV ?_ | refine jW ?_ (hc:=by intro w2 hS;first|with_reducible exact AF hS (aa7 _ _ _)|with_reducible exact AF hS (RJ _ _ _))|refine jX ?_))
 refine aj.bY ?_;intro w2 hS;go_wp2
 go_ret
 exact⟨rfl,hS⟩
structure dL(w:World)(b1 b2 b3 b4:Nat)(left p s q:Int):Prop where
 a1:At w b1 (.cells #[left] 3)
 a2:At w b2 (.cells #[p] 3)
 a3:At w b3 (.cells #[s] 3)
 a4:At w b4 (.cells #[q] 3)
 n12:b1≠b2
 n13:b1≠b3
 n14:b1≠b4
 n23:b2≠b3
 n24:b2≠b4
 n34:b3≠b4
theorem dL.keep{w w':World}(h:dL w b1 b2 b3 b4 left p s q)(hb:Below w w w'):dL w' b1 b2 b3 b4 left p s q:=⟨h.a1.keep hb,h.a2.keep hb,h.a3.keep hb,h.a4.keep hb,h.n12,h.n13,h.n14,h.n23,h.n24,h.n34⟩
theorem dL.TB(h:dL w b1 b2 b3 b4 left p s q)(x:Int):dL (w.setCell ⟨b2,0,none⟩ (.int .i64 x)) b1 b2 b3 b4 left x s q :=
 ⟨h.a1.off h.n12 _ _,h.a2.set 0 _,h.a3.off h.n23.symm _ _,h.a4.off h.n24.symm _ _,h.n12,h.n13,h.n14,h.n23,h.n24,h.n34⟩
theorem dL.ad6(h:dL w b1 b2 b3 b4 left p s q)(x:Int):dL (w.setCell ⟨b3,0,none⟩ (.int .i64 x)) b1 b2 b3 b4 left p x q :=
 ⟨h.a1.off h.n13 _ _,h.a2.off h.n23 _ _,h.a3.set 0 _,h.a4.off h.n34.symm _ _,h.n12,h.n13,h.n14,h.n23,h.n24,h.n34⟩
theorem dL.TH(h:dL w b1 b2 b3 b4 left p s q)(x:Int):dL (w.setCell ⟨b4,0,none⟩ (.int .i64 x)) b1 b2 b3 b4 left p s x :=
 ⟨h.a1.off h.n14 _ _,h.a2.off h.n24 _ _,h.a3.off h.n34 _ _,h.a4.set 0 _,h.n12,h.n13,h.n14,h.n23,h.n24,h.n34⟩
theorem og(w:World)(left:Int):dL ((((w.alloc (.cells #[left] 3)).alloc (.cells #[()] 3)).alloc (.cells #[()] 3)).alloc (.cells #[.int .i64 1] 3)) w.heap.size (w.heap.size+1) (w.heap.size+1+1) (w.heap.size+1+1+1) left 0 0 1 :=
 ⟨At.alloc (At.alloc (At.alloc (At.new _ _) _) _) _,At.alloc (At.alloc (At.new' _ bI) _) _,At.alloc (At.new' _ bI) _,At.new' _ bI,by omega,by omega,by omega,by omega,by omega,by omega⟩
theorem nH(w:World)(a b c d:Obj):Below w w ((((w.alloc a).alloc b).alloc c).alloc d) :=
 aD (aD (aD (aD aG _) _) _) _
theorem dL.cells(h:dL w b1 b2 b3 b4 left p s q) :
  w.cell? ⟨b1,0,none⟩=some (.int .i64 left)/\w.cell? ⟨b2,0,none⟩=some (.int .i64 p)/\w.cell? ⟨b3,0,none⟩=some (.int .i64 s)/\w.cell? ⟨b4,0,none⟩=some (.int .i64 q) :=
 ⟨h.a1.cell 0,h.a2.cell 0,h.a3.cell 0,h.a4.cell 0⟩
theorem dL.Ii(h:dL w b1 b2 b3 b4 left p s q) :
  w.frozen? ⟨b2,0,none⟩=false/\w.frozen? ⟨b3,0,none⟩=false/\w.frozen? ⟨b4,0,none⟩=false/\b2<w.heap.size/\b3<w.heap.size/\b4<w.heap.size :=
 ⟨h.a2.thaw 0,h.a3.thaw 0,h.a4.thaw 0,h.a2.lt,h.a3.lt,h.a4.lt⟩
theorem Ve(left n:Int)(w:World)(n0:0<=n)(n1:n<=100000):Calls ja0 183 #[.int .i64 1,left,n] w λe w'=>(∃b1 b2 b3 b4,e=.returned (.func (.func 205) #[] #[.pointer (some ⟨b1,0,none⟩),.pointer (some ⟨b2,0,none⟩),.pointer (some ⟨b3,0,none⟩),.pointer (some ⟨b4,0,none⟩)])/\dL w' b1 b2 b3 b4 left (1) (0) (1))/\Below w w w':=by
 have Kc:=@tC;go_enter Tryz.func183,Tryz.ntmps183
 go_upto_region 2 with(fail)
 generalize hW:ja5 (ja5 (ja5 (ja5 _ _) _) _) _=W1;have hX:dL W1 w.heap.size (w.heap.size+1) (w.heap.size+1+1) (w.heap.size+1+1+1) left 0 0 1:=hW▸og w left;have hB:Below w w W1:=hW▸nH w _ _ _ _;clear hW;obtain⟨m2,m3,m4⟩:w.heap.size<=w.heap.size+1/\w.heap.size<=w.heap.size+1+1/\w.heap.size<=w.heap.size+1+1+1:=⟨by omega,by omega,by omega⟩;generalize w.heap.size+1+1+1=b4 at *;generalize w.heap.size+1+1=b3 at *;generalize w.heap.size+1=b2 at *;have HX:=ah hX;obtain⟨c1,c2,c3,c4⟩:=hX.cells;obtain⟨z2,z3,z4,l2,l3,l4⟩:=hX.Ii;have l1:=hX.a1.lt;have n23:=hX.n23;have n24:=hX.n24;have n34:=hX.n34;have n32:=hX.n23.symm;have n42:=hX.n24.symm;have n43:=hX.n34.symm;clear hX;go_wp2
 go_ret
 exact⟨⟨_,_,_,_,rfl,(HX.out.TB (1))⟩,(Below.setCell hB m2 _)⟩
theorem Vf(left n:Int)(w:World)(n0:0<=n)(n1:n<=100000):Calls ja0 183 #[.int .i64 2,left,n] w λe w'=>(∃b1 b2 b3 b4,e=.returned (.func (.func 205) #[] #[.pointer (some ⟨b1,0,none⟩),.pointer (some ⟨b2,0,none⟩),.pointer (some ⟨b3,0,none⟩),.pointer (some ⟨b4,0,none⟩)])/\dL w' b1 b2 b3 b4 left (1) (0) (2))/\Below w w w':=by
 have Kc:=@tC;exact Za
theorem Ny(left n:Int)(w:World)(n0:0<=n)(n1:n<=100000)(h1:0<left)(h2:1<n):Calls ja0 183 #[.int .i64 3,left,n] w λe w'=>(∃b1 b2 b3 b4,e=.returned (.func (.func 205) #[] #[.pointer (some ⟨b1,0,none⟩),.pointer (some ⟨b2,0,none⟩),.pointer (some ⟨b3,0,none⟩),.pointer (some ⟨b4,0,none⟩)])/\dL w' b1 b2 b3 b4 left (0) (1) (n-1))/\Below w w w':=by
 have Kc:=@tC;go_enter Tryz.func183,Tryz.ntmps183
 go_upto_region 2 with(fail)
 generalize hW:ja5 (ja5 (ja5 (ja5 _ _) _) _) _=W1;have hX:dL W1 w.heap.size (w.heap.size+1) (w.heap.size+1+1) (w.heap.size+1+1+1) left 0 0 1:=hW▸og w left;have hB:Below w w W1:=hW▸nH w _ _ _ _;clear hW;obtain⟨m2,m3,m4⟩:w.heap.size<=w.heap.size+1/\w.heap.size<=w.heap.size+1+1/\w.heap.size<=w.heap.size+1+1+1:=⟨by omega,by omega,by omega⟩;generalize w.heap.size+1+1+1=b4 at *;generalize w.heap.size+1+1=b3 at *;generalize w.heap.size+1=b2 at *;have HX:=ah hX;obtain⟨c1,c2,c3,c4⟩:=hX.cells;obtain⟨z2,z3,z4,l2,l3,l4⟩:=hX.Ii;have l1:=hX.a1.lt;have n23:=hX.n23;have n24:=hX.n24;have n34:=hX.n34;have n32:=hX.n23.symm;have n42:=hX.n24.symm;have n43:=hX.n34.symm;clear hX;go_wp2
 go_ret
 exact⟨⟨_,_,_,_,rfl,((HX.out.ad6 (1)).TH (n-1))⟩,(Below.setCell (Below.setCell hB m3 _) m4 _)⟩
theorem Fq(left n:Int)(w:World)(n0:0<=n)(n1:n<=100000)(h1:left<=0):Calls ja0 183 #[.int .i64 3,left,n] w λe w'=>(∃b1 b2 b3 b4,e=.returned (.func (.func 205) #[] #[.pointer (some ⟨b1,0,none⟩),.pointer (some ⟨b2,0,none⟩),.pointer (some ⟨b3,0,none⟩),.pointer (some ⟨b4,0,none⟩)])/\dL w' b1 b2 b3 b4 left (0) (0) (1))/\Below w w w':=by
 have Kc:=@tC;have e1:decide (0<left)=false:=by simp;omega
 exact Zb
theorem Dm(left n:Int)(w:World)(n0:0<=n)(n1:n<=100000)(h1:0<left)(h2:n<=1):Calls ja0 183 #[.int .i64 3,left,n] w λe w'=>(∃b1 b2 b3 b4,e=.returned (.func (.func 205) #[] #[.pointer (some ⟨b1,0,none⟩),.pointer (some ⟨b2,0,none⟩),.pointer (some ⟨b3,0,none⟩),.pointer (some ⟨b4,0,none⟩)])/\dL w' b1 b2 b3 b4 left (0) (0) (1))/\Below w w w':=by
 have Kc:=@tC;have e2:decide (1<n)=false:=by simp;omega
 exact Zb
theorem Qz(left n:Int)(w:World)(n0:0<=n)(n1:n<=100000)(h1:0<left):Calls ja0 183 #[.int .i64 4,left,n] w λe w'=>(∃b1 b2 b3 b4,e=.returned (.func (.func 205) #[] #[.pointer (some ⟨b1,0,none⟩),.pointer (some ⟨b2,0,none⟩),.pointer (some ⟨b3,0,none⟩),.pointer (some ⟨b4,0,none⟩)])/\dL w' b1 b2 b3 b4 left (1) (2) (2*n))/\Below w w w':=by
 have Kc:=@tC;go_enter Tryz.func183,Tryz.ntmps183
 go_upto_region 2 with(fail)
 generalize hW:ja5 (ja5 (ja5 (ja5 _ _) _) _) _=W1;have hX:dL W1 w.heap.size (w.heap.size+1) (w.heap.size+1+1) (w.heap.size+1+1+1) left 0 0 1:=hW▸og w left;have hB:Below w w W1:=hW▸nH w _ _ _ _;clear hW;obtain⟨m2,m3,m4⟩:w.heap.size<=w.heap.size+1/\w.heap.size<=w.heap.size+1+1/\w.heap.size<=w.heap.size+1+1+1:=⟨by omega,by omega,by omega⟩;generalize w.heap.size+1+1+1=b4 at *;generalize w.heap.size+1+1=b3 at *;generalize w.heap.size+1=b2 at *;have HX:=ah hX;obtain⟨c1,c2,c3,c4⟩:=hX.cells;obtain⟨z2,z3,z4,l2,l3,l4⟩:=hX.Ii;have l1:=hX.a1.lt;have n23:=hX.n23;have n24:=hX.n24;have n34:=hX.n34;have n32:=hX.n23.symm;have n42:=hX.n24.symm;have n43:=hX.n34.symm;clear hX;go_wp2
 go_ret
 exact⟨⟨_,_,_,_,rfl,(((HX.out.TB (1)).ad6 (2)).TH (2*n))⟩,(Below.setCell (Below.setCell (Below.setCell hB m2 _) m3 _) m4 _)⟩
theorem Hg(left n:Int)(w:World)(n0:0<=n)(n1:n<=100000)(h1:left<=0):Calls ja0 183 #[.int .i64 4,left,n] w λe w'=>(∃b1 b2 b3 b4,e=.returned (.func (.func 205) #[] #[.pointer (some ⟨b1,0,none⟩),.pointer (some ⟨b2,0,none⟩),.pointer (some ⟨b3,0,none⟩),.pointer (some ⟨b4,0,none⟩)])/\dL w' b1 b2 b3 b4 left (1) (0) (2))/\Below w w w':=by
 have Kc:=@tC;have e1:decide (0<left)=false:=by simp;omega
 exact Za
theorem QA(left n:Int)(w:World)(n0:0<=n)(n1:n<=100000)(h1:0<left):Calls ja0 183 #[.int .i64 5,left,n] w λe w'=>(∃b1 b2 b3 b4,e=.returned (.func (.func 205) #[] #[.pointer (some ⟨b1,0,none⟩),.pointer (some ⟨b2,0,none⟩),.pointer (some ⟨b3,0,none⟩),.pointer (some ⟨b4,0,none⟩)])/\dL w' b1 b2 b3 b4 left (1) (1) (n+1))/\Below w w w':=by
 have Kc:=@tC;go_enter Tryz.func183,Tryz.ntmps183
 go_upto_region 2 with(fail)
 generalize hW:ja5 (ja5 (ja5 (ja5 _ _) _) _) _=W1;have hX:dL W1 w.heap.size (w.heap.size+1) (w.heap.size+1+1) (w.heap.size+1+1+1) left 0 0 1:=hW▸og w left;have hB:Below w w W1:=hW▸nH w _ _ _ _;clear hW;obtain⟨m2,m3,m4⟩:w.heap.size<=w.heap.size+1/\w.heap.size<=w.heap.size+1+1/\w.heap.size<=w.heap.size+1+1+1:=⟨by omega,by omega,by omega⟩;generalize w.heap.size+1+1+1=b4 at *;generalize w.heap.size+1+1=b3 at *;generalize w.heap.size+1=b2 at *;have HX:=ah hX;obtain⟨c1,c2,c3,c4⟩:=hX.cells;obtain⟨z2,z3,z4,l2,l3,l4⟩:=hX.Ii;have l1:=hX.a1.lt;have n23:=hX.n23;have n24:=hX.n24;have n34:=hX.n34;have n32:=hX.n23.symm;have n42:=hX.n24.symm;have n43:=hX.n34.symm;clear hX;go_wp2
 go_ret
 exact⟨⟨_,_,_,_,rfl,(((HX.out.TB (1)).ad6 (1)).TH (n+1))⟩,(Below.setCell (Below.setCell (Below.setCell hB m2 _) m3 _) m4 _)⟩
theorem Hl(left n:Int)(w:World)(n0:0<=n)(n1:n<=100000)(h1:left<=0):Calls ja0 183 #[.int .i64 5,left,n] w λe w'=>(∃b1 b2 b3 b4,e=.returned (.func (.func 205) #[] #[.pointer (some ⟨b1,0,none⟩),.pointer (some ⟨b2,0,none⟩),.pointer (some ⟨b3,0,none⟩),.pointer (some ⟨b4,0,none⟩)])/\dL w' b1 b2 b3 b4 left (1) (0) (2))/\Below w w w':=by
 have Kc:=@tC;have e1:decide (0<left)=false:=by simp;omega
 exact Za
theorem QB(kind left n:Int)(w:World)(n0:0<=n)(n1:n<=100000)(h1:¬ kind=1)(h2:¬ kind=2)(h3:¬ kind=3)(h4:¬ kind=4)(h5:¬ kind=5):Calls ja0 183 #[kind,left,n] w λe w'=>(∃b1 b2 b3 b4,e=.returned (.func (.func 205) #[] #[.pointer (some ⟨b1,0,none⟩),.pointer (some ⟨b2,0,none⟩),.pointer (some ⟨b3,0,none⟩),.pointer (some ⟨b4,0,none⟩)])/\dL w' b1 b2 b3 b4 left (0) (0) (1))/\Below w w w':=by
 have Kc:=@tC;have g1:(kind==1)=false:=by simp[h1]
 have g2:(kind==2)=false:=by simp[h2]
 have g3:(kind==3)=false:=by simp[h3]
 have g4:(kind==4)=false:=by simp[h4]
 have g5:(kind==5)=false:=by simp[h5]
 exact Zb
theorem QC(kind left n:Int)(w:World)(n0:0<=n)(n1:n<=100000):Calls ja0 183 #[kind,left,n] w λe w'=>(∃b1 b2 b3 b4,e=.returned (.func (.func 205) #[] #[.pointer (some ⟨b1,0,none⟩),.pointer (some ⟨b2,0,none⟩),.pointer (some ⟨b3,0,none⟩),.pointer (some ⟨b4,0,none⟩)])/\dL w' b1 b2 b3 b4 left ((Ju.pq kind left n).1) ((Ju.pq kind left n).2.1) ((Ju.pq kind left n).2.2))/\Below w w w':=by
 by_cases h1:kind=1
 . subst h1;exact Ve left n w n0 n1
 by_cases h2:kind=2
 . subst h2;exact Vf left n w n0 n1
 by_cases h3:kind=3
 . subst h3
   by_cases hl:0<left
   . by_cases hn:1<n
     . rw[show Ju.pq 3 left n=(0,1,n-1)by unfold Ju.pq;simp[hl,hn]];exact Ny left n w n0 n1 hl hn
     . rw[show Ju.pq 3 left n=(0,0,1)by unfold Ju.pq;simp[hn]];exact Dm left n w n0 n1 hl ak
   . rw[show Ju.pq 3 left n=(0,0,1)by unfold Ju.pq;simp[hl]];exact Fq left n w n0 n1 ak
 by_cases h4:kind=4
 . subst h4
   by_cases hl:0<left
   . rw[show Ju.pq 4 left n=(1,2,2*n)by unfold Ju.pq;simp[hl]];exact Qz left n w n0 n1 hl
   . rw[show Ju.pq 4 left n=(1,0,2)by unfold Ju.pq;simp[hl]];exact Hg left n w n0 n1 ak
 by_cases h5:kind=5
 . subst h5
   by_cases hl:0<left
   . rw[show Ju.pq 5 left n=(1,1,n+1)by unfold Ju.pq;simp[hl]];exact QA left n w n0 n1 hl
   . rw[show Ju.pq 5 left n=(1,0,2)by unfold Ju.pq;simp[hl]];exact Hl left n w n0 n1 ak
 rw[show Ju.pq kind left n=(0,0,1)by unfold Ju.pq;simp[h1,h2,h3,h4,h5]];exact QB kind left n w n0 n1 h1 h2 h3 h4 h5
end Go.Proofs.YtfohooineeijkaaGreat.Fix
