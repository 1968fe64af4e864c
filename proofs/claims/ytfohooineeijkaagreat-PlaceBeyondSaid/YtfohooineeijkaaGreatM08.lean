/- Steps of the program (8); no conditions. -/
import Derived.Test.YtfohooineeijkaaGreatM07
set_option linter.all false
set_option maxRecDepth 100000
set_option maxHeartbeats 16000000
namespace Go.Proofs.YtfohooineeijkaaGreat.Fix
open Go.ChangeShapes Go.WideShapes Go.ChangeAt Go.RowKit
open Go.Proofs.Tryz renaming prog → ja0
open List renaming setIfInBounds_toArray → ja1,set_cons_zero → ja2,set_cons_succ → ja3,length_cons → jb4,length_take → jc1
open World renaming setCell → ja4,alloc → ja5
variable {z:Int}
theorem sK(x:Int):IntKind.i64.wrap x=Fw.wr x:=(IntWalk.i64_left x).trans (wC x)
def bxe(s:Re.St)(fl ap:Value)(ib:Bool):Array Value:=#[s.c 3,s.c 4,s.c 7,s.c 8,s.c 11,s.c 12,s.c 5,s.c 6,s.c 9,s.c 10,s.c 13,s.c 14,Fw.ed s 3,Fw.ed s 1,Fw.ed s 0,Fw.ed s 2,fl,ap,ib]
def IE(s:Re.St)(fl ap:Value)(ib:Bool):Array Value:=cells s++bxe s fl ap ib
theorem Km(s:Re.St)(fl ap:Value)(ib:Bool){i:Nat}(h:i<55):(IE s fl ap ib)[i]? = some (cell s i):=by
 unfold IE;rw[Array.getElem?_append_left (by rw[dB];exact h),iT s h]
theorem abt(s:Re.St)(fl ap:Value)(ib:Bool)(j:Nat):(IE s fl ap ib)[55+j]? = (bxe s fl ap ib)[j]? := by
 unfold IE;rw[Array.getElem?_append_right Z4r,dB,show 55+j-55=j by omega]
theorem Qd(s:Re.St)(fl fl' ap:Value)(ib:Bool):(IE s fl ap ib).setIfInBounds 71 fl'=IE s fl' ap ib:=by
 exact Z31
theorem Qe(s:Re.St)(fl ap ap':Value)(ib:Bool):(IE s fl ap ib).setIfInBounds 72 ap'=IE s fl ap' ib:=by
 exact Z31
theorem Qf(s:Re.St)(fl ap:Value)(ib ib':Bool):(IE s fl ap ib).setIfInBounds 73 (.bool ib')=IE s fl ap ib':=by
 exact Z31
theorem Qg(s:Re.St)(W:World):(Instr.build 142 #[(0,.agg (cells s)),(1,.agg #[s.c 3,s.c 4,s.c 7,s.c 8,s.c 11,s.c 12,s.c 5,s.c 6,s.c 9,s.c 10,s.c 13,s.c 14]),(2,.agg #[Fw.ed s 3,Fw.ed s 1,Fw.ed s 0,Fw.ed s 2])]).run ja0 W=.ok (.agg (IE s (.slice none 0 0) (.slice none 0 0) false)) W:=by kernel_rfl
section
variable {W:World} {b:Nat} {s:Re.St} {fl ap:Value} {ib:Bool}
abbrev aR(W:World)(b:Nat)(s:Re.St)(fl ap:Value)(ib:Bool):Prop:=At W b (.cells (IE s fl ap ib) 142)
theorem aR.lt(h:aR W b s fl ap ib):b<W.heap.size:=At.lt h
theorem aR.int(h:aR W b s fl ap ib)(i:Nat)(hi:i<55)(hb:Re.uj i=false):W.cell? ⟨b,i,none⟩=some (.int .i64 (s.c i)):=(At.cell h i).trans (by rw[Km _ _ _ _ hi,Et s hb])
theorem aR.ext(h:aR W b s fl ap ib)(j:Nat):W.cell? ⟨b,55+j,none⟩=(bxe s fl ap ib)[j]? := (At.cell h (55+j)).trans (abt s fl ap ib j)
theorem aR.keep{W':World}(h:aR W b s fl ap ib)(hb:Below W W W'):aR W' b s fl ap ib:=At.keep h hb
theorem aR.alloc(h:aR W b s fl ap ib)(o:Obj):aR (W.alloc o) b s fl ap ib:=At.alloc h o
theorem At.bx0(h:aR W b s fl ap ib):b<W.heap.size/\W.cell? ⟨b,55,none⟩=some (.int .i64 (s.c 3))/\W.cell? ⟨b,56,none⟩=some (.int .i64 (s.c 4))/\W.cell? ⟨b,57,none⟩=some (.int .i64 (s.c 7))/\W.cell? ⟨b,58,none⟩=some (.int .i64 (s.c 8))/\W.cell? ⟨b,59,none⟩=some (.int .i64 (s.c 11))/\W.cell? ⟨b,60,none⟩=some (.int .i64 (s.c 12))/\W.cell? ⟨b,67,none⟩=some (.int .i64 (Fw.ed s 3))/\W.cell? ⟨b,68,none⟩=some (.int .i64 (Fw.ed s 1)) :=
 ⟨h.lt,h.ext 0,h.ext 1,h.ext 2,h.ext 3,h.ext 4,h.ext 5,h.ext 12,h.ext 13⟩
theorem At.bx1(h:aR W b s fl ap ib):b<W.heap.size/\W.cell? ⟨b,61,none⟩=some (.int .i64 (s.c 5))/\W.cell? ⟨b,62,none⟩=some (.int .i64 (s.c 6))/\W.cell? ⟨b,63,none⟩=some (.int .i64 (s.c 9))/\W.cell? ⟨b,64,none⟩=some (.int .i64 (s.c 10))/\W.cell? ⟨b,65,none⟩=some (.int .i64 (s.c 13))/\W.cell? ⟨b,66,none⟩=some (.int .i64 (s.c 14))/\W.cell? ⟨b,69,none⟩=some (.int .i64 (Fw.ed s 0))/\W.cell? ⟨b,70,none⟩=some (.int .i64 (Fw.ed s 2)) :=
 ⟨h.lt,h.ext 6,h.ext 7,h.ext 8,h.ext 9,h.ext 10,h.ext 11,h.ext 14,h.ext 15⟩
theorem At.bxm(h:aR W b s fl ap ib):b<W.heap.size/\W.cell? ⟨b,15,none⟩=some (.int .i64 (s.c 15))/\W.cell? ⟨b,16,none⟩=some (.int .i64 (s.c 16))/\W.cell? ⟨b,17,none⟩=some (.int .i64 (s.c 17))/\W.cell? ⟨b,18,none⟩=some (.int .i64 (s.c 18))/\W.cell? ⟨b,19,none⟩=some (.int .i64 (s.c 19))/\W.cell? ⟨b,20,none⟩=some (.int .i64 (s.c 20))/\W.cell? ⟨b,21,none⟩=some (.int .i64 (s.c 21))/\W.cell? ⟨b,22,none⟩=some (.int .i64 (s.c 22)) :=
 ⟨h.lt,h.int 15 aN rfl,h.int 16 aN rfl,h.int 17 aN rfl,h.int 18 aN rfl,h.int 19 aN rfl,h.int 20 aN rfl,h.int 21 aN rfl,h.int 22 aN rfl⟩
theorem At.M8{x0 x1 x2 x3 x4 x5:Value}{T:TypeId}(h:At W b (.cells #[x0,x1,x2,x3,x4,x5] T))(y0 y1 y2 y3 y4 y5:Value):At ((((((W.setCell ⟨b,0,none⟩ y0).setCell ⟨b,1,none⟩ y1).setCell ⟨b,2,none⟩ y2).setCell ⟨b,3,none⟩ y3).setCell ⟨b,4,none⟩ y4).setCell ⟨b,5,none⟩ y5) b (.cells #[y0,y1,y2,y3,y4,y5] T):=(((((h.set 0 y0).set 1 y1).set 2 y2).set 3 y3).set 4 y4).set 5 y5
theorem At.six{x0 x1 x2 x3 x4 x5:Value}{T:TypeId}(h:At W b (.cells #[x0,x1,x2,x3,x4,x5] T)):b<W.heap.size/\W.cell? ⟨b,0,none⟩=some x0/\W.cell? ⟨b,1,none⟩=some x1/\W.cell? ⟨b,2,none⟩=some x2/\W.cell? ⟨b,3,none⟩=some x3/\W.cell? ⟨b,4,none⟩=some x4/\W.cell? ⟨b,5,none⟩=some x5:=⟨h.lt,h.cell 0,h.cell 1,h.cell 2,h.cell 3,h.cell 4,h.cell 5⟩
end
theorem iD(b:Nat)(s:Re.St)(fl ap:Value)(ib:Bool)(r0 r1:Int)(w:World)(h:aR w b s fl ap ib):Calls ja0 108 #[b,.agg #[r0,r1]] w λe w'=>e=.returned (.agg #[Fw.mg s 0 0 r0,Fw.mg s 0 1 r0,Fw.mg s 1 0 r0,Fw.mg s 1 1 r0])/\Below w w w':=by
 have i0:∀(a b c d:Int) (w:World),(Instr.index 140 (.agg #[a,.int .i64 b,c,d]) (.int .i64 0)).run ja0 w=.ok (.agg #[a,.int .i64 b]) w:=λ_ _ _ _ _=>by kernel_rfl
 have i1:∀(a b c d:Int) (w:World),(Instr.index 140 (.agg #[a,.int .i64 b,c,d]) (.int .i64 1)).run ja0 w=.ok (.agg #[c,d]) w:=λ_ _ _ _ _=>by kernel_rfl
 go_enter Tryz.func108,Tryz.ntmps108
 go_upto_region 1 with(fail)
 generalize hW:ja5 _ _=W0;have A0:At W0 w (.cells #[r0,r1] 81):=hW▸At.alloc (At.new _ _) _;have A1:At W0 (w.heap.size+1) (.cells #[(),(),(),()] 140):=hW▸At.new' _ bI;have A2:aR W0 b s fl ap ib:=hW▸aR.alloc (aR.alloc h _) _;have hB:Below w w W0:=hW▸aD (aD aG _) _;clear hW h;obtain⟨l0,aA,aB⟩:=A0.two;obtain⟨l1,aH,aJ,dn,dw⟩:=A1.four;have dZ:=A1.thaw 0;have eu:=A1.thaw 1;have eO:=A1.thaw 2;have eP:=A1.thaw 3;obtain⟨l2,aL,aM,aP,aQ,bO,bP,bM,bN⟩:=At.bxm A2;refine zB 19 1 ?_
 (repeat (first|refine jV ?_ | refine jW ?_ (hc:=by intro w2 hS;first|with_reducible exact jI hS (P9 _ _ _ _ _ _ _ _ _ _)|with_reducible exact jI hS (uP _ _ _ _ _))|refine jX ?_))
 refine aj.dH ?_;intro w2 hS
 (clear l0 aA aB l1 aH aJ dn dw dZ eu eO eP);(replace hB:=Below.ay qj aF hS);replace A0:=At.keep sM hS;replace A1:=At.keep qP hS;clear hS;obtain⟨l0,aA,aB⟩:=At.two A0;obtain⟨l1,aH,aJ,dn,dw⟩:=At.four A1;have dZ:=A1.thaw 0;have eu:=A1.thaw 1;have eO:=A1.thaw 2;have eP:=A1.thaw 3
 refine vH ?_;intro K hK;go_simp;refine hK _ _ (aj.bF ?_);clear hK K;generalize hW:ja4 _ _ _=W1;replace A1:At W1 (w.heap.size+1) (.cells #[.int .i64 (Fx.len (s.c 21) (s.c 22) r0 0),.int .i64 (Fx.len (s.c 17) (s.c 18) r0 0),.int .i64 (Fx.len (s.c 15) (s.c 16) (-1) 0),.int .i64 (Fx.len (s.c 19) (s.c 20) (-1) 0)] 140):=hW▸At.set (At.set (At.set (At.set A1 0 _) 1 _) 2 _) 3 _;replace hB:Below w w W1:=hW▸Below.setCell (Below.setCell (Below.setCell (Below.setCell hB bI _) bI _) bI _) bI _;clear hW l0 aA aB l1 aH aJ dn dw dZ eu eO eP A0;obtain⟨l1,aH,aJ,dn,dw⟩:=A1.four;go_wp2;refine bodyPost_ret (v:=.agg #[_,_,_,_]) (by simp[results,Tryz.results108,go_sem, *];first|done|exact⟨rfl,rfl⟩|exact⟨rfl,rfl,rfl,rfl⟩|rfl) rfl ⟨zL rfl rfl rfl rfl,?_⟩;exact Z1
theorem Ci(a b c d:Int)(w:World):(Instr.index 140 (.agg #[a,b,c,d]) (.int .i64 0)).run ja0 w=.ok (.agg #[a,b]) w:=by kernel_rfl
theorem rD(a b c d:Int)(w:World):(Instr.index 140 (.agg #[a,b,c,d]) (.int .i64 1)).run ja0 w=.ok (.agg #[c,d]) w:=by kernel_rfl
theorem afQ(b:Nat)(s:Re.St)(fl ap:Value)(ib:Bool)(r0 r1 t0 t1:Int)(w:World)(h:aR w b s fl ap ib):Calls ja0 69 #[b,(),.agg #[r0,r1],.agg #[t0,t1]] w λe w'=>e=.returned (.int .i64 (Fw.GI s 0 r0 r0 t0))/\Below w w w':=by
 by_cases ht:t0 = -1
 . have ix0:=Ci
   subst ht;cases hf:Fx.dY (s.c 3) r0
   . go_enter Tryz.func69,Tryz.ntmps69
     go_upto_region 1 with(fail)
     generalize hW:ja5 _ _=W0;have A0:At W0 w (.cells #[r0,r1] 81):=hW▸At.alloc (At.new _ _) _;have A1:At W0 (w.heap.size+1) (.cells #[.int .i64 (-1),t1] 81):=by rw[<-hW];exact At.new' _ Gs
     have A2:aR W0 b s fl ap ib:=hW▸aR.alloc (aR.alloc h _) _;have hB:Below w w W0:=hW▸aD (aD aG _) _;clear hW h;obtain⟨l0,aA,aB⟩:=A0.two;obtain⟨l1,aH,aJ⟩:=A1.two;obtain⟨l2,aL,aM,aP,aQ,bO,bP,bM,bN⟩:=At.bx0 A2;refine OW [0,1,2,3,4,5,6,7,8,9,10,11,12] 13 14 ?_ (norm:=[⟨_,_,_,_,_,_⟩,⟨_,_,_,_,_,_⟩,⟨_,_,_,_,_,_⟩,⟨_,_,_,_,_,_⟩,⟨_,_,_,_,_,_⟩,⟨_,_,_,_,_,_⟩,⟨_,_,_,_,_,_⟩,⟨_,_,_,_,_,_⟩,⟨_,_,_,_,_,_⟩,⟨_,_,_,_,_,_⟩,⟨_,_,_,_,_,_⟩,⟨_,_,_,_,_,_⟩,⟨_,_,_,_,_,_⟩]) (tail:=[⟨_,_,_,_,_,_⟩,⟨_,_,_,_,_,_⟩]) (x:=.cells #[(),(),(),(),(),()] 137) (so:=⟨_,_,_,_,_,_⟩)
     (repeat (first|refine sbk ?_ | refine sbc ?_ (hc:=by intro w2 hS;first|with_reducible exact(eT _ _ _))|refine sbv ?_))
     refine aj.oP ?_;intro n0 w2 hn hA hS;(try simp only[bV,bW,bX,tks])
     ((have hB0:=hB);have nU:=dK (bA A0.lt hn);have ne1:=dK (bA A1.lt hn);have nV:=dK (bA A2.lt hn);(clear l0 aA aB l1 aH aJ l2 aL aM aP aQ bO bP bM bN);(replace hB:=Below.ay qj aF hS);replace A0:=At.keep sM hS;replace A1:=At.keep qP hS;replace A2:=At.keep qW hS;clear hS;obtain⟨l0,aA,aB⟩:=At.two A0;obtain⟨l1,aH,aJ⟩:=At.two A1;obtain⟨l2,aL,aM,aP,aQ,bO,bP,bM,bN⟩:=At.bx0 A2;have A3:=hA;clear hA;obtain⟨l3,aZ,bq,bZ,cu,dD,dF⟩:=At.six A3;have eF:=A3.thaw 0;have eG:=A3.thaw 1;have eX:=A3.thaw 2;have eY:=A3.thaw 3;have fA:=A3.thaw 4;have fB:=A3.thaw 5;have g0:=aK Z4b hn;clear hB0)
     (refine aj.oz bB ?_;intro K hK;go_simp;refine hK _ _ ?_;clear hK K)
     refine vH ?_;intro K hK;go_simp;refine hK _ _ (aj.bF ?_);clear hK K
     (generalize hW:ja4 (ja4 (ja4 (ja4 (ja4 (ja4 _ _ _) _ _) _ _) _ _) _ _) _ _=W1;clear l0 aA aB l1 aH aJ l2 aL aM aP aQ bO bP bM bN l3 aZ bq bZ cu dD dF eF eG eX eY fA fB;replace A3:At W1 _ _:=hW▸(At.M8 A3 _ _ _ _ _ _);replace A0:At W1 _ _:=hW▸(At.off (At.off (At.off (At.off (At.off (At.off A0 nU _ _) nU _ _) nU _ _) nU _ _) nU _ _) nU _ _);replace A1:At W1 _ _:=hW▸(At.off (At.off (At.off (At.off (At.off (At.off A1 ne1 _ _) ne1 _ _) ne1 _ _) ne1 _ _) ne1 _ _) ne1 _ _);replace A2:At W1 _ _:=hW▸(At.off (At.off (At.off (At.off (At.off (At.off A2 nV _ _) nV _ _) nV _ _) nV _ _) nV _ _) nV _ _);replace hB:Below w w W1:=hW▸(Below.setCell (Below.setCell (Below.setCell (Below.setCell (Below.setCell (Below.setCell hB g0 _) g0 _) g0 _) g0 _) g0 _) g0 _);clear hW nU ne1 nV;obtain⟨l0,aA,aB⟩:=At.two A0;obtain⟨l1,aH,aJ⟩:=At.two A1;obtain⟨l2,aL,aM,aP,aQ,bO,bP,bM,bN⟩:=At.bx0 A2;obtain⟨l3,aZ,bq,bZ,cu,dD,dF⟩:=At.six A3)
     have HF:=ah hf;clear hf
     go_upto_region 4 with(fail)
     refine vS ?_
     (repeat (first|refine jV ?_ | refine jW ?_ (hc:=by intro w2 hS;first|with_reducible exact jI hS (jJ _ _ _ _ _ _ _ _))|refine jX ?_))
     refine aj.bY ?_;intro w2 hS
     (clear l0 aA aB l1 aH aJ l2 aL aM aP aQ bO bP bM bN l3 aZ bq bZ cu dD dF);(replace hB:=Below.ay qj aF hS);replace A0:=At.keep sM hS;replace A1:=At.keep qP hS;replace A2:=At.keep qW hS;replace A3:=At.keep zC hS;clear hS;obtain⟨l0,aA,aB⟩:=At.two A0;obtain⟨l1,aH,aJ⟩:=At.two A1;obtain⟨l2,aL,aM,aP,aQ,bO,bP,bM,bN⟩:=At.bx0 A2;obtain⟨l3,aZ,bq,bZ,cu,dD,dF⟩:=At.six A3
     rw[HF.out]
     go_upto_region 7 with(fail)
     have HX:aR _ b s fl ap ib:=A2;refine vS ?_
     (repeat (first|refine jV ?_ | refine jW ?_ (hc:=by intro w2 hS;first|with_reducible exact jI hS (iD _ _ _ _ _ _ _ _ Z4l)|with_reducible exact jI hS (eT _ _ _))|refine jX ?_))
     refine aj.bY ?_;intro w2 hS
     (clear l0 aA aB l1 aH aJ l2 aL aM aP aQ bO bP bM bN l3 aZ bq bZ cu dD dF);(replace hB:=Below.ay qj aF hS);replace A0:=At.keep sM hS;replace A1:=At.keep qP hS;replace A2:=At.keep qW hS;replace A3:=At.keep zC hS;clear hS;obtain⟨l0,aA,aB⟩:=At.two A0;obtain⟨l1,aH,aJ⟩:=At.two A1;obtain⟨l2,aL,aM,aP,aQ,bO,bP,bM,bN⟩:=At.bx0 A2;obtain⟨l3,aZ,bq,bZ,cu,dD,dF⟩:=At.six A3
     go_upto_region 8 with(fail)
     refine vS ?_
     (repeat (first|refine jV ?_ | refine jW ?_ (hc:=by intro w2 hS;first|with_reducible exact jI hS (tH _ _ _ _ _ _ _ _ _))|refine jX ?_))
     refine aj.bY ?_;intro w2 hS
     (clear l0 aA aB l1 aH aJ l2 aL aM aP aQ bO bP bM bN l3 aZ bq bZ cu dD dF);(replace hB:=Below.ay qj aF hS);replace A0:=At.keep sM hS;replace A1:=At.keep qP hS;replace A2:=At.keep qW hS;replace A3:=At.keep zC hS;clear hS;obtain⟨l0,aA,aB⟩:=At.two A0;obtain⟨l1,aH,aJ⟩:=At.two A1;obtain⟨l2,aL,aM,aP,aQ,bO,bP,bM,bN⟩:=At.bx0 A2;obtain⟨l3,aZ,bq,bZ,cu,dD,dF⟩:=At.six A3
     go_wp2
     go_ret
     refine⟨bQ ?_,?_⟩
     . unfold Fw.GI Fw.LJ;rw[if_neg (λq=>q rfl),if_neg (by rw[HF.out];simp),if_pos rfl];(try simp only[wC,sK]);rfl
     . exact Z1
   . go_enter Tryz.func69,Tryz.ntmps69
     go_upto_region 1 with(fail)
     generalize hW:ja5 _ _=W0;have A0:At W0 w (.cells #[r0,r1] 81):=hW▸At.alloc (At.new _ _) _;have A1:At W0 (w.heap.size+1) (.cells #[.int .i64 (-1),t1] 81):=by rw[<-hW];exact At.new' _ Gs
     have A2:aR W0 b s fl ap ib:=hW▸aR.alloc (aR.alloc h _) _;have hB:Below w w W0:=hW▸aD (aD aG _) _;clear hW h;obtain⟨l0,aA,aB⟩:=A0.two;obtain⟨l1,aH,aJ⟩:=A1.two;obtain⟨l2,aL,aM,aP,aQ,bO,bP,bM,bN⟩:=At.bx0 A2;refine OW [0,1,2,3,4,5,6,7,8,9,10,11,12] 13 14 ?_ (norm:=[⟨_,_,_,_,_,_⟩,⟨_,_,_,_,_,_⟩,⟨_,_,_,_,_,_⟩,⟨_,_,_,_,_,_⟩,⟨_,_,_,_,_,_⟩,⟨_,_,_,_,_,_⟩,⟨_,_,_,_,_,_⟩,⟨_,_,_,_,_,_⟩,⟨_,_,_,_,_,_⟩,⟨_,_,_,_,_,_⟩,⟨_,_,_,_,_,_⟩,⟨_,_,_,_,_,_⟩,⟨_,_,_,_,_,_⟩]) (tail:=[⟨_,_,_,_,_,_⟩,⟨_,_,_,_,_,_⟩]) (x:=.cells #[(),(),(),(),(),()] 137) (so:=⟨_,_,_,_,_,_⟩)
     (repeat (first|refine sbk ?_ | refine sbc ?_ (hc:=by intro w2 hS;first|with_reducible exact(eT _ _ _))|refine sbv ?_))
     refine aj.oP ?_;intro n0 w2 hn hA hS;(try simp only[bV,bW,bX,tks])
     ((have hB0:=hB);have nU:=dK (bA A0.lt hn);have ne1:=dK (bA A1.lt hn);have nV:=dK (bA A2.lt hn);(clear l0 aA aB l1 aH aJ l2 aL aM aP aQ bO bP bM bN);(replace hB:=Below.ay qj aF hS);replace A0:=At.keep sM hS;replace A1:=At.keep qP hS;replace A2:=At.keep qW hS;clear hS;obtain⟨l0,aA,aB⟩:=At.two A0;obtain⟨l1,aH,aJ⟩:=At.two A1;obtain⟨l2,aL,aM,aP,aQ,bO,bP,bM,bN⟩:=At.bx0 A2;have A3:=hA;clear hA;obtain⟨l3,aZ,bq,bZ,cu,dD,dF⟩:=At.six A3;have eF:=A3.thaw 0;have eG:=A3.thaw 1;have eX:=A3.thaw 2;have eY:=A3.thaw 3;have fA:=A3.thaw 4;have fB:=A3.thaw 5;have g0:=aK Z4b hn;clear hB0)
     (refine aj.oz bB ?_;intro K hK;go_simp;refine hK _ _ ?_;clear hK K)
     refine vH ?_;intro K hK;go_simp;refine hK _ _ (aj.bF ?_);clear hK K
     (generalize hW:ja4 (ja4 (ja4 (ja4 (ja4 (ja4 _ _ _) _ _) _ _) _ _) _ _) _ _=W1;clear l0 aA aB l1 aH aJ l2 aL aM aP aQ bO bP bM bN l3 aZ bq bZ cu dD dF eF eG eX eY fA fB;replace A3:At W1 _ _:=hW▸(At.M8 A3 _ _ _ _ _ _);replace A0:At W1 _ _:=hW▸(At.off (At.off (At.off (At.off (At.off (At.off A0 nU _ _) nU _ _) nU _ _) nU _ _) nU _ _) nU _ _);replace A1:At W1 _ _:=hW▸(At.off (At.off (At.off (At.off (At.off (At.off A1 ne1 _ _) ne1 _ _) ne1 _ _) ne1 _ _) ne1 _ _) ne1 _ _);replace A2:At W1 _ _:=hW▸(At.off (At.off (At.off (At.off (At.off (At.off A2 nV _ _) nV _ _) nV _ _) nV _ _) nV _ _) nV _ _);replace hB:Below w w W1:=hW▸(Below.setCell (Below.setCell (Below.setCell (Below.setCell (Below.setCell (Below.setCell hB g0 _) g0 _) g0 _) g0 _) g0 _) g0 _);clear hW nU ne1 nV;obtain⟨l0,aA,aB⟩:=At.two A0;obtain⟨l1,aH,aJ⟩:=At.two A1;obtain⟨l2,aL,aM,aP,aQ,bO,bP,bM,bN⟩:=At.bx0 A2;obtain⟨l3,aZ,bq,bZ,cu,dD,dF⟩:=At.six A3)
     have HF:=ah hf;clear hf
     go_upto_region 4 with(fail)
     refine vS ?_
     (repeat (first|refine jV ?_ | refine jW ?_ (hc:=by intro w2 hS;first|with_reducible exact jI hS (jJ _ _ _ _ _ _ _ _))|refine jX ?_))
     refine aj.bY ?_;intro w2 hS
     (clear l0 aA aB l1 aH aJ l2 aL aM aP aQ bO bP bM bN l3 aZ bq bZ cu dD dF);(replace hB:=Below.ay qj aF hS);replace A0:=At.keep sM hS;replace A1:=At.keep qP hS;replace A2:=At.keep qW hS;replace A3:=At.keep zC hS;clear hS;obtain⟨l0,aA,aB⟩:=At.two A0;obtain⟨l1,aH,aJ⟩:=At.two A1;obtain⟨l2,aL,aM,aP,aQ,bO,bP,bM,bN⟩:=At.bx0 A2;obtain⟨l3,aZ,bq,bZ,cu,dD,dF⟩:=At.six A3
     rw[HF.out]
     go_upto_region 5 with(fail)
     refine vS ?_
     (repeat (first|refine jV ?_ | refine jW ?_ (hc:=by intro w2 hS;first|with_reducible exact jI hS (jF _ _ _ _ _)|with_reducible exact jI hS (tH _ _ _ _ _ _ _ _ _))|refine jX ?_))
     refine aj.bY ?_;intro w2 hS
     (clear l0 aA aB l1 aH aJ l2 aL aM aP aQ bO bP bM bN l3 aZ bq bZ cu dD dF);(replace hB:=Below.ay qj aF hS);replace A0:=At.keep sM hS;replace A1:=At.keep qP hS;replace A2:=At.keep qW hS;replace A3:=At.keep zC hS;clear hS;obtain⟨l0,aA,aB⟩:=At.two A0;obtain⟨l1,aH,aJ⟩:=At.two A1;obtain⟨l2,aL,aM,aP,aQ,bO,bP,bM,bN⟩:=At.bx0 A2;obtain⟨l3,aZ,bq,bZ,cu,dD,dF⟩:=At.six A3
     go_wp2
     go_ret
     refine⟨bQ ?_,?_⟩
     . unfold Fw.GI Fw.LJ;rw[if_neg (λq=>q rfl),if_pos HF.out];rfl
     . exact Z1
 . have hne:(t0 != -1)=true:=by simpa using ht
   go_enter Tryz.func69,Tryz.ntmps69
   go_upto_region 1 with(fail)
   generalize hW:ja5 _ _=W0;have A0:At W0 w (.cells #[r0,r1] 81):=hW▸At.alloc (At.new _ _) _;have A1:At W0 (w.heap.size+1) (.cells #[t0,t1] 81):=by rw[<-hW];exact At.new' _ Gs
   have A2:aR W0 b s fl ap ib:=hW▸aR.alloc (aR.alloc h _) _;have hB:Below w w W0:=hW▸aD (aD aG _) _;clear hW h;obtain⟨l0,aA,aB⟩:=A0.two;obtain⟨l1,aH,aJ⟩:=A1.two;obtain⟨l2,aL,aM,aP,aQ,bO,bP,bM,bN⟩:=At.bx0 A2;refine OW [0,1,2,3,4,5,6,7,8,9,10,11,12] 13 14 ?_ (norm:=[⟨_,_,_,_,_,_⟩,⟨_,_,_,_,_,_⟩,⟨_,_,_,_,_,_⟩,⟨_,_,_,_,_,_⟩,⟨_,_,_,_,_,_⟩,⟨_,_,_,_,_,_⟩,⟨_,_,_,_,_,_⟩,⟨_,_,_,_,_,_⟩,⟨_,_,_,_,_,_⟩,⟨_,_,_,_,_,_⟩,⟨_,_,_,_,_,_⟩,⟨_,_,_,_,_,_⟩,⟨_,_,_,_,_,_⟩]) (tail:=[⟨_,_,_,_,_,_⟩,⟨_,_,_,_,_,_⟩]) (x:=.cells #[(),(),(),(),(),()] 137) (so:=⟨_,_,_,_,_,_⟩)
   (repeat (first|refine sbk ?_ | refine sbc ?_ (hc:=by intro w2 hS;first|with_reducible exact(eT _ _ _))|refine sbv ?_))
   refine aj.oP ?_;intro n0 w2 hn hA hS;(try simp only[bV,bW,bX,tks])
   ((have hB0:=hB);have nU:=dK (bA A0.lt hn);have ne1:=dK (bA A1.lt hn);have nV:=dK (bA A2.lt hn);(clear l0 aA aB l1 aH aJ l2 aL aM aP aQ bO bP bM bN);(replace hB:=Below.ay qj aF hS);replace A0:=At.keep sM hS;replace A1:=At.keep qP hS;replace A2:=At.keep qW hS;clear hS;obtain⟨l0,aA,aB⟩:=At.two A0;obtain⟨l1,aH,aJ⟩:=At.two A1;obtain⟨l2,aL,aM,aP,aQ,bO,bP,bM,bN⟩:=At.bx0 A2;have A3:=hA;clear hA;obtain⟨l3,aZ,bq,bZ,cu,dD,dF⟩:=At.six A3;have eF:=A3.thaw 0;have eG:=A3.thaw 1;have eX:=A3.thaw 2;have eY:=A3.thaw 3;have fA:=A3.thaw 4;have fB:=A3.thaw 5;have g0:=aK Z4b hn;clear hB0)
   (refine aj.oz bB ?_;intro K hK;go_simp;refine hK _ _ ?_;clear hK K)
   refine vH ?_;intro K hK;go_simp;refine hK _ _ (aj.bF ?_);clear hK K
   (generalize hW:ja4 (ja4 (ja4 (ja4 (ja4 (ja4 _ _ _) _ _) _ _) _ _) _ _) _ _=W1;clear l0 aA aB l1 aH aJ l2 aL aM aP aQ bO bP bM bN l3 aZ bq bZ cu dD dF eF eG eX eY fA fB;replace A3:At W1 _ _:=hW▸(At.M8 A3 _ _ _ _ _ _);replace A0:At W1 _ _:=hW▸(At.off (At.off (At.off (At.off (At.off (At.off A0 nU _ _) nU _ _) nU _ _) nU _ _) nU _ _) nU _ _);replace A1:At W1 _ _:=hW▸(At.off (At.off (At.off (At.off (At.off (At.off A1 ne1 _ _) ne1 _ _) ne1 _ _) ne1 _ _) ne1 _ _) ne1 _ _);replace A2:At W1 _ _:=hW▸(At.off (At.off (At.off (At.off (At.off (At.off A2 nV _ _) nV _ _) nV _ _) nV _ _) nV _ _) nV _ _);replace hB:Below w w W1:=hW▸(Below.setCell (Below.setCell (Below.setCell (Below.setCell (Below.setCell (Below.setCell hB g0 _) g0 _) g0 _) g0 _) g0 _) g0 _);clear hW nU ne1 nV;obtain⟨l0,aA,aB⟩:=At.two A0;obtain⟨l1,aH,aJ⟩:=At.two A1;obtain⟨l2,aL,aM,aP,aQ,bO,bP,bM,bN⟩:=At.bx0 A2;obtain⟨l3,aZ,bq,bZ,cu,dD,dF⟩:=At.six A3)
   go_wp2
   go_ret
   refine⟨bQ ?_,?_⟩
   . unfold Fw.GI;rw[if_pos ht];(try simp only[wC,sK]);rfl
   . exact Z1
theorem afR(b:Nat)(s:Re.St)(fl ap:Value)(ib:Bool)(r0 r1 t0 t1:Int)(w:World)(h:aR w b s fl ap ib):Calls ja0 69 #[b,.int .i64 1,.agg #[r0,r1],.agg #[t0,t1]] w λe w'=>e=.returned (.int .i64 (Fw.GI s 1 r0 r1 t1))/\Below w w w':=by
 by_cases ht:t1 = -1
 . have ix0:=Ci
   subst ht;cases hf:Fx.dY (s.c 5) r1
   . go_enter Tryz.func69,Tryz.ntmps69
     go_upto_region 1 with(fail)
     generalize hW:ja5 _ _=W0;have A0:At W0 w (.cells #[r0,r1] 81):=hW▸At.alloc (At.new _ _) _;have A1:At W0 (w.heap.size+1) (.cells #[t0,.int .i64 (-1)] 81):=by rw[<-hW];exact At.new' _ Gs
     have A2:aR W0 b s fl ap ib:=hW▸aR.alloc (aR.alloc h _) _;have hB:Below w w W0:=hW▸aD (aD aG _) _;clear hW h;obtain⟨l0,aA,aB⟩:=A0.two;obtain⟨l1,aH,aJ⟩:=A1.two;obtain⟨l2,aL,aM,aP,aQ,bO,bP,bM,bN⟩:=At.bx1 A2;refine OW [0,1,2,3,4,5,6,7,8,9,10,11,12] 13 14 ?_ (norm:=[⟨_,_,_,_,_,_⟩,⟨_,_,_,_,_,_⟩,⟨_,_,_,_,_,_⟩,⟨_,_,_,_,_,_⟩,⟨_,_,_,_,_,_⟩,⟨_,_,_,_,_,_⟩,⟨_,_,_,_,_,_⟩,⟨_,_,_,_,_,_⟩,⟨_,_,_,_,_,_⟩,⟨_,_,_,_,_,_⟩,⟨_,_,_,_,_,_⟩,⟨_,_,_,_,_,_⟩,⟨_,_,_,_,_,_⟩]) (tail:=[⟨_,_,_,_,_,_⟩,⟨_,_,_,_,_,_⟩]) (x:=.cells #[(),(),(),(),(),()] 137) (so:=⟨_,_,_,_,_,_⟩)
     (repeat (first|refine sbk ?_ | refine sbc ?_ (hc:=by intro w2 hS;first|with_reducible exact(eT _ _ _))|refine sbv ?_))
     refine aj.oP ?_;intro n0 w2 hn hA hS;(try simp only[bV,bW,bX,tks])
     ((have hB0:=hB);have nU:=dK (bA A0.lt hn);have ne1:=dK (bA A1.lt hn);have nV:=dK (bA A2.lt hn);(clear l0 aA aB l1 aH aJ l2 aL aM aP aQ bO bP bM bN);(replace hB:=Below.ay qj aF hS);replace A0:=At.keep sM hS;replace A1:=At.keep qP hS;replace A2:=At.keep qW hS;clear hS;obtain⟨l0,aA,aB⟩:=At.two A0;obtain⟨l1,aH,aJ⟩:=At.two A1;obtain⟨l2,aL,aM,aP,aQ,bO,bP,bM,bN⟩:=At.bx1 A2;have A3:=hA;clear hA;obtain⟨l3,aZ,bq,bZ,cu,dD,dF⟩:=At.six A3;have eF:=A3.thaw 0;have eG:=A3.thaw 1;have eX:=A3.thaw 2;have eY:=A3.thaw 3;have fA:=A3.thaw 4;have fB:=A3.thaw 5;have g0:=aK Z4b hn;clear hB0)
     (refine aj.oz bB ?_;intro K hK;go_simp;refine hK _ _ ?_;clear hK K)
     refine vH ?_;intro K hK;go_simp;refine hK _ _ (aj.bF ?_);clear hK K
     (generalize hW:ja4 (ja4 (ja4 (ja4 (ja4 (ja4 _ _ _) _ _) _ _) _ _) _ _) _ _=W1;clear l0 aA aB l1 aH aJ l2 aL aM aP aQ bO bP bM bN l3 aZ bq bZ cu dD dF eF eG eX eY fA fB;replace A3:At W1 _ _:=hW▸(At.M8 A3 _ _ _ _ _ _);replace A0:At W1 _ _:=hW▸(At.off (At.off (At.off (At.off (At.off (At.off A0 nU _ _) nU _ _) nU _ _) nU _ _) nU _ _) nU _ _);replace A1:At W1 _ _:=hW▸(At.off (At.off (At.off (At.off (At.off (At.off A1 ne1 _ _) ne1 _ _) ne1 _ _) ne1 _ _) ne1 _ _) ne1 _ _);replace A2:At W1 _ _:=hW▸(At.off (At.off (At.off (At.off (At.off (At.off A2 nV _ _) nV _ _) nV _ _) nV _ _) nV _ _) nV _ _);replace hB:Below w w W1:=hW▸(Below.setCell (Below.setCell (Below.setCell (Below.setCell (Below.setCell (Below.setCell hB g0 _) g0 _) g0 _) g0 _) g0 _) g0 _);clear hW nU ne1 nV;obtain⟨l0,aA,aB⟩:=At.two A0;obtain⟨l1,aH,aJ⟩:=At.two A1;obtain⟨l2,aL,aM,aP,aQ,bO,bP,bM,bN⟩:=At.bx1 A2;obtain⟨l3,aZ,bq,bZ,cu,dD,dF⟩:=At.six A3)
     have HF:=ah hf;clear hf
     go_upto_region 4 with(fail)
     refine vS ?_
     (repeat (first|refine jV ?_ | refine jW ?_ (hc:=by intro w2 hS;first|with_reducible exact jI hS (jJ _ _ _ _ _ _ _ _))|refine jX ?_))
     refine aj.bY ?_;intro w2 hS
     (clear l0 aA aB l1 aH aJ l2 aL aM aP aQ bO bP bM bN l3 aZ bq bZ cu dD dF);(replace hB:=Below.ay qj aF hS);replace A0:=At.keep sM hS;replace A1:=At.keep qP hS;replace A2:=At.keep qW hS;replace A3:=At.keep zC hS;clear hS;obtain⟨l0,aA,aB⟩:=At.two A0;obtain⟨l1,aH,aJ⟩:=At.two A1;obtain⟨l2,aL,aM,aP,aQ,bO,bP,bM,bN⟩:=At.bx1 A2;obtain⟨l3,aZ,bq,bZ,cu,dD,dF⟩:=At.six A3
     rw[HF.out];go_wp2
     go_ret
     refine⟨bQ ?_,?_⟩
     . unfold Fw.GI Fw.LJ;rw[if_neg (λq=>q rfl),if_neg (by rw[HF.out];simp),if_neg aN]
     . exact Z1
   . go_enter Tryz.func69,Tryz.ntmps69
     go_upto_region 1 with(fail)
     generalize hW:ja5 _ _=W0;have A0:At W0 w (.cells #[r0,r1] 81):=hW▸At.alloc (At.new _ _) _;have A1:At W0 (w.heap.size+1) (.cells #[t0,.int .i64 (-1)] 81):=by rw[<-hW];exact At.new' _ Gs
     have A2:aR W0 b s fl ap ib:=hW▸aR.alloc (aR.alloc h _) _;have hB:Below w w W0:=hW▸aD (aD aG _) _;clear hW h;obtain⟨l0,aA,aB⟩:=A0.two;obtain⟨l1,aH,aJ⟩:=A1.two;obtain⟨l2,aL,aM,aP,aQ,bO,bP,bM,bN⟩:=At.bx1 A2;refine OW [0,1,2,3,4,5,6,7,8,9,10,11,12] 13 14 ?_ (norm:=[⟨_,_,_,_,_,_⟩,⟨_,_,_,_,_,_⟩,⟨_,_,_,_,_,_⟩,⟨_,_,_,_,_,_⟩,⟨_,_,_,_,_,_⟩,⟨_,_,_,_,_,_⟩,⟨_,_,_,_,_,_⟩,⟨_,_,_,_,_,_⟩,⟨_,_,_,_,_,_⟩,⟨_,_,_,_,_,_⟩,⟨_,_,_,_,_,_⟩,⟨_,_,_,_,_,_⟩,⟨_,_,_,_,_,_⟩]) (tail:=[⟨_,_,_,_,_,_⟩,⟨_,_,_,_,_,_⟩]) (x:=.cells #[(),(),(),(),(),()] 137) (so:=⟨_,_,_,_,_,_⟩)
     (repeat (first|refine sbk ?_ | refine sbc ?_ (hc:=by intro w2 hS;first|with_reducible exact(eT _ _ _))|refine sbv ?_))
     refine aj.oP ?_;intro n0 w2 hn hA hS;(try simp only[bV,bW,bX,tks])
     ((have hB0:=hB);have nU:=dK (bA A0.lt hn);have ne1:=dK (bA A1.lt hn);have nV:=dK (bA A2.lt hn);(clear l0 aA aB l1 aH aJ l2 aL aM aP aQ bO bP bM bN);(replace hB:=Below.ay qj aF hS);replace A0:=At.keep sM hS;replace A1:=At.keep qP hS;replace A2:=At.keep qW hS;clear hS;obtain⟨l0,aA,aB⟩:=At.two A0;obtain⟨l1,aH,aJ⟩:=At.two A1;obtain⟨l2,aL,aM,aP,aQ,bO,bP,bM,bN⟩:=At.bx1 A2;have A3:=hA;clear hA;obtain⟨l3,aZ,bq,bZ,cu,dD,dF⟩:=At.six A3;have eF:=A3.thaw 0;have eG:=A3.thaw 1;have eX:=A3.thaw 2;have eY:=A3.thaw 3;have fA:=A3.thaw 4;have fB:=A3.thaw 5;have g0:=aK Z4b hn;clear hB0)
     (refine aj.oz bB ?_;intro K hK;go_simp;refine hK _ _ ?_;clear hK K)
     refine vH ?_;intro K hK;go_simp;refine hK _ _ (aj.bF ?_);clear hK K
     (generalize hW:ja4 (ja4 (ja4 (ja4 (ja4 (ja4 _ _ _) _ _) _ _) _ _) _ _) _ _=W1;clear l0 aA aB l1 aH aJ l2 aL aM aP aQ bO bP bM bN l3 aZ bq bZ cu dD dF eF eG eX eY fA fB;replace A3:At W1 _ _:=hW▸(At.M8 A3 _ _ _ _ _ _);replace A0:At W1 _ _:=hW▸(At.off (At.off (At.off (At.off (At.off (At.off A0 nU _ _) nU _ _) nU _ _) nU _ _) nU _ _) nU _ _);replace A1:At W1 _ _:=hW▸(At.off (At.off (At.off (At.off (At.off (At.off A1 ne1 _ _) ne1 _ _) ne1 _ _) ne1 _ _) ne1 _ _) ne1 _ _);replace A2:At W1 _ _:=hW▸(At.off (At.off (At.off (At.off (At.off (At.off A2 nV _ _) nV _ _) nV _ _) nV _ _) nV _ _) nV _ _);replace hB:Below w w W1:=hW▸(Below.setCell (Below.setCell (Below.setCell (Below.setCell (Below.setCell (Below.setCell hB g0 _) g0 _) g0 _) g0 _) g0 _) g0 _);clear hW nU ne1 nV;obtain⟨l0,aA,aB⟩:=At.two A0;obtain⟨l1,aH,aJ⟩:=At.two A1;obtain⟨l2,aL,aM,aP,aQ,bO,bP,bM,bN⟩:=At.bx1 A2;obtain⟨l3,aZ,bq,bZ,cu,dD,dF⟩:=At.six A3)
     have HF:=ah hf;clear hf
     go_upto_region 4 with(fail)
     refine vS ?_
     (repeat (first|refine jV ?_ | refine jW ?_ (hc:=by intro w2 hS;first|with_reducible exact jI hS (jJ _ _ _ _ _ _ _ _))|refine jX ?_))
     refine aj.bY ?_;intro w2 hS
     (clear l0 aA aB l1 aH aJ l2 aL aM aP aQ bO bP bM bN l3 aZ bq bZ cu dD dF);(replace hB:=Below.ay qj aF hS);replace A0:=At.keep sM hS;replace A1:=At.keep qP hS;replace A2:=At.keep qW hS;replace A3:=At.keep zC hS;clear hS;obtain⟨l0,aA,aB⟩:=At.two A0;obtain⟨l1,aH,aJ⟩:=At.two A1;obtain⟨l2,aL,aM,aP,aQ,bO,bP,bM,bN⟩:=At.bx1 A2;obtain⟨l3,aZ,bq,bZ,cu,dD,dF⟩:=At.six A3
     rw[HF.out]
     go_upto_region 5 with(fail)
     refine vS ?_
     (repeat (first|refine jV ?_ | refine jW ?_ (hc:=by intro w2 hS;first|with_reducible exact jI hS (jF _ _ _ _ _)|with_reducible exact jI hS (tH _ _ _ _ _ _ _ _ _))|refine jX ?_))
     refine aj.bY ?_;intro w2 hS
     (clear l0 aA aB l1 aH aJ l2 aL aM aP aQ bO bP bM bN l3 aZ bq bZ cu dD dF);(replace hB:=Below.ay qj aF hS);replace A0:=At.keep sM hS;replace A1:=At.keep qP hS;replace A2:=At.keep qW hS;replace A3:=At.keep zC hS;clear hS;obtain⟨l0,aA,aB⟩:=At.two A0;obtain⟨l1,aH,aJ⟩:=At.two A1;obtain⟨l2,aL,aM,aP,aQ,bO,bP,bM,bN⟩:=At.bx1 A2;obtain⟨l3,aZ,bq,bZ,cu,dD,dF⟩:=At.six A3
     go_wp2
     go_ret
     refine⟨bQ ?_,?_⟩
     . unfold Fw.GI Fw.LJ;rw[if_neg (λq=>q rfl),if_pos HF.out];rfl
     . exact Z1
 . have hne:(t1 != -1)=true:=by simpa using ht
   go_enter Tryz.func69,Tryz.ntmps69
   go_upto_region 1 with(fail)
   generalize hW:ja5 _ _=W0;have A0:At W0 w (.cells #[r0,r1] 81):=hW▸At.alloc (At.new _ _) _;have A1:At W0 (w.heap.size+1) (.cells #[t0,t1] 81):=by rw[<-hW];exact At.new' _ Gs
   have A2:aR W0 b s fl ap ib:=hW▸aR.alloc (aR.alloc h _) _;have hB:Below w w W0:=hW▸aD (aD aG _) _;clear hW h;obtain⟨l0,aA,aB⟩:=A0.two;obtain⟨l1,aH,aJ⟩:=A1.two;obtain⟨l2,aL,aM,aP,aQ,bO,bP,bM,bN⟩:=At.bx1 A2;refine OW [0,1,2,3,4,5,6,7,8,9,10,11,12] 13 14 ?_ (norm:=[⟨_,_,_,_,_,_⟩,⟨_,_,_,_,_,_⟩,⟨_,_,_,_,_,_⟩,⟨_,_,_,_,_,_⟩,⟨_,_,_,_,_,_⟩,⟨_,_,_,_,_,_⟩,⟨_,_,_,_,_,_⟩,⟨_,_,_,_,_,_⟩,⟨_,_,_,_,_,_⟩,⟨_,_,_,_,_,_⟩,⟨_,_,_,_,_,_⟩,⟨_,_,_,_,_,_⟩,⟨_,_,_,_,_,_⟩]) (tail:=[⟨_,_,_,_,_,_⟩,⟨_,_,_,_,_,_⟩]) (x:=.cells #[(),(),(),(),(),()] 137) (so:=⟨_,_,_,_,_,_⟩)
   (repeat (first|refine sbk ?_ | refine sbc ?_ (hc:=by intro w2 hS;first|with_reducible exact(eT _ _ _))|refine sbv ?_))
   refine aj.oP ?_;intro n0 w2 hn hA hS;(try simp only[bV,bW,bX,tks])
   ((have hB0:=hB);have nU:=dK (bA A0.lt hn);have ne1:=dK (bA A1.lt hn);have nV:=dK (bA A2.lt hn);(clear l0 aA aB l1 aH aJ l2 aL aM aP aQ bO bP bM bN);(replace hB:=Below.ay qj aF hS);replace A0:=At.keep sM hS;replace A1:=At.keep qP hS;replace A2:=At.keep qW hS;clear hS;obtain⟨l0,aA,aB⟩:=At.two A0;obtain⟨l1,aH,aJ⟩:=At.two A1;obtain⟨l2,aL,aM,aP,aQ,bO,bP,bM,bN⟩:=At.bx1 A2;have A3:=hA;clear hA;obtain⟨l3,aZ,bq,bZ,cu,dD,dF⟩:=At.six A3;have eF:=A3.thaw 0;have eG:=A3.thaw 1;have eX:=A3.thaw 2;have eY:=A3.thaw 3;have fA:=A3.thaw 4;have fB:=A3.thaw 5;have g0:=aK Z4b hn;clear hB0)
   (refine aj.oz bB ?_;intro K hK;go_simp;refine hK _ _ ?_;clear hK K)
   refine vH ?_;intro K hK;go_simp;refine hK _ _ (aj.bF ?_);clear hK K
   (generalize hW:ja4 (ja4 (ja4 (ja4 (ja4 (ja4 _ _ _) _ _) _ _) _ _) _ _) _ _=W1;clear l0 aA aB l1 aH aJ l2 aL aM aP aQ bO bP bM bN l3 aZ bq bZ cu dD dF eF eG eX eY fA fB;replace A3:At W1 _ _:=hW▸(At.M8 A3 _ _ _ _ _ _);replace A0:At W1 _ _:=hW▸(At.off (At.off (At.off (At.off (At.off (At.off A0 nU _ _) nU _ _) nU _ _) nU _ _) nU _ _) nU _ _);replace A1:At W1 _ _:=hW▸(At.off (At.off (At.off (At.off (At.off (At.off A1 ne1 _ _) ne1 _ _) ne1 _ _) ne1 _ _) ne1 _ _) ne1 _ _);replace A2:At W1 _ _:=hW▸(At.off (At.off (At.off (At.off (At.off (At.off A2 nV _ _) nV _ _) nV _ _) nV _ _) nV _ _) nV _ _);replace hB:Below w w W1:=hW▸(Below.setCell (Below.setCell (Below.setCell (Below.setCell (Below.setCell (Below.setCell hB g0 _) g0 _) g0 _) g0 _) g0 _) g0 _);clear hW nU ne1 nV;obtain⟨l0,aA,aB⟩:=At.two A0;obtain⟨l1,aH,aJ⟩:=At.two A1;obtain⟨l2,aL,aM,aP,aQ,bO,bP,bM,bN⟩:=At.bx1 A2;obtain⟨l3,aZ,bq,bZ,cu,dD,dF⟩:=At.six A3)
   go_wp2
   go_ret
   refine⟨bQ ?_,?_⟩
   . unfold Fw.GI;rw[if_pos ht];(try simp only[wC,sK]);rfl
   . exact Z1
section
variable {W:World} {b:Nat} {s:Re.St} {fl ap:Value} {ib:Bool}
theorem At.bxi(h:aR W b s fl ap ib):b<W.heap.size/\W.cell? ⟨b,23,none⟩=some (.int .i64 (s.c 23))/\W.cell? ⟨b,24,none⟩=some (.int .i64 (s.c 24))/\W.cell? ⟨b,25,none⟩=some (.int .i64 (s.c 25))/\W.cell? ⟨b,26,none⟩=some (.int .i64 (s.c 26))/\W.cell? ⟨b,27,none⟩=some (.int .i64 (s.c 27))/\W.cell? ⟨b,28,none⟩=some (.int .i64 (s.c 28))/\W.cell? ⟨b,29,none⟩=some (.int .i64 (s.c 29))/\W.cell? ⟨b,30,none⟩=some (.int .i64 (s.c 30)) :=
 ⟨h.lt,h.int 23 aN rfl,h.int 24 aN rfl,h.int 25 aN rfl,h.int 26 aN rfl,h.int 27 aN rfl,h.int 28 aN rfl,h.int 29 aN rfl,h.int 30 aN rfl⟩
theorem aR.style(h:aR W b s fl ap ib):vN W b 0 s:=λj hj=>by rw[Nat.zero_add];exact(At.cell h j).trans (Km _ _ _ _ hj)
theorem Below.cell_{X Y:World}(h:Below X X Y){b:Nat}(hb:b<X.heap.size)(i:Nat):Y.cell? ⟨b,i,none⟩=X.cell? ⟨b,i,none⟩:=(iV h).1 _ _ hb
end
theorem M9(b:Nat)(s:Re.St)(fl ap:Value)(ib:Bool)(r0 r1:Int)(w:World)(h:aR w b s fl ap ib):Calls ja0 105 #[b,.agg #[r0,r1]] w λe w'=>e=.returned (.int .i64 (Fw.byc s r0))/\Below w w w':=by
 go_enter Tryz.func105,Tryz.ntmps105
 go_upto_region 1 with(fail)
 generalize hW:ja5 _ _=W0;have A0:At W0 w (.cells #[r0,r1] 81):=hW▸At.new _ _;have A2:aR W0 b s fl ap ib:=hW▸aR.alloc h _;have hB:Below w w W0:=hW▸aD aG _;clear hW h;obtain⟨l0,aA,aB⟩:=A0.two;obtain⟨l2,aL,aM,aP,aQ,bO,bP,bM,bN⟩:=At.bx0 A2;have d0:=A2.int 53 aN rfl;refine vS ?_
 (repeat (first|refine jV ?_ | refine jW ?_ (hc:=by intro w2 hS;first|with_reducible exact jI hS (tH _ _ _ _ _ _ _ _ _)|with_reducible exact jI hS (eT _ _ _))|refine jX ?_))
 exact Z3d
theorem wV(b:Nat)(s:Re.St)(fl ap:Value)(ib:Bool)(r0 r1:Int)(w:World)(h:aR w b s fl ap ib):Calls ja0 145 #[b,(),(),.agg #[r0,r1]] w λx w'=>x=.returned (.tuple #[Fw.ins s 0 0 r0,.bool (Fw.Gn s 0 0 r0)])/\Below w w w':=by
 exact Z2
theorem zP(b:Nat)(s:Re.St)(fl ap:Value)(ib:Bool)(r0 r1:Int)(w:World)(h:aR w b s fl ap ib):Calls ja0 145 #[b,(),.int .i64 1,.agg #[r0,r1]] w λx w'=>x=.returned (.tuple #[Fw.ins s 0 1 r0,.bool (Fw.Gn s 0 1 r0)])/\Below w w w':=by
 exact Z2
theorem wB(b:Nat)(s:Re.St)(fl ap:Value)(ib:Bool)(r0 r1:Int)(w:World)(h:aR w b s fl ap ib):Calls ja0 145 #[b,.int .i64 1,(),.agg #[r0,r1]] w λx w'=>x=.returned (.tuple #[Fw.ins s 1 0 r1,.bool (Fw.Gn s 1 0 r1)])/\Below w w w':=by
 exact Z2
theorem zu(b:Nat)(s:Re.St)(fl ap:Value)(ib:Bool)(r0 r1:Int)(w:World)(h:aR w b s fl ap ib):Calls ja0 145 #[b,.int .i64 1,.int .i64 1,.agg #[r0,r1]] w λx w'=>x=.returned (.tuple #[Fw.ins s 1 1 r1,.bool (Fw.Gn s 1 1 r1)])/\Below w w w':=by
 exact Z2
def hR:Value->Option (DataW Value×List MemPlace):=λv=>some (.held v,[])
def GM(k:TypeId)(W:World)(b n:Nat)(g:Lit->Option Value):Prop :=
 ∃D:DataW Value,W.ownsMap ja0 k hR b n D/\Maps.size D=n/\∀l,WideAt.IsKeyLit l->(∀z,D.atKey l (.held z)=.held ((g l).getD z))/\Maps.has D l=(g l).isSome
section
variable {k t e:TypeId} {W W':World} {b n:Nat} {g:Lit->Option Value}
theorem GM.lt(h:GM k W b n g):b<W.heap.size:=by obtain⟨D,h,_⟩:=h;exact h.lt
theorem GM.obj(h:GM k W b n g):∃es clock,At W b (.map es clock):=by obtain⟨D,⟨es,clock,hb,_⟩,_⟩:=h;exact⟨es,clock,hb⟩
theorem GM.out{M:Nat->Prop}(h:GM k W b n g)(hm:¬ M b)(q:Out M W W'):GM k W' b n g:=by
 have hl:=h.lt;obtain⟨D,⟨es,clock,hb,r⟩,r2⟩:=h;exact⟨D,⟨es,clock,(q.2 b hl hm).trans hb,r⟩,r2⟩
theorem GM.keep(h:GM k W b n g)(hb:Below W W W'):GM k W' b n g:=h.out (M:=λ_=>False) (λq=>q) (Out.of_below hb)
theorem GM.congr{g':Lit->Option Value}(h:GM k W b n g)(q:∀l,WideAt.IsKeyLit l->g l=g' l):GM k W b n g':=by
 obtain⟨D,h1,h2,h3⟩:=h;exact⟨D,h1,h2,λl hl=>by rw[<-q l hl];exact h3 l hl⟩
theorem GM.look(h:GM k W b n g)(K:Maps.Keyed ja0 k)(ht:Tryz.prog.underlying t=some (.map k e)){z:Value}(hz:(zeroValue e).run ja0 W=.ok z W){key:Value}{kl:Lit}(hkey:keyOf ja0 k key=some kl) :
  (Instr.lookup t (.map (some b)) key false).run ja0 W=.ok ((g kl).getD z) W:=by
 obtain⟨D,h1,_,h3⟩:=h;obtain⟨v,ps,hr,hv⟩:=h1.lookup (z:=z) (zd:=.held z) (zp:=[]) K ht hz rfl hkey;rw[(h3 kl (K.key hkey)).1 z]at hv;simp only[hR,Option.some.injEq,Prod.mk.injEq,DataW.held.injEq]at hv;rw[hr,hv.1]
theorem GM.look_ok(h:GM k W b n g)(K:Maps.Keyed ja0 k)(ht:Tryz.prog.underlying t=some (.map k e)){z:Value}(hz:(zeroValue e).run ja0 W=.ok z W){key:Value}{kl:Lit}(hkey:keyOf ja0 k key=some kl) :
  (Instr.lookup t (.map (some b)) key true).run ja0 W=.ok (.tuple #[(g kl).getD z,.bool (g kl).isSome]) W:=by
 obtain⟨D,h1,_,h3⟩:=h;obtain⟨v,ps,hr,hv⟩:=h1.look_ok (z:=z) (zd:=.held z) (zp:=[]) K ht hz rfl hkey;rw[(h3 kl (K.key hkey)).1 z]at hv;simp only[hR,Option.some.injEq,Prod.mk.injEq,DataW.held.injEq]at hv;rw[hr,hv.1,(h3 kl (K.key hkey)).2]
theorem GM.len(h:GM k W b n g)(ht:Tryz.prog.underlying t=some (.map k e))(ty:TypeId):(Builtin.len_ #[t] ty #[.map (some b)]).run ja0 W=.ok (.int .i64 (n:Int)) W:=by
 obtain⟨D,h1,h2,_⟩:=h;rw[h1.len ht ty,h2]
noncomputable def zQ(g:Lit->Option Value)(l:Lit)(v:Value):Lit->Option Value:=λy=>@ite (Option Value) (y=l) (Classical.propDecidable _) (some v) (g y)
theorem jL(g:Lit->Option Value)(l:Lit)(v:Value):zQ g l v l=some v:=if_pos rfl
theorem mO{g:Lit->Option Value}{l y:Lit}{v:Value}(h:y≠l):zQ g l v y=g y:=if_neg h
theorem XR{P:Program}{k:TypeId}{R:Value->Option (DataW Value×List MemPlace)}{W:World}{b n:Nat}{D:DataW Value}(h:W.ownsMap P k R b n D):W.ownsMap P k R b (Maps.size D) D:=by
 obtain⟨es,clock,hb,F,hs,rfl⟩:=h;exact⟨es,clock,hb,F,by simp[Maps.size,length_sorted],rfl⟩
theorem GM.store(h:GM k W b n g)(K:Maps.Keyed ja0 k)(ht:Tryz.prog.underlying t=some (.map k e))(hn:n<maxLen){key v:Value}{kl:Lit}(hkey:keyOf ja0 k key=some kl)(hf:g kl=none) :
  ∃W',(Instr.mapUpdate t (.map (some b)) key v).run ja0 W=.ok () W'/\GM k W' b (n+1) (zQ g kl v)/\Out (λx=>x=b) W W':=by
 obtain⟨D,h1,h2,h3⟩:=h;obtain⟨W',hr,ho,ht⟩:=h1.store K ht hn hkey (val:=v) rfl;have hsz:Maps.size (D.put kl (.held v))=n+1:=by
  rw[Maps.size_put (h1.tidy K),(h3 kl (K.key hkey)).2,hf,h2];rfl
 refine⟨W',hr,⟨_,hsz▸XR ho,hsz,λy hy => ?_⟩,Out.turned ht⟩;exact Z1q
theorem GM.made(k:TypeId)(W:World):GM k (W.alloc (.map #[] 0)) W.heap.size 0 (λ_=>none) :=
 ⟨.map [],World.ownsMap_made _ _ _ _,rfl,λl hl=>⟨λz=>rfl,rfl⟩⟩
end
theorem DR:Maps.Keyed ja0 86:=Maps.Keyed.of_law (deep_law (m:=5) aN bE bE bE)
def Qh(z a b:Int):Value:=.agg #[z,a,b]
def klit(z a b:Int):Lit:=.string (keyBytes [.int .i64 z,.int .i64 a,.int .i64 b])
theorem Kn(d:Nat)(h:Wf z):Tryz.prog.keyLits (d+1) 3 [.int .i64 z]=some [.int .i64 z]:=by
 have h':(Lit.int .i64 z).wf=true:=h;simp[Program.keyLits,Tryz.underlying3,h']
theorem XT(d:Nat){a b:Int}(ha:Wf a)(hb:Wf b):Tryz.prog.keyLits (d+2) 81 [.int .i64 a,.int .i64 b]=some [.int .i64 a,.int .i64 b]:=by
 have hc:Tryz.prog.cellsOf 81=2:=by kernel_rfl
 have hi:Tryz.prog.cellsOf 3=1:=by kernel_rfl
 have e1:=Kn d ha;have e2:=Kn d hb;unfold Program.keyLits;simp only[Tryz.underlying81,hc,hi,jb4,List.length_nil,Nat.reduceAdd,if_true];rw[show List.range 2=[0,1]from rfl];simp[e1,e2]
theorem Na{z a b:Int}(hz:Wf z)(ha:Wf a)(hb:Wf b):keyOf ja0 86 (Qh z a b)=some (klit z a b):=by
 have hc:Tryz.prog.cellsOf 86=3:=by kernel_rfl
 have hs:Tryz.prog.cellsOf 81=2:=by kernel_rfl
 have hi:Tryz.prog.cellsOf 3=1:=by kernel_rfl
 have hk:Tryz.prog.keyType 86=true:=by kernel_rfl
 obtain⟨d,hd⟩:∃d,Tryz.prog.types.size+1=d+3:=⟨Tryz.prog.types.size-2,by have h:Nat.ble 2 Tryz.prog.types.size=true:=bE;have:=Nat.le_of_ble_eq_true h;omega⟩;have e1:=Kn (d+1) hz;have e2:=XT d ha hb;have hf:Value.formed ja0 86 (Qh z a b)=true:=by simp[Value.formed,Qh,Tryz.underlying86,hc]
 have hl:Tryz.prog.keyLits (d+3) 86 [.int .i64 z,.int .i64 a,.int .i64 b]=some [.int .i64 z,.int .i64 a,.int .i64 b]:=by
  unfold Program.keyLits;simp only[Tryz.underlying86,hc,jb4,List.length_nil,Nat.reduceAdd];simp[hs,hi,e1,e2]
 unfold keyOf;simp only[Tryz.underlying86,hk,hd,hf,Bool.and_self,if_true];rw[show(Qh z a b).cells.toList=[.int .i64 z,.int .i64 a,.int .i64 b]from rfl,hl];rfl
theorem XU{z a b z' a' b':Int}(hz:Wf z)(ha:Wf a)(hb:Wf b)(hz':Wf z')(ha':Wf a')(hb':Wf b')(h:klit z a b=klit z' a' b'):z=z'/\a=a'/\b=b':=by
 have e:=DR.inj (Na hz ha hb) (h▸Na hz' ha' hb');simpa[Qh]using e
theorem nC(w:World):Calls ja0 33 #[] w λe w'=>e=.returned (.agg #[.int .i64 (-1),.int .i64 (-1)])/\Below w w w':=by
 go_enter Tryz.func33,Tryz.ntmps33
 go_wp2;refine bodyPost_ret (v:=.agg #[.int .i64 (-1),.int .i64 (-1)]) (by simp[results,Tryz.results33,go_sem, *];first|done|exact⟨rfl,rfl⟩|rfl) rfl ⟨rfl,?_⟩;exact Z1
theorem Ko(s:Re.St)(fl ap:Value)(ib:Bool)(W:World):(Instr.box 142 (.agg (IE s fl ap ib))).run ja0 W=.ok (.pointer W) (W.alloc (.cells (IE s fl ap ib) 142)):=by kernel_rfl
theorem GY{o:Oper}{a:Act}{W:World}{s:Re.St}{fl ap:Value}{ib:Bool}(p:Operand)(ho:o.op=.box 142 p)(hp:a.eval p=.agg (IE s fl ap ib)):(execOp a.eval o).run ja0 W=.ok (.value (.pointer W)) (W.alloc (.cells (IE s fl ap ib) 142)):=by
 unfold execOp;simp only[ho,hp,Sem.run_bind,Ko,Result.andThen_ok,Sem.run_pure]
theorem Qi{ops:Array Oper}{S:World->Prop}{o:Oper}{a:Act}(s:Re.St)(hw:Region.wanted o (yielded ops a.tmps)=true)(ps:Array (Nat×Operand))(ho:o.op=.build 142 ps)(hq:(ps.map λp=>(p.1,a.eval p.2))=#[(0,.agg (cells s)),(1,.agg #[s.c 3,s.c 4,s.c 7,s.c 8,s.c 11,s.c 12,s.c 5,s.c 6,s.c 9,s.c 10,s.c 13,s.c 14]),(2,.agg #[Fw.ed s 3,Fw.ed s 1,Fw.ed s 0,Fw.ed s 2])]):aj.Reads ja0 ops S o (.agg (IE s (.slice none 0 0) (.slice none 0 0) false)) a:=by
 refine .inl ⟨hw,λw _ => ?_⟩;unfold execOp;simp only[ho,hq,Sem.run_bind,Qg,Result.andThen_ok,Sem.run_pure]
theorem Nb(s:Re.St)(w:World):Calls ja0 65 #[.agg (cells s)] w λe w'=>(∃b,e=.returned (.pointer (some ⟨b,0,none⟩))/\w.heap.size<=b/\aR w' b s (.slice none 0 0) (.slice none 0 0) false)/\Below w w w':=by
 go_enter Tryz.func65,Tryz.ntmps65
 go_upto_region 1 with(fail)
 generalize hW:ja5 _ _=W0;have A1:At W0 w (.cells (cells s) 59):=hW▸At.new _ _;have hB:Below w w W0:=hW▸aD aG _;clear hW;have HA:=ah A1;have l1:=A1.lt;have c3:=A1.st 3 aN rfl;have c4:=A1.st 4 aN rfl;have c5:=A1.st 5 aN rfl;have c6:=A1.st 6 aN rfl;have c7:=A1.st 7 aN rfl;have c8:=A1.st 8 aN rfl;have c9:=A1.st 9 aN rfl;have c10:=A1.st 10 aN rfl;have c11:=A1.st 11 aN rfl;have c12:=A1.st 12 aN rfl;have c13:=A1.st 13 aN rfl;have c14:=A1.st 14 aN rfl;have hS0:Below W0 W0 W0.drew:=Below.drew aG;refine jy (S:=λW=>Below W0 W0 W) 22 ?_ ?_
 . exact hS0
 intro hS1;clear hS0;refine mG 0 rfl (gD bB (.tmp 1) rfl rfl (λW h=>At.keep HA.out h)) ?_;refine aS 1 ?_;refine aS 2 ?_;refine aS 3 ?_;refine aS 4 ?_;refine aS 5 ?_;refine aS 6 ?_;refine aS 7 ?_;refine aS 8 ?_;refine aS 9 ?_;refine aS 10 ?_;refine aS 11 ?_;refine aS 12 ?_;refine aS 13 ?_;refine aS 14 ?_;refine aS 15 ?_;refine mG 16 rfl (gD bB (.tmp 1) rfl rfl (λW h=>At.keep HA.out h)) ?_;refine tk1 17 ?_;refine aj.Step.call eD (ET s _) ?_;rintro e w2 ⟨rfl,hb2⟩;refine⟨_,rfl,λ_=>Below.after hS1 hb2,?_⟩;replace hS1:=Below.after hS1 hb2;clear hb2
 (try simp only[bV,bW,bX,tks])
 refine tk1 18 ?_;refine aj.Step.call (by go_simp;first|done|with_reducible rfl|exact⟨⟨rfl,rfl,rfl,rfl⟩,rfl⟩) (uP _ _ _ _ _) ?_;rintro e w3 ⟨rfl,hb3⟩;refine⟨_,rfl,λ_=>Below.after hS1 hb3,?_⟩;replace hS1:=Below.after hS1 hb3;clear hb3
 (try simp only[bV,bW,bX,tks])
 refine mG 19 rfl (Qi s bB _ rfl Z40) ?_;refine tk1 20 ?_;refine aj.Step.value (GY (.tmp 22) rfl rfl) ?_;refine⟨λ_=>hS1.alloc hS1.size _,?_⟩;have hA2:aR (w3.alloc (.cells (IE s (.slice none 0 0) (.slice none 0 0) false) 142)) w3.heap.size s (.slice none 0 0) (.slice none 0 0) false:=At.new _ _;have hle:=hS1.size;replace hS1:=hS1.alloc hS1.size (.cells (IE s (.slice none 0 0) (.slice none 0 0) false) 142);generalize hbn:w3.heap.size=bn at *;generalize w3.alloc _=w4 at *
 (try simp only[bV,bW,bX,tks])
 refine aS 21 ?_;refine jk ?_;go_wp2;refine bodyPost_ret (results_tmp rfl _ _ _) rfl ⟨⟨bn,rfl,aK hB.size hle,hA2⟩,Below.ay hB aF hS1⟩
def Sm(T:Tr.T):Nat->Int->Bool
 | 0,_=>true
 | f+1,z=>match T z with
   | none=>true
   | some nd=>(nd.sty.c 0 != 3)&&Sm T f nd.up
theorem GZ(s:Re.St)(W:World):(Instr.field 59 (.agg (cells s)) 0).run ja0 W=.ok (.int .i64 (s.c 0)) W:=by kernel_rfl
noncomputable def vI(T:Tr.T)(z:Int):Nat:=@dite Nat (∃m,Tr.Dp T z m) (Classical.propDecidable _) (λh=>h.choose+1) (λ_=>0)
theorem sO{T:Tr.T}{m:Nat}(h:Tr.Dp T z m):vI T z=m+1:=by
 have e:∃m,Tr.Dp T z m:=⟨m,h⟩;unfold vI;rw[dif_pos e,e.choose_spec.Xb h]
theorem OZ{T:Tr.T}(h:T z=none):vI T z=0:=by
 unfold vI;refine dif_neg ?_;rintro⟨m,hm⟩;obtain⟨nd,hn⟩:=hm.live;rw[h]at hn;cases hn
section
variable {w:World} {t n:Nat} {L:Lay} {T:Tr.T}
theorem Nc(h:fE w t L T n)(hr:∀nd,T 0=some nd->nd.up = -1){d:Nat}(hd:Tr.Dp T z d):Calls ja0 29 #[t,z] w λe w'=>e=.returned (.bool (Sm T (d+1) z))/\Below w w w':=by
 have hm:T (-1)=none:=by
  exact Z2j
 obtain⟨nd0,hT0⟩:=hd.live;have XV:=gH h (h.wf hT0);rw[hT0]at XV;have HR:=ah h;have Ij:=ah hr;have HD:=ah hd;obtain⟨ans,fT⟩:∃x,Hid (Sm T (d+1) z=x):=⟨_,ah rfl⟩;rw[fT.out];clear h hr hd hT0;go_enter Tryz.func29,Tryz.ntmps29
 go_wp2_with (go_at_call 48;(with_reducible refine XV.mono ?_);rintro e w' ⟨rfl,rfl⟩)
 go_loopw [1] (λi wr=>((∃(y:Int) (m:Nat),i=.int .i64 y/\Tr.Dp T y m/\Sm T (m+1) y=ans)\/(i=.int .i64 (-1)/\ans=true))/\Below w w wr) (λi _=>vI T (intOf i))
 case atStart=>exact⟨.inl ⟨z,d,rfl,HD.out,fT.out⟩,Below.refl _ _⟩
 case round =>
  obtain⟨hrel,hB⟩:=hrel;rcases hrel with⟨y,m,rfl,hD,hs⟩|⟨rfl,rfl⟩
  . obtain⟨nd,hT⟩:=hD.live
    have h1:=HR.out.after hB;have key:=gH h1 (h1.wf hT);have key2:=fP h1 (h1.wf hT);rw[hT]at key key2;have HB:=ah hB;have RF:=ah hD;have Qj:=ah hs;have HT:=ah hT;have H1:=ah h1;have hfd:=GZ nd.sty;have rR:=λX (hb:Below wr wr X)=>rC (h1.after hb) (h1.wf hT);have hu:Hid (jP T y=nd.up):=ah (by unfold jP;rw[hT]);generalize jP T y=u at *;clear hB hD hs h1 hT;simp only[Option.elim_some]at key2;cases hc:(nd.sty.c 0==3)
    . have HC:=ah hc
      go_wp2_with (first|(go_at_call 48;(with_reducible refine key.mono ?_);rintro e w' ⟨rfl,rfl⟩)|(go_at_call 13;(with_reducible refine key2.mono ?_);rintro e w2 ⟨rfl,hb2⟩)|(go_at_call 14;(with_reducible refine(rR _ hb2).mono ?_);rintro e w' ⟨rfl,rfl⟩))
      have hs:=Qj.out;have hne:(nd.sty.c 0 != 3)=true:=by simp only[bne,HC.out];rfl
      have hB2:Below w w w2:=Below.ay HB.out aF hb2;rw[hu.out];have hsh:Sm T (m+1) y=Sm T m nd.up:=by
       show(match T y with|none=>true|some nd=>(nd.sty.c 0 != 3)&&Sm T m nd.up)=_;rw[HT.out];simp only[hne,Bool.true_and]
      rw[hsh]at hs;exact Zj
    . go_wp2_with (first|(go_at_call 48;(with_reducible refine key.mono ?_);rintro e w' ⟨rfl,rfl⟩)|(go_at_call 13;(with_reducible refine key2.mono ?_);rintro e w2 ⟨rfl,hb2⟩))
      go_ret
      refine⟨fV ?_,Below.ay HB.out aF hb2⟩;rw[<-Qj.out];show false=(match T y with|none=>true|some nd=>(nd.sty.c 0 != 3)&&Sm T m nd.up);rw[HT.out];simp only[bne,hc];rfl
  . exact Z2l
end
def Apart(v u:Value):Prop:=v.ownBlock=none\/u.ownBlock=none\/v.ownBlock≠u.ownBlock
theorem Apart.symm{v u:Value}(h:Apart v u):Apart u v:=by
 rcases h with h|h|h
 . exact .inr (.inl h)
 . exact .inl h
 . exact .inr (.inr (Ne.symm h))
theorem yJ{W:World}{base k m:Nat}{v u:Value}{xs ys:List Int}(x:Int)(hu:W.ownsRow base 3 1 u k (xs.map (Value.int .i64)))(hv:W.ownsRow base 3 1 v m (ys.map (Value.int .i64)))(ha:Apart v u)(hbase:base<=W.heap.size)(hk:k<=10000) :
  ∃g c w',(Builtin.append_ #[37,37] 37 #[u,.slice W 1 1]).run ja0 (W.alloc (.cells #[x] 3))=.ok (.slice (some ⟨g,0,none⟩) (k+1) c) w' /\
   w'.ownsRow base 3 1 (.slice g (k+1) c) (k+1) ((xs++[x]).map (Value.int .i64))/\w'.ownsRow base 3 1 v m (ys.map (Value.int .i64))/\Apart v (.slice g (k+1) c)/\Below base W w'/\base<=w'.heap.size:=by
 obtain⟨i0,hi0,hz0,hz1,hz2⟩:=info_parts intZero
 obtain⟨v',w',hr,ho,hg,_,hblk⟩:=run_append_own_at (P:=ja0) (w:=W.alloc (.cells #[x] 3)) base 37 37 3 i0 (.int .i64 0) 1 8 Tryz.underlying37 hi0 hz0 hz1 hz2 rfl aN u k _ (hu.alloc _) ⟨W,0,none⟩ 1 1 [.int .i64 x] rfl
  (by intro j u hj
      match j,hj with
      | 0,hj=>simp at hj;subst hj;simp[Addr.add])
  LH RN ak jB
 obtain⟨g,c,rfl⟩:=ownsRow_succ ho;have hv2:=hv.alloc (.cells #[x] 3);have hB:Below base W w':=(Below.alloc (Below.refl base W) hbase _).grown hg jB (λj ej=>(hu.lt j ej).1);have hvb:v.ownBlock=none\/v.ownBlock≠u.ownBlock:=by
  exact Z3c
 refine⟨g,c,w',hr,by rw[List.map_append];exact ho,hv2.kept hg hvb,?_,hB,?_⟩
 . exact Z2r
 . have:=hg.size
   simp at this;omega
def dU(T:Tr.T)(z:Int):Re.St:=(T z).elim Re.zero (·.sty)
def qB(s:Re.St):Bool:=s.c 1==2||s.c 1==3
def qL(T:Tr.T)(l:List Int):List Int:=l.filter λk=>((dU T k).c 0 != 3) && !qB (dU T k)
def rQ(T:Tr.T)(l:List Int):List Int:=l.filter λk=>((dU T k).c 0 != 3)&&qB (dU T k)
theorem JG(T:Tr.T)(l:List Int)(k:Nat)(h:l.length<=5000):(qL T (l.take k)).length<=10000:=by
 unfold qL;have:=List.length_filter_le (λk=>((dU T k).c 0 != 3) && !qB (dU T k)) (l.take k);rw[jc1]at this;omega
theorem JH(T:Tr.T)(l:List Int)(k:Nat)(h:l.length<=5000):(rQ T (l.take k)).length<=10000:=by
 unfold rQ;have:=List.length_filter_le (λk=>((dU T k).c 0 != 3)&&qB (dU T k)) (l.take k);rw[jc1]at this;omega
theorem wF{k L:Nat}(h:k<L):L-(intOf (.int .i64 ((k:Int)+1))).toNat<L-(intOf (.int .i64 (k:Int))).toNat:=by simp[intOf];omega
section
variable {w:World} {t n:Nat} {L:Lay} {T:Tr.T}
theorem UJ(h:fE w t L T n){nd:Tr.Nd}(hT:T z=some nd)(ks:List Int)(hks:nd.kids=ks)(hk:∀x∈ks,∃xd,T x=some xd)(hl:ks.length<=5000):Calls ja0 66 #[t,z] w λe w'=>(∃v u,e=.returned (.tuple #[v,u])/\w'.ownsRow w.heap.size 3 1 v (qL T ks).length ((qL T ks).map (Value.int .i64))/\w'.ownsRow w.heap.size 3 1 u (rQ T ks).length ((rQ T ks).map (Value.int .i64))/\Apart v u)/\Below w w w':=by
 have su:=I4 h (h.wf hT);rw[hT]at su;simp only[Option.elim_some,hks]at su;clear hks;have HR:=ah h;have HK:=ah hk;have HL:=ah hl;clear h hk hl;go_enter Tryz.func66,Tryz.ntmps66
 go_upto_region 2 with(go_at_call 100;(with_reducible refine su.mono ?_);rintro e w1 ⟨⟨v1,rfl,ho1⟩,hb1⟩;obtain⟨A1,c1,rfl,hI1,_,_,akf⟩:=KS.ints (fD ho1 qh))
 have HI:=ah hI1;have HB1:=ah hb1;have hw1:=hb1.size;clear ho1 su hb1;clear hT
 go_loopw [4,5,13] (λf a i wr=>∃(k:Nat),k<=ks.length/\i=.int .i64 (k:Nat)/\wr.ownsRow w1.heap.size 3 1 f (qL T (ks.take k)).length ((qL T (ks.take k)).map (Value.int .i64))/\wr.ownsRow w1.heap.size 3 1 a (rQ T (ks.take k)).length ((rQ T (ks.take k)).map (Value.int .i64))/\Apart f a/\Below w1 w1 wr) (λ_ _ i _=>ks.length-(intOf i).toNat)
 case atStart=>exact⟨0,by omega,rfl,by simpa[qL]using World.ownsRow_nil _ _ _ _,by simpa[rQ]using World.ownsRow_nil _ _ _ _,.inl rfl,Below.refl _ _⟩
 case round =>
  obtain⟨k,hkl,rfl,hv,hu,hap,hB⟩:=hrel;by_cases hlt:k<ks.length
  . obtain⟨b0,o0,Uz,l0,c0⟩:=(HI.out.after hB).at_ (k:=k) hlt
    subst Uz;obtain⟨x,hx⟩:=aC (ks.getD k 0);rw[hx]at c0;have hxx:ks[k]=x:=by rw[<-hx,List.getD_eq_getElem?_getD,List.getElem?_eq_getElem hlt];rfl
    obtain⟨xd,hxd⟩:=HK.out x (hxx▸List.getElem_mem _);have h1:=(HR.out.after HB1.out).after hB;have key2:=fP h1 (h1.wf hxd);have hst:(T x).elim Re.zero (·.sty)=dU T x:=rfl;rw[hst]at key2;have htk:ks.take (k+1)=ks.take k++[x]:=by rw[List.take_succ_eq_append_getElem hlt,hxx]
    have TD:qL T (ks.take (k+1))=qL T (ks.take k)++qL T [x]:=by rw[htk];simp[qL]
    have JF:rQ T (ks.take (k+1))=rQ T (ks.take k)++rQ T [x]:=by rw[htk];simp[rQ]
    have TF:qL T [x]=if ((dU T x).c 0 != 3 && !qB (dU T x))=true then [x]else []:=by simp[qL,List.filter];split<;>simp_all
    have TG:rQ T [x]=if ((dU T x).c 0 != 3&&qB (dU T x))=true then [x]else []:=by simp[rQ,List.filter];split<;>simp_all
    generalize dU T x=sx at *;clear h1;cases e0:(sx.c 0==3)
    . cases e2:(sx.c 1==2)
      . cases e3:(sx.c 1==3)
        . have hwk:wrap64 ((k:Int)+1)=(k:Int)+1:=by have:=HL.out;exact IntWalk.wrap64_in _ ak
          have D9:=ah hlt;have n0:(sx.c 0 != 3)=true:=by simp only[bne,e0];rfl
          have no:qB sx=false:=by unfold qB;rw[e2,e3];rfl
          have HKF:Hid (qL T (ks.take (k+1))=qL T (ks.take k)++[x]):=ah (by rw[TD,TF,if_pos (by rw[n0,no];rfl)]);have HKA:Hid (rQ T (ks.take (k+1))=rQ T (ks.take k)):=ah (by rw[JF,TG,if_neg (by rw[n0,no];decide),List.append_nil]);clear TD JF TF TG
          go_upto_region 4 with(fail)
          go_upto_region 6 with(first|(go_at_call 13;(with_reducible refine key2.mono ?_);rintro e w2 ⟨rfl,hb2⟩)|(refine bD bB rfl ?_)|(refine cZ bB rfl ?_)|(refine bC bB _ rfl rfl qN ?_)|(refine dh bB _ _ rfl rfl rfl qN ?_)|(refine bJ bB _ _ rfl rfl rfl qN ?_))
          (try simp only[bV,bW,bX,tks])
          generalize hW:World.setRow _ _ _=w3;have A3:At w3 w2 (.cells (cells sx) 59):=by rw[<-hW];exact At.setRow (At.new w2 (.cells (cells Re.zero) 59)) (cells sx)
          have hb3:Below wr wr w3:=by rw[<-hW];exact below_setRow (hb2.alloc hb2.size (.cells (cells Re.zero) 59)) hb2.size (cells sx)
          clear hW;have hv3:=cK (M:=λ_=>False) hv (λ_ _ q=>q) (Out.of_below hb3);have hu3:=cK (M:=λ_=>False) hu (λ_ _ q=>q) (Out.of_below hb3);have hB3:Below w1 w1 w3:=Below.ay hB aF hb3;have l3:=A3.lt;have d0:=A3.st 0 aN rfl;have d1:=A3.st 1 aN rfl;have hlen1:(qL T (ks.take k)).length<=10000:=JG T ks k HL.out;have WH:(rQ T (ks.take k)).length<=10000:=JH T ks k HL.out;obtain⟨g,c,w4,hr,ho4,hp4,ha4,hb4,hs4⟩:=yJ x hv3 hu3 hap.symm (by have:=hB3.size;omega) hlen1;have HRR:=ah hr;clear hr
          go_wp2_with (at_builtin;refine wpList_append_run bB _ _ 37 rfl rfl rfl HRR.out ?_)
          (try simp only[bV,bW,bX,tks])
          (try simp only[Act.put,ja1,ja2,ja3,List.size_toArray,Array.getD_eq_getD_getElem?])
          go_roundw
          case rel =>
           refine⟨k+1,Nat.succ_le_of_lt D9.out,?_,?_⟩
           . exact Z34
           . rw[HKF.out,HKA.out]
             exact⟨by rw[List.length_append];exact ho4,hp4,ha4.symm,hB3.trans hb4⟩
          case measure =>
           exact Z21
        . have hwk:wrap64 ((k:Int)+1)=(k:Int)+1:=by have:=HL.out;exact IntWalk.wrap64_in _ ak
          have D9:=ah hlt;have n0:(sx.c 0 != 3)=true:=by simp only[bne,e0];rfl
          have no:qB sx=true:=by unfold qB;rw[e2,e3];rfl
          exact Z9
      . have hwk:wrap64 ((k:Int)+1)=(k:Int)+1:=by have:=HL.out;exact IntWalk.wrap64_in _ ak
        have D9:=ah hlt;have n0:(sx.c 0 != 3)=true:=by simp only[bne,e0];rfl
        have no:qB sx=true:=by unfold qB;rw[e2];rfl
        exact Z9
    . have hwk:wrap64 ((k:Int)+1)=(k:Int)+1:=by have:=HL.out;exact IntWalk.wrap64_in _ ak
      have D9:=ah hlt;have n0:(sx.c 0 != 3)=false:=by simp only[bne,e0];rfl
      have HKF:Hid (qL T (ks.take (k+1))=qL T (ks.take k)):=ah (by rw[TD,TF,if_neg (by rw[n0];simp),List.append_nil]);have HKA:Hid (rQ T (ks.take (k+1))=rQ T (ks.take k)):=ah (by rw[JF,TG,if_neg (by rw[n0];simp),List.append_nil]);clear TD JF TF TG
      go_upto_region 4 with(fail)
      go_upto_region 6 with(first|(go_at_call 13;(with_reducible refine key2.mono ?_);rintro e w2 ⟨rfl,hb2⟩)|(refine bD bB rfl ?_)|(refine cZ bB rfl ?_)|(refine bC bB _ rfl rfl qN ?_)|(refine dh bB _ _ rfl rfl rfl qN ?_)|(refine bJ bB _ _ rfl rfl rfl qN ?_))
      (try simp only[bV,bW,bX,tks])
      generalize hW:World.setRow _ _ _=w3;have A3:At w3 w2 (.cells (cells sx) 59):=by rw[<-hW];exact At.setRow (At.new w2 (.cells (cells Re.zero) 59)) (cells sx)
      have hb3:Below wr wr w3:=by rw[<-hW];exact below_setRow (hb2.alloc hb2.size (.cells (cells Re.zero) 59)) hb2.size (cells sx)
      clear hW;have hv3:=cK (M:=λ_=>False) hv (λ_ _ q=>q) (Out.of_below hb3);have hu3:=cK (M:=λ_=>False) hu (λ_ _ q=>q) (Out.of_below hb3);have hB3:Below w1 w1 w3:=Below.ay hB aF hb3;have l3:=A3.lt;have d0:=A3.st 0 aN rfl;have d1:=A3.st 1 aN rfl;have hlen1:(qL T (ks.take k)).length<=10000:=JG T ks k HL.out;have WH:(rQ T (ks.take k)).length<=10000:=JH T ks k HL.out;go_wp2
      (try simp only[bV,bW,bX,tks])
      (try simp only[Act.put,ja1,ja2,ja3,List.size_toArray,Array.getD_eq_getD_getElem?])
      go_roundw
      case rel =>
       refine⟨k+1,Nat.succ_le_of_lt D9.out,?_,?_⟩
       . exact Z34
       . rw[HKF.out,HKA.out]
         exact⟨hv3,hu3,hap,hB3⟩
      case measure =>
       exact Z21
  . obtain rfl:k=ks.length:=by omega
    rw[List.take_length]at hv hu;go_wp2;refine bodyPost_ret (v:=.tuple #[_,_]) (by simp[results,Tryz.results66,go_sem];first|done|exact⟨rfl,rfl⟩|rfl) rfl ⟨⟨_,_,rfl,fD hv hw1,fD hu hw1,hap⟩,Below.ay HB1.out aF hB⟩
end
end Go.Proofs.YtfohooineeijkaaGreat.Fix
namespace Go.Proofs.YtfohooineeijkaaGreat
namespace Fl
open Ieee Go
variable {n:Nat}
def W(s:Bool)(n:Nat):Nat:=double.nearest s n 0
def sg(s:Bool)(n:Nat):Int:=if s then -(n:Int)else n
def R(n:Nat):Nat:=if n=0 then 0 else (n.log2+1022)*4503599627370496+n*2^(52-n.log2)
theorem EW(n k:Nat)(h:n≠0):(n*2^k).log2=n.log2+k:=by
 have h1:=Nat.log2_self_le h;have h2:=Nat.lt_log2_self (n:=n);have hp:0<2^k:=Nat.two_pow_pos k;rw[Nat.log2_eq_iff (Nat.mul_ne_zero h ak)];rw[Nat.pow_add,show n.log2+k+1=(n.log2+1)+k by omega,Nat.pow_add];exact⟨Nat.mul_le_mul_right _ h1,Nat.mul_lt_mul_of_pos_right h2 hp⟩
theorem tJ(h0:n≠0)(h:n<9007199254740992):n.log2<=52:=by
 have:=(Nat.log2_lt (k:=53) h0).2 h;omega
theorem XW(s:Bool)(n:Nat):Toward.even.cut s n 0=n:=by
 unfold Toward.cut;simp[Nat.mod_one]
theorem UK(s:Bool)(n d:Nat)(h0:n≠0):Toward.even.cut s (n*2^d) d=n:=by
 unfold Toward.cut;have hm:min d ((n*2^d).log2+2)=d:=by rw[EW n d h0];omega
 have hp:0<2^d:=Nat.two_pow_pos d;simp only[hm,Nat.one_shiftLeft,Nat.mul_mod_left,Nat.mul_div_left _ hp,Nat.mul_zero];have h1:decide (2^d<0)=false:=by simp
 have h2:(2^d==0)=false:=by simp
 rw[h1,h2];simp
theorem abu(h0:n≠0)(h:n<9007199254740992):4503599627370496<=n*2^(52-n.log2)/\n*2^(52-n.log2)<9007199254740992:=by
 have hl:=tJ h0 h;have h1:=Nat.log2_self_le h0;have h2:=Nat.lt_log2_self (n:=n);have e1:2^n.log2*2^(52-n.log2)=4503599627370496:=by rw[<-Nat.pow_add,show n.log2+(52-n.log2)=52 by omega]
 have e2:2^(n.log2+1)*2^(52-n.log2)=9007199254740992:=by rw[<-Nat.pow_add,show n.log2+1+(52-n.log2)=53 by omega]
 constructor
 . rw[<-e1];exact Nat.mul_le_mul_right _ h1
 . rw[<-e2];exact Nat.mul_lt_mul_of_pos_right h2 (Nat.two_pow_pos _)
theorem air(h0:n≠0)(h:n<9007199254740992):(n.log2+1022)*4503599627370496+n*2^(52-n.log2)<=2047*4503599627370496:=by
 obtain⟨b1,b2⟩:=abu h0 h;have hl:=tJ h0 h;generalize n*2^(52-n.log2)=x at *;omega
theorem Qk(s:Bool)(n k:Nat)(h:n<9007199254740992):double.nearest s (n*2^k) (-(k:Int))=double.word s (R n):=by
 by_cases h0:n=0
 . subst h0;simp[Format.nearest,R]
 have hl:=tJ h0 h;obtain⟨b1,b2⟩:=abu h0 h;have hp:0<2^k:=Nat.two_pow_pos k;have hne:n*2^k≠0:=Nat.mul_ne_zero h0 ak;unfold Format.nearest;rw[if_neg hne];simp only[EW n k h0];have hfb:double.fractionBits=52:=rfl;have hlp:double.leastPlace = -1074:=by decide
 have hbi:double.binade=4503599627370496:=rfl;have hin:double.infRung=2047*4503599627370496:=by decide
 rw[hfb,hlp,hbi,hin];have hlast:max (-(k:Int)+((n.log2+k:Nat):Int)-((52:Nat):Int)) (-1074)=(n.log2:Int)-52:=by omega
 rw[hlast];have hkept:Toward.even.cut s ((n*2^k) <<< (-(k:Int)-((n.log2:Int)-52)).toNat) ((n.log2:Int)-52 - -(k:Int)).toNat=n*2^(52-n.log2):=by
  by_cases hk:k<=52-n.log2
  . rw[show((n.log2:Int)-52 - -(k:Int)).toNat=0 by omega,XW,show(-(k:Int)-((n.log2:Int)-52)).toNat=52-n.log2-k by omega,Nat.shiftLeft_eq,Nat.mul_assoc,<-Nat.pow_add]
    congr 2;omega
  . rw[show(-(k:Int)-((n.log2:Int)-52)).toNat=0 by omega,Nat.shiftLeft_zero]
    have e:n*2^k=n*2^(52-n.log2)*2^(((n.log2:Int)-52 - -(k:Int)).toNat):=by
     rw[Nat.mul_assoc,<-Nat.pow_add];congr 2;omega
    rw[e];exact UK s _ _ ak
 rw[hkept];unfold R;rw[if_neg h0,show((n.log2:Int)-52 - -1074).toNat=n.log2+1022 by omega];rw[Nat.min_eq_left (air h0 h)]
theorem adI(s:Bool)(h:n<9007199254740992):W s n=double.word s (R n):=by
 have:=Qk s n 0 h;simpa[W]using this
def Val(d:Datum)(s:Bool)(n:Nat):Prop:=∃k:Nat,d=.number s (n*2^k) (-(k:Int))
theorem afS(h:n<9007199254740992):R n<9223372036854775808:=by
 unfold R;split
 . decide
 . rename_i h0
   obtain⟨b1,b2⟩:=abu h0 h;have hl:=tJ h0 h;have:(n.log2+1022)*4503599627370496<=1074*4503599627370496:=Nat.mul_le_mul_right _ ak;omega
theorem Ql(s:Bool)(h:n<9007199254740992):Val (double.read (W s n)) s n:=by
 have hR:=afS h;rw[adI s h];have hsw:double.signWeight=9223372036854775808:=by decide
 have e1:((double.word s (R n))/double.signWeight%2==1)=s:=by
  unfold Format.word;rw[hsw];cases s
  . rw[if_neg aN,Nat.div_eq_of_lt hR];rfl
  . rw[if_pos rfl,Nat.add_div_left _ aN,Nat.div_eq_of_lt hR];rfl
 have e2:(double.word s (R n))%double.signWeight=R n:=by
  unfold Format.word;rw[hsw];cases s
  . rw[if_neg aN,Nat.mod_eq_of_lt hR]
  . rw[if_pos rfl,Nat.add_mod_left,Nat.mod_eq_of_lt hR]
 unfold Format.read;simp only[e1,e2];have hbi:double.binade=4503599627370496:=rfl;have hin:double.infRung=2047*4503599627370496:=by decide
 have hlp:double.leastPlace = -1074:=by decide
 rw[hbi,hin,hlp];by_cases h0:n=0
 . subst h0
   have e0:R 0=0:=rfl;rw[e0,if_pos aN];obtain⟨k,hk⟩:∃k:Nat,k=1074:=⟨_,rfl⟩;refine⟨k,?_⟩;rw[Nat.zero_mul,hk];rfl
 . obtain⟨b1,b2⟩:=abu h0 h
   have hl:=tJ h0 h;have e:R n=(n.log2+1022)*4503599627370496+n*2^(52-n.log2):=by unfold R;rw[if_neg h0]
   have:(n.log2+1022)*4503599627370496<=1074*4503599627370496:=Nat.mul_le_mul_right _ ak;rw[if_neg ak,if_pos ak];refine⟨52-n.log2,?_⟩;generalize hx:n*2^(52-n.log2)=x at *;have em:R n%4503599627370496=x-4503599627370496:=by rw[e];omega
   have ed:R n/4503599627370496=n.log2+1023:=by rw[e];omega
   rw[em,ed,show 4503599627370496+(x-4503599627370496)=x by omega,show(-1074:Int)+((n.log2+1023-1:Nat):Int) = -((52-n.log2:Nat):Int)by omega]
theorem I6(s:Bool)(n k:Nat):signed s n k=sg s n*2^k:=by
 unfold signed sg;rw[Nat.shiftLeft_eq];cases s<;>simp[Int.neg_mul]
theorem I7(s:Bool)(n k M:Nat)(h:k<=M):signed s (n*2^k) (M-k)=sg s n*2^M:=by
 rw[I6];have:((2:Int)^M)=2^k*2^(M-k):=by rw[<-Int.pow_add];congr 1;omega
 rw[this];unfold sg;cases s<;>simp[Int.mul_assoc,Int.neg_mul]
theorem UL{d e:Datum}{s t:Bool}{n m:Nat}(hd:Val d s n)(he:Val e t m):d.order e=some (compare (sg s n) (sg t m)):=by
 obtain⟨k,rfl⟩:=hd;obtain⟨j,rfl⟩:=he;unfold Datum.order;have hb:min (-(k:Int)) (-(j:Int)) = -((max k j:Nat):Int):=by omega
 simp only[hb];have e1:(-(k:Int) - -((max k j:Nat):Int)).toNat=max k j-k:=by omega
 have e2:(-(j:Int) - -((max k j:Nat):Int)).toNat=max k j-j:=by omega
 rw[e1,e2,I7 _ _ _ _ ak,I7 _ _ _ _ ak];have hp:(0:Int)<2^(max k j):=Int.pow_pos aN;generalize sg s n=x;generalize sg t m=y;congr 1;have hl:∀a b:Int,a*2^max k j<b*2^max k j↔a<b:=λa b=>⟨λh=>Int.lt_of_mul_lt_mul_right h (Int.le_of_lt hp),λh=>Int.mul_lt_mul_of_pos_right h hp⟩;rcases Int.lt_trichotomy x y with h|h|h
 . rw[Int.compare_eq_lt.2 h,Int.compare_eq_lt.2 ((hl _ _).2 h)]
 . subst h;simp
 . rw[Int.compare_eq_gt.2 h,Int.compare_eq_gt.2 ((hl _ _).2 h)]
theorem UM{d:Datum}{s:Bool}(hd:Val d s n):d.toInt .zero=some (sg s n):=by
 obtain⟨k,rfl⟩:=hd;unfold Datum.toInt Datum.integral;simp only;rw[show(-(k:Int)).toNat=0 by omega,show(- -(k:Int)).toNat=k by omega,Nat.shiftLeft_zero];have:Toward.zero.cut s (n*2^k) k=n:=by
  unfold Toward.cut;by_cases h0:n=0
  . subst h0;simp
  . have hm:min k ((n*2^k).log2+2)=k:=by rw[EW n k h0];omega
    simp[hm,Nat.one_shiftLeft,Nat.mul_div_left _ (Nat.two_pow_pos k)]
 rw[this,I6];simp
def Has(b:Nat)(z:Int):Prop:=∃s n,n<9007199254740992/\b=W s n/\sg s n=z
theorem adJ(z:Int):sg (decide (z<0)) z.natAbs=z:=by
 unfold sg;by_cases h:z<0
 . simp[h];omega
 . simp[h];omega
theorem adK(z:Int):FloatKind.f64.nearest z=W (decide (z<0)) z.natAbs:=rfl
theorem Nf{z:Int}(h1 : -9007199254740992<z)(h2:z<9007199254740992):Has (FloatKind.f64.nearest z) z :=
 ⟨_,_,by omega,adK z,adJ z⟩
theorem xP{a b:Nat}{x y:Int}(ha:Has a x)(hb:Has b y):FloatKind.f64.format.order a b=some (compare x y):=by
 obtain⟨s,n,hn,rfl,rfl⟩:=ha;obtain⟨t,m,hm,rfl,rfl⟩:=hb;exact UL (Ql s hn) (Ql t hm)
theorem Kq{a:Nat}{x:Int}(ha:Has a x):floatToIntVal .f64 a .i64=some x:=by
 have ha':=ha;obtain⟨s,n,hn,rfl,rfl⟩:=ha;have e:(FloatKind.f64.decode (W s n)).toInt .zero=some (sg s n):=UM (Ql s hn);unfold floatToIntVal;rw[e];dsimp only;have b1:IntKind.i64.min<=sg s n:=by
  have:IntKind.i64.min = -9223372036854775808:=rfl;rw[this];unfold sg;cases s<;>simp<;>omega
 have b2:sg s n<=IntKind.i64.max:=by
  have:IntKind.i64.max=9223372036854775807:=rfl;rw[this];unfold sg;cases s<;>simp<;>omega
 rw[if_pos ⟨b1,b2⟩]
theorem adL(s:Bool)(n:Nat):sg (!s) n = -sg s n:=by unfold sg;cases s<;>simp
theorem Sn{r:Nat}(h:r<9223372036854775808):r ^^^ 9223372036854775808=9223372036854775808+r:=by
 have e:(9223372036854775808:Nat)=2^63:=by decide
 rw[e]at *;apply Nat.eq_of_testBit_eq;intro j;rw[Nat.testBit_xor];rcases Nat.lt_trichotomy j 63 with hj|hj|hj
 . rw[Nat.testBit_two_pow_add_gt hj,Nat.testBit_two_pow,decide_eq_false ak,Bool.xor_false]
 . subst hj;rw[Nat.testBit_two_pow_add_eq,Nat.testBit_two_pow];cases r.testBit 63<;>rfl
 . have h0:2^63<=2^j:=Nat.pow_le_pow_right aN ak
   have h1:r.testBit j=false:=Nat.testBit_lt_two_pow (bA h h0)
   have h2:(2^63+r).testBit j=false:=Nat.testBit_lt_two_pow (by
    have:2^64<=2^j:=Nat.pow_le_pow_right aN ak;have e2:(2^64:Nat)=2^63+2^63:=by decide
    rw[e2]at this;generalize (2^63:Nat)=c at *
    omega)
   rw[h1,h2,Nat.testBit_two_pow,decide_eq_false ak,Bool.xor_false]
theorem DT{a:Nat}{x:Int}(ha:Has a x):Has (Op.negFloat .f64 a) (-x):=by
 obtain⟨s,n,hn,rfl,rfl⟩:=ha;have hR:=afS hn;refine⟨!s,n,hn,?_,adL s n⟩;rw[adI _ hn,adI _ hn];have hsw:double.signWeight=9223372036854775808:=by decide
 have e:Op.negFloat .f64 (double.word s (R n))=double.word s (R n) ^^^ 9223372036854775808:=rfl;rw[e];unfold Format.word;rw[hsw];cases s
 . exact Sn hR
 . show(9223372036854775808+R n) ^^^ 9223372036854775808=R n
   rw[<-Sn hR,Nat.xor_assoc,Nat.xor_self,Nat.xor_zero]
def fb(z:Int):Nat:=FloatKind.f64.nearest (Fx.cut z)
theorem sw(z:Int):Has (fb z) (Fx.cut z):=by
 have h1:=Fx.gY z;have h2:=Fx.jg z;exact Nf ak ak
theorem XY(a b:Int):FloatKind.f64.format.order (fb a) (fb b)=some (compare (Fx.cut a) (Fx.cut b)):=xP (sw a) (sw b)
theorem acW(a b:Int):(FloatKind.f64.format.order (fb a) (fb b)==some .eq)=decide (Fx.cut a=Fx.cut b):=by
 rw[XY];by_cases h:Fx.cut a=Fx.cut b
 . rw[h];simp
 . rcases Int.lt_or_gt_of_ne h with g|g
   . rw[Int.compare_eq_lt.2 g];simp[h]
   . rw[Int.compare_eq_gt.2 g];simp[h]
end Fl
end Go.Proofs.YtfohooineeijkaaGreat
namespace Go.Proofs.YtfohooineeijkaaGreat.Fix
open Go.ChangeShapes Go.WideShapes Go.ChangeAt Go.RowKit
open Go.Proofs.Tryz renaming prog → ja0
section
open Fl
variable {b c:Nat}{x y:Int}
def pt(x y:Int):Value:=.complex .f64 (fb x) (fb y)
theorem zS:(Value.complex .f64 0 0)=pt 0 0:=by
 unfold pt;rw[show fb 0=0 from by decide]
theorem XZ(op:BinOp)(t:TypeId)(x y:Operand)(a b:Int)(v:Value):eqGuard op t x y (pt a b) v=pure ():=by cases op<;>rfl
theorem Qm{P:Program}(t:TypeId)(a b c d:Int)(w:World):(binOp .eql t (pt a b) (pt c d)).run P w=.ok (.bool (decide (Fx.cut a=Fx.cut c)&&decide (Fx.cut b=Fx.cut d))) w:=by
 unfold pt;rw[run_eql_complex,acW,acW]
theorem G5{b:Nat}{x:Int}(w:World)(h:Has b x)(h1 : -1099511627776<=x)(h2:x<=1099511627776) :
  Calls ja0 153 #[.float .f64 b] w λe w'=>e=.returned (.bool true)/\w=w':=by
 have hlo:Has 14010698440749613056 (-1099511627776):=⟨true,1099511627776,by decide,by decide,by decide⟩;have hhi:Has 4787326403894837248 1099511627776:=⟨false,1099511627776,by decide,by decide,by decide⟩;have o1:(FloatKind.f64.format.order 14010698440749613056 b==some .lt||FloatKind.f64.format.order 14010698440749613056 b==some .eq)=true:=by
  rw[xP hlo h];rcases Int.lt_or_eq_of_le h1 with g|g
  . rw[Int.compare_eq_lt.2 g];rfl
  . subst g;rfl
 have o2:(FloatKind.f64.format.order b 4787326403894837248==some .lt||FloatKind.f64.format.order b 4787326403894837248==some .eq)=true:=by
  rw[xP h hhi];rcases Int.lt_or_eq_of_le h2 with g|g
  . rw[Int.compare_eq_lt.2 g];rfl
  . subst g;rfl
 have o3:(FloatKind.f64.format.order b (floatOfInt .f64 x)==some .eq)=true:=by
  rw[show FloatKind.f64.format.order b (floatOfInt .f64 x)=some (compare x x)from xP h (Nf ak ak)];simp
 have hc:=Kq h;have hop:∀w,(convert 96 3 (.float .f64 b)).run ja0 w=.ok (.int .i64 x) w:=λw=>run_convert_float_int w 96 3 .f64 .i64 b x (by rw[Tryz.underlying96];rfl) Tryz.underlying3 hc;clear hc hlo hhi;go_enter Tryz.func153,Tryz.ntmps153
 go_wp2_with (simp only[hop])
 all_goals
  exact Zy
theorem UN(w:World)(hb:Has b x)(hc:Has c y)(x1 : -1099511627776<=x)(x2:x<=1099511627776)(y1 : -1099511627776<=y)(y2:y<=1099511627776) :
  Calls ja0 115 #[.complex .f64 b c] w λe w'=>e=.returned (.bool true)/\w=w':=by
 go_enter Tryz.func115,Tryz.ntmps115
 go_wp2_with (first|(go_at_call 153;with_reducible refine oo (G5 _ (by assumption) (by assumption) (by assumption)) ?_))
 exact Zy
theorem Cj(w:World)(hb:Has b x)(hc:Has c y)(x1 : -1099511627776<=x)(x2:x<=1099511627776)(y1 : -1099511627776<=y)(y2:y<=1099511627776) :
  Calls ja0 75 #[.complex .f64 b c] w λe w'=>e=.returned (.complex .f64 b c)/\w=w':=by
 go_enter Tryz.func75,Tryz.ntmps75
 go_wp2_with (go_at_call 115;refine(UN _ hb hc x1 x2 y1 y2).mono ?_;rintro e w' ⟨rfl,rfl⟩)
 exact Zy
theorem acX(w:World)(hb:Has b x)(hc:Has c y)(x1 : -1099511627776<=x)(x2:x<=1099511627776)(y1 : -1099511627776<=y)(y2:y<=1099511627776) :
  Calls ja0 39 #[.complex .f64 b c] w λe w'=>e=.returned x/\w=w':=by
 have hi:=Kq hb;have hop:∀w,(convert 96 3 (.float .f64 b)).run ja0 w=.ok (.int .i64 x) w:=λw=>run_convert_float_int w 96 3 .f64 .i64 b x (by rw[Tryz.underlying96];rfl) Tryz.underlying3 hi;clear hi;go_enter Tryz.func39,Tryz.ntmps39
 go_wp2_with (go_at_call 75;refine(Cj _ hb hc x1 x2 y1 y2).mono ?_;rintro e w' ⟨rfl,rfl⟩)
 exact Zy
theorem acY(w:World)(hb:Has b x)(hc:Has c y)(x1 : -1099511627776<=x)(x2:x<=1099511627776)(y1 : -1099511627776<=y)(y2:y<=1099511627776) :
  Calls ja0 40 #[.complex .f64 b c] w λe w'=>e=.returned y/\w=w':=by
 have hi:=Kq hc;have hop:∀w,(convert 96 3 (.float .f64 c)).run ja0 w=.ok (.int .i64 y) w:=λw=>run_convert_float_int w 96 3 .f64 .i64 c y (by rw[Tryz.underlying96];rfl) Tryz.underlying3 hi;clear hi;go_enter Tryz.func40,Tryz.ntmps40
 go_wp2_with (go_at_call 75;refine(Cj _ hb hc x1 x2 y1 y2).mono ?_;rintro e w' ⟨rfl,rfl⟩)
 exact Zy
theorem qC(x y:Int)(w:World) :
  Calls ja0 8 #[x,y] w λe w'=>e=.returned (pt x y)/\w=w':=by
 go_enter Tryz.func8,Tryz.ntmps8
 go_wp2_with (first|(go_at_call 34;with_reducible refine oo (fO _ _) ?_))
 exact Zy
theorem RH(x y:Int)(w:World):Calls ja0 39 #[pt x y] w λe w'=>e=.returned (.int .i64 (Fx.cut x))/\w=w' :=
 acX w (sw x) (sw y) (Fx.jg x) (Fx.gY x) (Fx.jg y) (Fx.gY y)
theorem RI(x y:Int)(w:World):Calls ja0 40 #[pt x y] w λe w'=>e=.returned (.int .i64 (Fx.cut y))/\w=w' :=
 acY w (sw x) (sw y) (Fx.jg x) (Fx.gY x) (Fx.jg y) (Fx.gY y)
theorem zU(a b:Int):Fx.add (Fx.cut a) (Fx.cut b)=Fx.add a b:=by unfold Fx.add;rw[Fx.oM,Fx.oM]
theorem EX(a b c:Int):Fx.clamp (Fx.cut a) (Fx.cut b) (Fx.cut c)=Fx.clamp a b c:=by unfold Fx.clamp;rw[Fx.oM,Fx.oM,Fx.oM]
theorem X0(a b c d:Int)(w:World):Calls ja0 49 #[pt a b,pt c d] w λe w'=>e=.returned (pt (Fx.add a c) (Fx.add b d))/\w=w':=by
 rw[<-zU a c,<-zU b d];go_enter Tryz.func49,Tryz.ntmps49
 go_wp2_with (first|(go_at_call 39;with_reducible refine oo (RH _ _ _) ?_)|(go_at_call 40;with_reducible refine oo (RI _ _ _) ?_)|(go_at_call 82;with_reducible refine oo (jG _ _ _) ?_)|(go_at_call 8;with_reducible refine oo (qC _ _ _) ?_))
 exact Zy
theorem EY(a b c d x y:Int)(w:World):Calls ja0 10 #[pt a b,pt c d,pt x y] w λe w'=>e=.returned (pt (Fx.clamp a c x) (Fx.clamp b d y))/\w=w':=by
 rw[<-EX a c x,<-EX b d y];go_enter Tryz.func10,Tryz.ntmps10
 go_wp2_with (first|(go_at_call 39;with_reducible refine oo (RH _ _ _) ?_)|(go_at_call 40;with_reducible refine oo (RI _ _ _) ?_)|(go_at_call 38;with_reducible refine oo (qc _ _ _ _) ?_)|(go_at_call 8;with_reducible refine oo (qC _ _ _) ?_))
 exact Zy
end
theorem tK{a b c d:Int}(h1:a=c)(h2:b=d):Ending.returned (.agg #[.int .i64 a,.int .i64 b])=.returned (.agg #[c,d]):=by rw[h1,h2]
theorem I8(a b:Int)(w:World):Calls ja0 155 #[.agg #[a,b]] w λe w'=>e=.returned (.bool (decide (b<=a)))/\Below w w w':=by
 go_enter Tryz.func155,Tryz.ntmps155
 go_wp2
 go_ret
 exact⟨rfl,(Below.refl _ _).alloc aF _⟩
theorem X3(a b:Int)(w:World):Calls ja0 154 #[.agg #[a,b]] w λe w'=>e=.returned (.int .i64 (Fx.size a b))/\Below w w w':=by
 go_enter Tryz.func154,Tryz.ntmps154
 go_wp2_with (first|(go_at_call 43;with_reducible refine oo (mY _ _ _) ?_))
 all_goals
  go_ret
  exact⟨bQ (by unfold Fx.size;split<;>omega),(Below.refl _ _).alloc aF _⟩
theorem Sq(n m:Int)(w:World):Calls ja0 78 #[n,m] w λe w'=>e=.returned (.agg #[Fx.cut n,.int .i64 (Fx.add n (Fx.mx m 0))])/\Below w w w':=by
 go_enter Tryz.func78,Tryz.ntmps78
 go_wp2_with (first|(go_at_call 34;with_reducible refine oo (fO _ _) ?_)|(go_at_call 82;with_reducible refine oo (jG _ _ _) ?_))
 all_goals
  refine bodyPost_ret (by simp[results,Tryz.results78,go_sem];first|done|exact⟨rfl,rfl⟩|rfl) rfl ⟨tK rfl (by unfold Fx.mx;first|rw[if_pos ak]|rw[if_neg ak]|(congr 1;split<;>omega)),?_⟩;exact Z1
theorem Qn(a b c d:Int)(w:World):Calls ja0 156 #[.agg #[a,b],.agg #[c,d]] w λe w'=>e=.returned (.agg #[Fx.mn a c,Fx.mx b d])/\Below w w w':=by
 go_enter Tryz.func156,Tryz.ntmps156
 go_wp2
 all_goals
  refine bodyPost_ret (by simp[results,Tryz.results156,go_sem];first|done|exact⟨rfl,rfl⟩|rfl) rfl ⟨tK (by unfold Fx.mn;split<;>omega) (by unfold Fx.mx;split<;>omega),?_⟩;exact Z1
theorem X4(a b c d:Int)(w:World):Calls ja0 150 #[.agg #[a,b],.agg #[c,d]] w λe w'=>e=.returned (.agg #[Fx.O8 a b c d,Fx.O9 a b c d])/\Below w w w':=by
 go_enter Tryz.func150,Tryz.ntmps150
 go_wp2_with (first|(go_at_call 155;(with_reducible refine(I8 _ _ _).mono ?_);rintro e w' ⟨rfl,hb⟩;(try replace hb:=Below.after (by assumption) hb);obtain⟨hc,hf⟩:=iV hb;have hz:=hb.size;(try simp at hz)))
 all_goals
  refine bodyPost_ret (v:=.agg #[_,_]) (by simp[results,Tryz.results150,go_sem, *];first|done|exact⟨rfl,rfl⟩|rfl) rfl ⟨tK (by unfold Fx.O8 Fx.mn Fx.mx;(repeat' split)<;>omega) (by unfold Fx.O9 Fx.mn Fx.mx;(repeat' split)<;>omega),?_⟩;exact Z1
theorem X5(a b c d:Int)(w:World):Calls ja0 118 #[.agg #[a,b],.agg #[c,d]] w λe w'=>e=.returned (.agg #[Fx.Pb a b c d,Fx.Pf a b c d])/\Below w w w':=by
 go_enter Tryz.func118,Tryz.ntmps118
 go_wp2_with (first|(go_at_call 155;(with_reducible refine(I8 _ _ _).mono ?_);rintro e w' ⟨rfl,hb⟩;(try replace hb:=Below.after (by assumption) hb);obtain⟨hc,hf⟩:=iV hb;have hz:=hb.size;(try simp at hz))|(go_at_call 156;(with_reducible refine(Qn _ _ _ _ _).mono ?_);rintro e w' ⟨rfl,hb⟩;(try replace hb:=Below.after (by assumption) hb);obtain⟨hc,hf⟩:=iV hb;have hz:=hb.size;(try simp at hz)))
 all_goals
  refine bodyPost_ret (v:=.agg #[_,_]) (by simp[results,Tryz.results118,go_sem, *];first|done|exact⟨rfl,rfl⟩|rfl) rfl ⟨tK (by unfold Fx.Pb Fx.mn;(repeat' split)<;>omega) (by unfold Fx.Pf Fx.mx;(repeat' split)<;>omega),?_⟩;exact Z1
end Go.Proofs.YtfohooineeijkaaGreat.Fix
