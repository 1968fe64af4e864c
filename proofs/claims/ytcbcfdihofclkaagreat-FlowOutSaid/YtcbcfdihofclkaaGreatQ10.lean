/- Proved here: what functions of the program do, in plain numbers (part 10); no conditions but those in sight. -/
import Derived.Test.YtcbcfdihofclkaaGreatQK
import Derived.Test.YtcbcfdihofclkaaGreatQ08
import Derived.Test.YtcbcfdihofclkaaGreatQ09
set_option linter.unusedVariables false
set_option linter.unusedSimpArgs false
set_option linter.unusedSectionVars false
set_option maxRecDepth 100000
namespace Go.Proofs.YtcbcfdihofclkaaGreat.Fix
open Go.ChangeShapes Go.WideShapes Go.ChangeAt Go.RowKit
theorem qZ(x:Int):IntKind.i64.wrap x=Fw.wr x:=(IntWalk.i64_left x).trans (uJ x)
def bxe(s:Re.St)(fl ap:Value)(ib:Bool):Array Value:=#[.int .i64 (s.c 3),.int .i64 (s.c 4),.int .i64 (s.c 7),.int .i64 (s.c 8),.int .i64 (s.c 11),.int .i64 (s.c 12),.int .i64 (s.c 5),.int .i64 (s.c 6),.int .i64 (s.c 9),.int .i64 (s.c 10),.int .i64 (s.c 13),.int .i64 (s.c 14),.int .i64 (Fw.ed s 3),.int .i64 (Fw.ed s 1),.int .i64 (Fw.ed s 0),.int .i64 (Fw.ed s 2),fl,ap,.bool ib]
def FP(s:Re.St)(fl ap:Value)(ib:Bool):Array Value:=cells s++bxe s fl ap ib
theorem Ib(s:Re.St)(fl ap:Value)(ib:Bool){i:Nat}(h:i<55):(FP s fl ap ib)[i]? = some (cell s i):=by
 unfold FP;rw[Array.getElem?_append_left (by rw[bC];exact h),iB s h]
theorem Yw(s:Re.St)(fl ap:Value)(ib:Bool)(j:Nat):(FP s fl ap ib)[55+j]? = (bxe s fl ap ib)[j]? := by
 unfold FP;rw[Array.getElem?_append_right Z5a,bC,show 55+j-55=j by omega]
theorem M9(s:Re.St)(fl fl' ap:Value)(ib:Bool):(FP s fl ap ib).setIfInBounds 71 fl'=FP s fl' ap ib:=by
 exact Z3m
theorem Na(s:Re.St)(fl ap ap':Value)(ib:Bool):(FP s fl ap ib).setIfInBounds 72 ap'=FP s fl ap' ib:=by
 exact Z3m
theorem Nb(s:Re.St)(fl ap:Value)(ib ib':Bool):(FP s fl ap ib).setIfInBounds 73 (.bool ib')=FP s fl ap ib':=by
 exact Z3m
theorem Nc(s:Re.St)(W:World):(Instr.build 195 #[(0,.agg (cells s)),(1,.agg #[.int .i64 (s.c 3),.int .i64 (s.c 4),.int .i64 (s.c 7),.int .i64 (s.c 8),.int .i64 (s.c 11),.int .i64 (s.c 12),.int .i64 (s.c 5),.int .i64 (s.c 6),.int .i64 (s.c 9),.int .i64 (s.c 10),.int .i64 (s.c 13),.int .i64 (s.c 14)]),(2,.agg #[.int .i64 (Fw.ed s 3),.int .i64 (Fw.ed s 1),.int .i64 (Fw.ed s 0),.int .i64 (Fw.ed s 2)])]).run Tryz.prog W=.ok (.agg (FP s (.slice none 0 0) (.slice none 0 0) false)) W:=by kernel_rfl
section
variable {W:World} {b:Nat} {s:Re.St} {fl ap:Value} {ib:Bool}
abbrev aF(W:World)(b:Nat)(s:Re.St)(fl ap:Value)(ib:Bool):Prop:=At W b (.cells (FP s fl ap ib) 195)
theorem aF.lt(h:aF W b s fl ap ib):b<W.heap.size:=At.lt h
theorem aF.int(h:aF W b s fl ap ib)(i:Nat)(hi:i<55)(hb:Re.sJ i=false):W.cell? ⟨b,i,none⟩=some (.int .i64 (s.c i)):=(At.cell h i).trans (by rw[Ib _ _ _ _ hi,CW s hb])
theorem aF.ext(h:aF W b s fl ap ib)(j:Nat):W.cell? ⟨b,55+j,none⟩=(bxe s fl ap ib)[j]? := (At.cell h (55+j)).trans (Yw s fl ap ib j)
theorem aF.keep{W':World}(h:aF W b s fl ap ib)(hb:Below W.heap.size W W'):aF W' b s fl ap ib:=At.keep h hb
theorem aF.alloc(h:aF W b s fl ap ib)(o:Obj):aF (W.alloc o) b s fl ap ib:=At.alloc h o
theorem At.bx0(h:aF W b s fl ap ib):b<W.heap.size/\W.cell? ⟨b,55,none⟩=some (.int .i64 (s.c 3))/\W.cell? ⟨b,56,none⟩=some (.int .i64 (s.c 4))/\W.cell? ⟨b,57,none⟩=some (.int .i64 (s.c 7))/\W.cell? ⟨b,58,none⟩=some (.int .i64 (s.c 8))/\W.cell? ⟨b,59,none⟩=some (.int .i64 (s.c 11))/\W.cell? ⟨b,60,none⟩=some (.int .i64 (s.c 12))/\W.cell? ⟨b,67,none⟩=some (.int .i64 (Fw.ed s 3))/\W.cell? ⟨b,68,none⟩=some (.int .i64 (Fw.ed s 1)) :=
 ⟨h.lt,h.ext 0,h.ext 1,h.ext 2,h.ext 3,h.ext 4,h.ext 5,h.ext 12,h.ext 13⟩
theorem At.bx1(h:aF W b s fl ap ib):b<W.heap.size/\W.cell? ⟨b,61,none⟩=some (.int .i64 (s.c 5))/\W.cell? ⟨b,62,none⟩=some (.int .i64 (s.c 6))/\W.cell? ⟨b,63,none⟩=some (.int .i64 (s.c 9))/\W.cell? ⟨b,64,none⟩=some (.int .i64 (s.c 10))/\W.cell? ⟨b,65,none⟩=some (.int .i64 (s.c 13))/\W.cell? ⟨b,66,none⟩=some (.int .i64 (s.c 14))/\W.cell? ⟨b,69,none⟩=some (.int .i64 (Fw.ed s 0))/\W.cell? ⟨b,70,none⟩=some (.int .i64 (Fw.ed s 2)) :=
 ⟨h.lt,h.ext 6,h.ext 7,h.ext 8,h.ext 9,h.ext 10,h.ext 11,h.ext 14,h.ext 15⟩
theorem At.bxm(h:aF W b s fl ap ib):b<W.heap.size/\W.cell? ⟨b,15,none⟩=some (.int .i64 (s.c 15))/\W.cell? ⟨b,16,none⟩=some (.int .i64 (s.c 16))/\W.cell? ⟨b,17,none⟩=some (.int .i64 (s.c 17))/\W.cell? ⟨b,18,none⟩=some (.int .i64 (s.c 18))/\W.cell? ⟨b,19,none⟩=some (.int .i64 (s.c 19))/\W.cell? ⟨b,20,none⟩=some (.int .i64 (s.c 20))/\W.cell? ⟨b,21,none⟩=some (.int .i64 (s.c 21))/\W.cell? ⟨b,22,none⟩=some (.int .i64 (s.c 22)) :=
 ⟨h.lt,h.int 15 aG rfl,h.int 16 aG rfl,h.int 17 aG rfl,h.int 18 aG rfl,h.int 19 aG rfl,h.int 20 aG rfl,h.int 21 aG rfl,h.int 22 aG rfl⟩
theorem At.J3{x0 x1 x2 x3 x4 x5:Value}{T:TypeId}(h:At W b (.cells #[x0,x1,x2,x3,x4,x5] T))(y0 y1 y2 y3 y4 y5:Value):At ((((((W.setCell ⟨b,0,none⟩ y0).setCell ⟨b,1,none⟩ y1).setCell ⟨b,2,none⟩ y2).setCell ⟨b,3,none⟩ y3).setCell ⟨b,4,none⟩ y4).setCell ⟨b,5,none⟩ y5) b (.cells #[y0,y1,y2,y3,y4,y5] T):=(((((h.set 0 y0).set 1 y1).set 2 y2).set 3 y3).set 4 y4).set 5 y5
theorem At.six{x0 x1 x2 x3 x4 x5:Value}{T:TypeId}(h:At W b (.cells #[x0,x1,x2,x3,x4,x5] T)):b<W.heap.size/\W.cell? ⟨b,0,none⟩=some x0/\W.cell? ⟨b,1,none⟩=some x1/\W.cell? ⟨b,2,none⟩=some x2/\W.cell? ⟨b,3,none⟩=some x3/\W.cell? ⟨b,4,none⟩=some x4/\W.cell? ⟨b,5,none⟩=some x5:=⟨h.lt,h.cell 0,h.cell 1,h.cell 2,h.cell 3,h.cell 4,h.cell 5⟩
end
set_option maxHeartbeats 4000000 in
theorem fZ(b:Nat)(s:Re.St)(fl ap:Value)(ib:Bool)(r0 r1:Int)(w:World)(h:aF w b s fl ap ib):Calls Tryz.prog 182 #[.pointer (some ⟨b,0,none⟩),.agg #[.int .i64 r0,.int .i64 r1]] w λe w'=>e=.returned (.agg #[.int .i64 (Fw.mg s 0 0 r0),.int .i64 (Fw.mg s 0 1 r0),.int .i64 (Fw.mg s 1 0 r0),.int .i64 (Fw.mg s 1 1 r0)])/\Below w.heap.size w w':=by
 have i0:∀(a b c d:Int) (w:World),(Instr.index 193 (.agg #[.int .i64 a,.int .i64 b,.int .i64 c,.int .i64 d]) (.int .i64 0)).run Tryz.prog w=.ok (.agg #[.int .i64 a,.int .i64 b]) w:=λ_ _ _ _ _=>by kernel_rfl
 have i1:∀(a b c d:Int) (w:World),(Instr.index 193 (.agg #[.int .i64 a,.int .i64 b,.int .i64 c,.int .i64 d]) (.int .i64 1)).run Tryz.prog w=.ok (.agg #[.int .i64 c,.int .i64 d]) w:=λ_ _ _ _ _=>by kernel_rfl
 go_enter Tryz.func182,Tryz.ntmps182
 go_upto_region 1 with(fail)
 generalize hW:World.alloc _ _=W0;have A0:At W0 w.heap.size (.cells #[.int .i64 r0,.int .i64 r1] 108):=hW▸At.alloc (At.new _ _) _;have A1:At W0 (w.heap.size+1) (.cells #[.int .i64 0,.int .i64 0,.int .i64 0,.int .i64 0] 193):=hW▸At.new' _ eY;have A2:aF W0 b s fl ap ib:=hW▸aF.alloc (aF.alloc h _) _;have hB:Below w.heap.size w W0:=hW▸Below.alloc' (Below.alloc' (Below.refl _ _) _) _;clear hW h;obtain⟨l0,aA,aB⟩:=A0.two;obtain⟨l1,aL,aM,gD,gF⟩:=A1.four;have fI:=A1.thaw 0;have fJ:=A1.thaw 1;have gZ:=A1.thaw 2;have iq:=A1.thaw 3;obtain⟨l2,aN,aO,aP,aQ,aZ,bq,aX,aY⟩:=At.bxm A2;refine QB 19 1 ?_
 (repeat (first|refine nN ?_ | refine nO ?_ (hc:=by intro w2 hS;first|with_reducible exact nI hS (MS _ _ _ _ _ _ _ _ _ _)|with_reducible exact nI hS (iO _ _ _ _ _))|refine nP ?_))
 refine aj.dJ ?_;intro w2 hS
 (clear l0 aA aB l1 aL aM gD gF fI fJ gZ iq);(replace hB:=Below.ay yT (ah _) hS);replace A0:=At.keep BJ hS;replace A1:=At.keep zn hS;clear hS;obtain⟨l0,aA,aB⟩:=At.two A0;obtain⟨l1,aL,aM,gD,gF⟩:=At.four A1;have fI:=A1.thaw 0;have fJ:=A1.thaw 1;have gZ:=A1.thaw 2;have iq:=A1.thaw 3
 refine xV ?_;intro K hK;go_simp;refine hK _ _ (aj.bP ?_);clear hK K;generalize hW:World.setCell _ _ _=W1;replace A1:At W1 (w.heap.size+1) (.cells #[.int .i64 (Fx.len (s.c 21) (s.c 22) r0 0),.int .i64 (Fx.len (s.c 17) (s.c 18) r0 0),.int .i64 (Fx.len (s.c 15) (s.c 16) (-1) 0),.int .i64 (Fx.len (s.c 19) (s.c 20) (-1) 0)] 193):=hW▸At.set (At.set (At.set (At.set A1 0 _) 1 _) 2 _) 3 _;replace hB:Below w.heap.size w W1:=hW▸Below.setCell (Below.setCell (Below.setCell (Below.setCell hB eY _) eY _) eY _) eY _;clear hW l0 aA aB l1 aL aM gD gF fI fJ gZ iq A0;obtain⟨l1,aL,aM,gD,gF⟩:=A1.four;go_wp2;refine bodyPost_ret (v:=.agg #[.int .i64 _,.int .i64 _,.int .i64 _,.int .i64 _]) (by simp[results,Tryz.results182,go_sem, *];first|done|exact⟨rfl,rfl⟩|exact⟨rfl,rfl,rfl,rfl⟩|rfl) rfl ⟨yg rfl rfl rfl rfl,?_⟩;exact Z5
theorem Ac(a b c d:Int)(w:World):(Instr.index 193 (.agg #[.int .i64 a,.int .i64 b,.int .i64 c,.int .i64 d]) (.int .i64 0)).run Tryz.prog w=.ok (.agg #[.int .i64 a,.int .i64 b]) w:=by kernel_rfl
theorem qG(a b c d:Int)(w:World):(Instr.index 193 (.agg #[.int .i64 a,.int .i64 b,.int .i64 c,.int .i64 d]) (.int .i64 1)).run Tryz.prog w=.ok (.agg #[.int .i64 c,.int .i64 d]) w:=by kernel_rfl
set_option maxHeartbeats 8000000 in
theorem adF(b:Nat)(s:Re.St)(fl ap:Value)(ib:Bool)(r0 r1 t0 t1:Int)(w:World)(h:aF w b s fl ap ib):Calls Tryz.prog 121 #[.pointer (some ⟨b,0,none⟩),.int .i64 0,.agg #[.int .i64 r0,.int .i64 r1],.agg #[.int .i64 t0,.int .i64 t1]] w λe w'=>e=.returned (.int .i64 (Fw.rz s 0 r0 r0 t0))/\Below w.heap.size w w':=by
 by_cases ht:t0 = -1
 . have Yx:=Ac
   subst ht;cases hf:Fx.mX (s.c 3) r0
   . go_enter Tryz.func121,Tryz.ntmps121
     go_upto_region 1 with(fail)
     generalize hW:World.alloc _ _=W0;have A0:At W0 w.heap.size (.cells #[.int .i64 r0,.int .i64 r1] 108):=hW▸At.alloc (At.new _ _) _;have A1:At W0 (w.heap.size+1) (.cells #[.int .i64 (-1),.int .i64 t1] 108):=by rw[<-hW];exact At.new' _ Ev
     have A2:aF W0 b s fl ap ib:=hW▸aF.alloc (aF.alloc h _) _;have hB:Below w.heap.size w W0:=hW▸Below.alloc' (Below.alloc' (Below.refl _ _) _) _;clear hW h;obtain⟨l0,aA,aB⟩:=A0.two;obtain⟨l1,aL,aM⟩:=A1.two;obtain⟨l2,aN,aO,aP,aQ,aZ,bq,aX,aY⟩:=At.bx0 A2;refine Mx [0,1,2,3,4,5,6,7,8,9,10,11,12] 13 14 ?_ (norm:=[⟨_,_,_,_,_,_⟩,⟨_,_,_,_,_,_⟩,⟨_,_,_,_,_,_⟩,⟨_,_,_,_,_,_⟩,⟨_,_,_,_,_,_⟩,⟨_,_,_,_,_,_⟩,⟨_,_,_,_,_,_⟩,⟨_,_,_,_,_,_⟩,⟨_,_,_,_,_,_⟩,⟨_,_,_,_,_,_⟩,⟨_,_,_,_,_,_⟩,⟨_,_,_,_,_,_⟩,⟨_,_,_,_,_,_⟩]) (tail:=[⟨_,_,_,_,_,_⟩,⟨_,_,_,_,_,_⟩]) (x:=.cells #[.int .i64 0,.int .i64 0,.int .i64 0,.int .i64 0,.int .i64 0,.int .i64 0] 190) (so:=⟨_,_,_,_,_,_⟩)
     (repeat (first|refine sbk ?_ | refine sbc ?_ (hc:=by intro w2 hS;first|with_reducible exact(dV _ _ _))|refine sbv ?_))
     refine aj.pK ?_;intro n0 w2 hn hA hS;(try simp only[bF,bG,bH,tks])
     ((have hB0:=hB);have oO:=dh (aR A0.lt hn);have ne1:=dh (aR A1.lt hn);have oP:=dh (aR A2.lt hn);(clear l0 aA aB l1 aL aM l2 aN aO aP aQ aZ bq aX aY);(replace hB:=Below.ay yT (ah _) hS);replace A0:=At.keep BJ hS;replace A1:=At.keep zn hS;replace A2:=At.keep AZ hS;clear hS;obtain⟨l0,aA,aB⟩:=At.two A0;obtain⟨l1,aL,aM⟩:=At.two A1;obtain⟨l2,aN,aO,aP,aQ,aZ,bq,aX,aY⟩:=At.bx0 A2;have A3:=hA;clear hA;obtain⟨l3,bL,bM,dK,dL,dN,dO⟩:=At.six A3;have gV:=A3.thaw 0;have gW:=A3.thaw 1;have iG:=A3.thaw 2;have iH:=A3.thaw 3;have iI:=A3.thaw 4;have iJ:=A3.thaw 5;have g0:=aC Z4u hn;clear hB0)
     (refine aj.om aU ?_;intro K hK;go_simp;refine hK _ _ ?_;clear hK K)
     refine xV ?_;intro K hK;go_simp;refine hK _ _ (aj.bP ?_);clear hK K
     (generalize hW:World.setCell (World.setCell (World.setCell (World.setCell (World.setCell (World.setCell _ _ _) _ _) _ _) _ _) _ _) _ _=W1;clear l0 aA aB l1 aL aM l2 aN aO aP aQ aZ bq aX aY l3 bL bM dK dL dN dO gV gW iG iH iI iJ;replace A3:At W1 _ _:=hW▸(At.J3 A3 _ _ _ _ _ _);replace A0:At W1 _ _:=hW▸(At.off (At.off (At.off (At.off (At.off (At.off A0 oO _ _) oO _ _) oO _ _) oO _ _) oO _ _) oO _ _);replace A1:At W1 _ _:=hW▸(At.off (At.off (At.off (At.off (At.off (At.off A1 ne1 _ _) ne1 _ _) ne1 _ _) ne1 _ _) ne1 _ _) ne1 _ _);replace A2:At W1 _ _:=hW▸(At.off (At.off (At.off (At.off (At.off (At.off A2 oP _ _) oP _ _) oP _ _) oP _ _) oP _ _) oP _ _);replace hB:Below w.heap.size w W1:=hW▸(Below.setCell (Below.setCell (Below.setCell (Below.setCell (Below.setCell (Below.setCell hB g0 _) g0 _) g0 _) g0 _) g0 _) g0 _);clear hW oO ne1 oP;obtain⟨l0,aA,aB⟩:=At.two A0;obtain⟨l1,aL,aM⟩:=At.two A1;obtain⟨l2,aN,aO,aP,aQ,aZ,bq,aX,aY⟩:=At.bx0 A2;obtain⟨l3,bL,bM,dK,dL,dN,dO⟩:=At.six A3)
     have HF:=Lib.hid hf;clear hf
     go_upto_region 4 with(fail)
     refine xP ?_
     (repeat (first|refine nN ?_ | refine nO ?_ (hc:=by intro w2 hS;first|with_reducible exact nI hS (ji _ _ _ _ _ _ _ _))|refine nP ?_))
     refine aj.bZ ?_;intro w2 hS
     (clear l0 aA aB l1 aL aM l2 aN aO aP aQ aZ bq aX aY l3 bL bM dK dL dN dO);(replace hB:=Below.ay yT (ah _) hS);replace A0:=At.keep BJ hS;replace A1:=At.keep zn hS;replace A2:=At.keep AZ hS;replace A3:=At.keep Mh hS;clear hS;obtain⟨l0,aA,aB⟩:=At.two A0;obtain⟨l1,aL,aM⟩:=At.two A1;obtain⟨l2,aN,aO,aP,aQ,aZ,bq,aX,aY⟩:=At.bx0 A2;obtain⟨l3,bL,bM,dK,dL,dN,dO⟩:=At.six A3
     rw[HF.out]
     go_upto_region 7 with(fail)
     have HX:aF _ b s fl ap ib:=A2;refine xP ?_
     (repeat (first|refine nN ?_ | refine nO ?_ (hc:=by intro w2 hS;first|with_reducible exact nI hS (fZ _ _ _ _ _ _ _ _ Z55)|with_reducible exact nI hS (dV _ _ _))|refine nP ?_))
     refine aj.bZ ?_;intro w2 hS
     (clear l0 aA aB l1 aL aM l2 aN aO aP aQ aZ bq aX aY l3 bL bM dK dL dN dO);(replace hB:=Below.ay yT (ah _) hS);replace A0:=At.keep BJ hS;replace A1:=At.keep zn hS;replace A2:=At.keep AZ hS;replace A3:=At.keep Mh hS;clear hS;obtain⟨l0,aA,aB⟩:=At.two A0;obtain⟨l1,aL,aM⟩:=At.two A1;obtain⟨l2,aN,aO,aP,aQ,aZ,bq,aX,aY⟩:=At.bx0 A2;obtain⟨l3,bL,bM,dK,dL,dN,dO⟩:=At.six A3
     go_upto_region 8 with(fail)
     refine xP ?_
     (repeat (first|refine nN ?_ | refine nO ?_ (hc:=by intro w2 hS;first|with_reducible exact nI hS (rR _ _ _ _ _ _ _ _ _))|refine nP ?_))
     refine aj.bZ ?_;intro w2 hS
     (clear l0 aA aB l1 aL aM l2 aN aO aP aQ aZ bq aX aY l3 bL bM dK dL dN dO);(replace hB:=Below.ay yT (ah _) hS);replace A0:=At.keep BJ hS;replace A1:=At.keep zn hS;replace A2:=At.keep AZ hS;replace A3:=At.keep Mh hS;clear hS;obtain⟨l0,aA,aB⟩:=At.two A0;obtain⟨l1,aL,aM⟩:=At.two A1;obtain⟨l2,aN,aO,aP,aQ,aZ,bq,aX,aY⟩:=At.bx0 A2;obtain⟨l3,bL,bM,dK,dL,dN,dO⟩:=At.six A3
     go_wp2
     go_ret
     refine⟨bI ?_,?_⟩
     . unfold Fw.rz Fw.GZ;rw[if_neg (λq=>q rfl),if_neg (by rw[HF.out];simp),if_pos rfl];(try simp only[uJ,qZ]);rfl
     . exact Z5
   . go_enter Tryz.func121,Tryz.ntmps121
     go_upto_region 1 with(fail)
     generalize hW:World.alloc _ _=W0;have A0:At W0 w.heap.size (.cells #[.int .i64 r0,.int .i64 r1] 108):=hW▸At.alloc (At.new _ _) _;have A1:At W0 (w.heap.size+1) (.cells #[.int .i64 (-1),.int .i64 t1] 108):=by rw[<-hW];exact At.new' _ Ev
     have A2:aF W0 b s fl ap ib:=hW▸aF.alloc (aF.alloc h _) _;have hB:Below w.heap.size w W0:=hW▸Below.alloc' (Below.alloc' (Below.refl _ _) _) _;clear hW h;obtain⟨l0,aA,aB⟩:=A0.two;obtain⟨l1,aL,aM⟩:=A1.two;obtain⟨l2,aN,aO,aP,aQ,aZ,bq,aX,aY⟩:=At.bx0 A2;refine Mx [0,1,2,3,4,5,6,7,8,9,10,11,12] 13 14 ?_ (norm:=[⟨_,_,_,_,_,_⟩,⟨_,_,_,_,_,_⟩,⟨_,_,_,_,_,_⟩,⟨_,_,_,_,_,_⟩,⟨_,_,_,_,_,_⟩,⟨_,_,_,_,_,_⟩,⟨_,_,_,_,_,_⟩,⟨_,_,_,_,_,_⟩,⟨_,_,_,_,_,_⟩,⟨_,_,_,_,_,_⟩,⟨_,_,_,_,_,_⟩,⟨_,_,_,_,_,_⟩,⟨_,_,_,_,_,_⟩]) (tail:=[⟨_,_,_,_,_,_⟩,⟨_,_,_,_,_,_⟩]) (x:=.cells #[.int .i64 0,.int .i64 0,.int .i64 0,.int .i64 0,.int .i64 0,.int .i64 0] 190) (so:=⟨_,_,_,_,_,_⟩)
     (repeat (first|refine sbk ?_ | refine sbc ?_ (hc:=by intro w2 hS;first|with_reducible exact(dV _ _ _))|refine sbv ?_))
     refine aj.pK ?_;intro n0 w2 hn hA hS;(try simp only[bF,bG,bH,tks])
     ((have hB0:=hB);have oO:=dh (aR A0.lt hn);have ne1:=dh (aR A1.lt hn);have oP:=dh (aR A2.lt hn);(clear l0 aA aB l1 aL aM l2 aN aO aP aQ aZ bq aX aY);(replace hB:=Below.ay yT (ah _) hS);replace A0:=At.keep BJ hS;replace A1:=At.keep zn hS;replace A2:=At.keep AZ hS;clear hS;obtain⟨l0,aA,aB⟩:=At.two A0;obtain⟨l1,aL,aM⟩:=At.two A1;obtain⟨l2,aN,aO,aP,aQ,aZ,bq,aX,aY⟩:=At.bx0 A2;have A3:=hA;clear hA;obtain⟨l3,bL,bM,dK,dL,dN,dO⟩:=At.six A3;have gV:=A3.thaw 0;have gW:=A3.thaw 1;have iG:=A3.thaw 2;have iH:=A3.thaw 3;have iI:=A3.thaw 4;have iJ:=A3.thaw 5;have g0:=aC Z4u hn;clear hB0)
     (refine aj.om aU ?_;intro K hK;go_simp;refine hK _ _ ?_;clear hK K)
     refine xV ?_;intro K hK;go_simp;refine hK _ _ (aj.bP ?_);clear hK K
     (generalize hW:World.setCell (World.setCell (World.setCell (World.setCell (World.setCell (World.setCell _ _ _) _ _) _ _) _ _) _ _) _ _=W1;clear l0 aA aB l1 aL aM l2 aN aO aP aQ aZ bq aX aY l3 bL bM dK dL dN dO gV gW iG iH iI iJ;replace A3:At W1 _ _:=hW▸(At.J3 A3 _ _ _ _ _ _);replace A0:At W1 _ _:=hW▸(At.off (At.off (At.off (At.off (At.off (At.off A0 oO _ _) oO _ _) oO _ _) oO _ _) oO _ _) oO _ _);replace A1:At W1 _ _:=hW▸(At.off (At.off (At.off (At.off (At.off (At.off A1 ne1 _ _) ne1 _ _) ne1 _ _) ne1 _ _) ne1 _ _) ne1 _ _);replace A2:At W1 _ _:=hW▸(At.off (At.off (At.off (At.off (At.off (At.off A2 oP _ _) oP _ _) oP _ _) oP _ _) oP _ _) oP _ _);replace hB:Below w.heap.size w W1:=hW▸(Below.setCell (Below.setCell (Below.setCell (Below.setCell (Below.setCell (Below.setCell hB g0 _) g0 _) g0 _) g0 _) g0 _) g0 _);clear hW oO ne1 oP;obtain⟨l0,aA,aB⟩:=At.two A0;obtain⟨l1,aL,aM⟩:=At.two A1;obtain⟨l2,aN,aO,aP,aQ,aZ,bq,aX,aY⟩:=At.bx0 A2;obtain⟨l3,bL,bM,dK,dL,dN,dO⟩:=At.six A3)
     have HF:=Lib.hid hf;clear hf
     go_upto_region 4 with(fail)
     refine xP ?_
     (repeat (first|refine nN ?_ | refine nO ?_ (hc:=by intro w2 hS;first|with_reducible exact nI hS (ji _ _ _ _ _ _ _ _))|refine nP ?_))
     refine aj.bZ ?_;intro w2 hS
     (clear l0 aA aB l1 aL aM l2 aN aO aP aQ aZ bq aX aY l3 bL bM dK dL dN dO);(replace hB:=Below.ay yT (ah _) hS);replace A0:=At.keep BJ hS;replace A1:=At.keep zn hS;replace A2:=At.keep AZ hS;replace A3:=At.keep Mh hS;clear hS;obtain⟨l0,aA,aB⟩:=At.two A0;obtain⟨l1,aL,aM⟩:=At.two A1;obtain⟨l2,aN,aO,aP,aQ,aZ,bq,aX,aY⟩:=At.bx0 A2;obtain⟨l3,bL,bM,dK,dL,dN,dO⟩:=At.six A3
     rw[HF.out]
     go_upto_region 5 with(fail)
     refine xP ?_
     (repeat (first|refine nN ?_ | refine nO ?_ (hc:=by intro w2 hS;first|with_reducible exact nI hS (ng _ _ _ _ _)|with_reducible exact nI hS (rR _ _ _ _ _ _ _ _ _))|refine nP ?_))
     refine aj.bZ ?_;intro w2 hS
     (clear l0 aA aB l1 aL aM l2 aN aO aP aQ aZ bq aX aY l3 bL bM dK dL dN dO);(replace hB:=Below.ay yT (ah _) hS);replace A0:=At.keep BJ hS;replace A1:=At.keep zn hS;replace A2:=At.keep AZ hS;replace A3:=At.keep Mh hS;clear hS;obtain⟨l0,aA,aB⟩:=At.two A0;obtain⟨l1,aL,aM⟩:=At.two A1;obtain⟨l2,aN,aO,aP,aQ,aZ,bq,aX,aY⟩:=At.bx0 A2;obtain⟨l3,bL,bM,dK,dL,dN,dO⟩:=At.six A3
     go_wp2
     go_ret
     refine⟨bI ?_,?_⟩
     . unfold Fw.rz Fw.GZ;rw[if_neg (λq=>q rfl),if_pos HF.out];rfl
     . exact Z5
 . have hne:(t0 != -1)=true:=by simpa using ht
   go_enter Tryz.func121,Tryz.ntmps121
   go_upto_region 1 with(fail)
   generalize hW:World.alloc _ _=W0;have A0:At W0 w.heap.size (.cells #[.int .i64 r0,.int .i64 r1] 108):=hW▸At.alloc (At.new _ _) _;have A1:At W0 (w.heap.size+1) (.cells #[.int .i64 t0,.int .i64 t1] 108):=by rw[<-hW];exact At.new' _ Ev
   have A2:aF W0 b s fl ap ib:=hW▸aF.alloc (aF.alloc h _) _;have hB:Below w.heap.size w W0:=hW▸Below.alloc' (Below.alloc' (Below.refl _ _) _) _;clear hW h;obtain⟨l0,aA,aB⟩:=A0.two;obtain⟨l1,aL,aM⟩:=A1.two;obtain⟨l2,aN,aO,aP,aQ,aZ,bq,aX,aY⟩:=At.bx0 A2;refine Mx [0,1,2,3,4,5,6,7,8,9,10,11,12] 13 14 ?_ (norm:=[⟨_,_,_,_,_,_⟩,⟨_,_,_,_,_,_⟩,⟨_,_,_,_,_,_⟩,⟨_,_,_,_,_,_⟩,⟨_,_,_,_,_,_⟩,⟨_,_,_,_,_,_⟩,⟨_,_,_,_,_,_⟩,⟨_,_,_,_,_,_⟩,⟨_,_,_,_,_,_⟩,⟨_,_,_,_,_,_⟩,⟨_,_,_,_,_,_⟩,⟨_,_,_,_,_,_⟩,⟨_,_,_,_,_,_⟩]) (tail:=[⟨_,_,_,_,_,_⟩,⟨_,_,_,_,_,_⟩]) (x:=.cells #[.int .i64 0,.int .i64 0,.int .i64 0,.int .i64 0,.int .i64 0,.int .i64 0] 190) (so:=⟨_,_,_,_,_,_⟩)
   (repeat (first|refine sbk ?_ | refine sbc ?_ (hc:=by intro w2 hS;first|with_reducible exact(dV _ _ _))|refine sbv ?_))
   refine aj.pK ?_;intro n0 w2 hn hA hS;(try simp only[bF,bG,bH,tks])
   ((have hB0:=hB);have oO:=dh (aR A0.lt hn);have ne1:=dh (aR A1.lt hn);have oP:=dh (aR A2.lt hn);(clear l0 aA aB l1 aL aM l2 aN aO aP aQ aZ bq aX aY);(replace hB:=Below.ay yT (ah _) hS);replace A0:=At.keep BJ hS;replace A1:=At.keep zn hS;replace A2:=At.keep AZ hS;clear hS;obtain⟨l0,aA,aB⟩:=At.two A0;obtain⟨l1,aL,aM⟩:=At.two A1;obtain⟨l2,aN,aO,aP,aQ,aZ,bq,aX,aY⟩:=At.bx0 A2;have A3:=hA;clear hA;obtain⟨l3,bL,bM,dK,dL,dN,dO⟩:=At.six A3;have gV:=A3.thaw 0;have gW:=A3.thaw 1;have iG:=A3.thaw 2;have iH:=A3.thaw 3;have iI:=A3.thaw 4;have iJ:=A3.thaw 5;have g0:=aC Z4u hn;clear hB0)
   (refine aj.om aU ?_;intro K hK;go_simp;refine hK _ _ ?_;clear hK K)
   refine xV ?_;intro K hK;go_simp;refine hK _ _ (aj.bP ?_);clear hK K
   (generalize hW:World.setCell (World.setCell (World.setCell (World.setCell (World.setCell (World.setCell _ _ _) _ _) _ _) _ _) _ _) _ _=W1;clear l0 aA aB l1 aL aM l2 aN aO aP aQ aZ bq aX aY l3 bL bM dK dL dN dO gV gW iG iH iI iJ;replace A3:At W1 _ _:=hW▸(At.J3 A3 _ _ _ _ _ _);replace A0:At W1 _ _:=hW▸(At.off (At.off (At.off (At.off (At.off (At.off A0 oO _ _) oO _ _) oO _ _) oO _ _) oO _ _) oO _ _);replace A1:At W1 _ _:=hW▸(At.off (At.off (At.off (At.off (At.off (At.off A1 ne1 _ _) ne1 _ _) ne1 _ _) ne1 _ _) ne1 _ _) ne1 _ _);replace A2:At W1 _ _:=hW▸(At.off (At.off (At.off (At.off (At.off (At.off A2 oP _ _) oP _ _) oP _ _) oP _ _) oP _ _) oP _ _);replace hB:Below w.heap.size w W1:=hW▸(Below.setCell (Below.setCell (Below.setCell (Below.setCell (Below.setCell (Below.setCell hB g0 _) g0 _) g0 _) g0 _) g0 _) g0 _);clear hW oO ne1 oP;obtain⟨l0,aA,aB⟩:=At.two A0;obtain⟨l1,aL,aM⟩:=At.two A1;obtain⟨l2,aN,aO,aP,aQ,aZ,bq,aX,aY⟩:=At.bx0 A2;obtain⟨l3,bL,bM,dK,dL,dN,dO⟩:=At.six A3)
   go_wp2
   go_ret
   refine⟨bI ?_,?_⟩
   . unfold Fw.rz;rw[if_pos ht];(try simp only[uJ,qZ]);rfl
   . exact Z5
set_option maxHeartbeats 8000000 in
theorem adG(b:Nat)(s:Re.St)(fl ap:Value)(ib:Bool)(r0 r1 t0 t1:Int)(w:World)(h:aF w b s fl ap ib):Calls Tryz.prog 121 #[.pointer (some ⟨b,0,none⟩),.int .i64 1,.agg #[.int .i64 r0,.int .i64 r1],.agg #[.int .i64 t0,.int .i64 t1]] w λe w'=>e=.returned (.int .i64 (Fw.rz s 1 r0 r1 t1))/\Below w.heap.size w w':=by
 by_cases ht:t1 = -1
 . have Yx:=Ac
   subst ht;cases hf:Fx.mX (s.c 5) r1
   . go_enter Tryz.func121,Tryz.ntmps121
     go_upto_region 1 with(fail)
     generalize hW:World.alloc _ _=W0;have A0:At W0 w.heap.size (.cells #[.int .i64 r0,.int .i64 r1] 108):=hW▸At.alloc (At.new _ _) _;have A1:At W0 (w.heap.size+1) (.cells #[.int .i64 t0,.int .i64 (-1)] 108):=by rw[<-hW];exact At.new' _ Ev
     have A2:aF W0 b s fl ap ib:=hW▸aF.alloc (aF.alloc h _) _;have hB:Below w.heap.size w W0:=hW▸Below.alloc' (Below.alloc' (Below.refl _ _) _) _;clear hW h;obtain⟨l0,aA,aB⟩:=A0.two;obtain⟨l1,aL,aM⟩:=A1.two;obtain⟨l2,aN,aO,aP,aQ,aZ,bq,aX,aY⟩:=At.bx1 A2;refine Mx [0,1,2,3,4,5,6,7,8,9,10,11,12] 13 14 ?_ (norm:=[⟨_,_,_,_,_,_⟩,⟨_,_,_,_,_,_⟩,⟨_,_,_,_,_,_⟩,⟨_,_,_,_,_,_⟩,⟨_,_,_,_,_,_⟩,⟨_,_,_,_,_,_⟩,⟨_,_,_,_,_,_⟩,⟨_,_,_,_,_,_⟩,⟨_,_,_,_,_,_⟩,⟨_,_,_,_,_,_⟩,⟨_,_,_,_,_,_⟩,⟨_,_,_,_,_,_⟩,⟨_,_,_,_,_,_⟩]) (tail:=[⟨_,_,_,_,_,_⟩,⟨_,_,_,_,_,_⟩]) (x:=.cells #[.int .i64 0,.int .i64 0,.int .i64 0,.int .i64 0,.int .i64 0,.int .i64 0] 190) (so:=⟨_,_,_,_,_,_⟩)
     (repeat (first|refine sbk ?_ | refine sbc ?_ (hc:=by intro w2 hS;first|with_reducible exact(dV _ _ _))|refine sbv ?_))
     refine aj.pK ?_;intro n0 w2 hn hA hS;(try simp only[bF,bG,bH,tks])
     ((have hB0:=hB);have oO:=dh (aR A0.lt hn);have ne1:=dh (aR A1.lt hn);have oP:=dh (aR A2.lt hn);(clear l0 aA aB l1 aL aM l2 aN aO aP aQ aZ bq aX aY);(replace hB:=Below.ay yT (ah _) hS);replace A0:=At.keep BJ hS;replace A1:=At.keep zn hS;replace A2:=At.keep AZ hS;clear hS;obtain⟨l0,aA,aB⟩:=At.two A0;obtain⟨l1,aL,aM⟩:=At.two A1;obtain⟨l2,aN,aO,aP,aQ,aZ,bq,aX,aY⟩:=At.bx1 A2;have A3:=hA;clear hA;obtain⟨l3,bL,bM,dK,dL,dN,dO⟩:=At.six A3;have gV:=A3.thaw 0;have gW:=A3.thaw 1;have iG:=A3.thaw 2;have iH:=A3.thaw 3;have iI:=A3.thaw 4;have iJ:=A3.thaw 5;have g0:=aC Z4u hn;clear hB0)
     (refine aj.om aU ?_;intro K hK;go_simp;refine hK _ _ ?_;clear hK K)
     refine xV ?_;intro K hK;go_simp;refine hK _ _ (aj.bP ?_);clear hK K
     (generalize hW:World.setCell (World.setCell (World.setCell (World.setCell (World.setCell (World.setCell _ _ _) _ _) _ _) _ _) _ _) _ _=W1;clear l0 aA aB l1 aL aM l2 aN aO aP aQ aZ bq aX aY l3 bL bM dK dL dN dO gV gW iG iH iI iJ;replace A3:At W1 _ _:=hW▸(At.J3 A3 _ _ _ _ _ _);replace A0:At W1 _ _:=hW▸(At.off (At.off (At.off (At.off (At.off (At.off A0 oO _ _) oO _ _) oO _ _) oO _ _) oO _ _) oO _ _);replace A1:At W1 _ _:=hW▸(At.off (At.off (At.off (At.off (At.off (At.off A1 ne1 _ _) ne1 _ _) ne1 _ _) ne1 _ _) ne1 _ _) ne1 _ _);replace A2:At W1 _ _:=hW▸(At.off (At.off (At.off (At.off (At.off (At.off A2 oP _ _) oP _ _) oP _ _) oP _ _) oP _ _) oP _ _);replace hB:Below w.heap.size w W1:=hW▸(Below.setCell (Below.setCell (Below.setCell (Below.setCell (Below.setCell (Below.setCell hB g0 _) g0 _) g0 _) g0 _) g0 _) g0 _);clear hW oO ne1 oP;obtain⟨l0,aA,aB⟩:=At.two A0;obtain⟨l1,aL,aM⟩:=At.two A1;obtain⟨l2,aN,aO,aP,aQ,aZ,bq,aX,aY⟩:=At.bx1 A2;obtain⟨l3,bL,bM,dK,dL,dN,dO⟩:=At.six A3)
     have HF:=Lib.hid hf;clear hf
     go_upto_region 4 with(fail)
     refine xP ?_
     (repeat (first|refine nN ?_ | refine nO ?_ (hc:=by intro w2 hS;first|with_reducible exact nI hS (ji _ _ _ _ _ _ _ _))|refine nP ?_))
     refine aj.bZ ?_;intro w2 hS
     (clear l0 aA aB l1 aL aM l2 aN aO aP aQ aZ bq aX aY l3 bL bM dK dL dN dO);(replace hB:=Below.ay yT (ah _) hS);replace A0:=At.keep BJ hS;replace A1:=At.keep zn hS;replace A2:=At.keep AZ hS;replace A3:=At.keep Mh hS;clear hS;obtain⟨l0,aA,aB⟩:=At.two A0;obtain⟨l1,aL,aM⟩:=At.two A1;obtain⟨l2,aN,aO,aP,aQ,aZ,bq,aX,aY⟩:=At.bx1 A2;obtain⟨l3,bL,bM,dK,dL,dN,dO⟩:=At.six A3
     rw[HF.out];go_wp2
     go_ret
     refine⟨bI ?_,?_⟩
     . unfold Fw.rz Fw.GZ;rw[if_neg (λq=>q rfl),if_neg (by rw[HF.out];simp),if_neg aG]
     . exact Z5
   . go_enter Tryz.func121,Tryz.ntmps121
     go_upto_region 1 with(fail)
     generalize hW:World.alloc _ _=W0;have A0:At W0 w.heap.size (.cells #[.int .i64 r0,.int .i64 r1] 108):=hW▸At.alloc (At.new _ _) _;have A1:At W0 (w.heap.size+1) (.cells #[.int .i64 t0,.int .i64 (-1)] 108):=by rw[<-hW];exact At.new' _ Ev
     have A2:aF W0 b s fl ap ib:=hW▸aF.alloc (aF.alloc h _) _;have hB:Below w.heap.size w W0:=hW▸Below.alloc' (Below.alloc' (Below.refl _ _) _) _;clear hW h;obtain⟨l0,aA,aB⟩:=A0.two;obtain⟨l1,aL,aM⟩:=A1.two;obtain⟨l2,aN,aO,aP,aQ,aZ,bq,aX,aY⟩:=At.bx1 A2;refine Mx [0,1,2,3,4,5,6,7,8,9,10,11,12] 13 14 ?_ (norm:=[⟨_,_,_,_,_,_⟩,⟨_,_,_,_,_,_⟩,⟨_,_,_,_,_,_⟩,⟨_,_,_,_,_,_⟩,⟨_,_,_,_,_,_⟩,⟨_,_,_,_,_,_⟩,⟨_,_,_,_,_,_⟩,⟨_,_,_,_,_,_⟩,⟨_,_,_,_,_,_⟩,⟨_,_,_,_,_,_⟩,⟨_,_,_,_,_,_⟩,⟨_,_,_,_,_,_⟩,⟨_,_,_,_,_,_⟩]) (tail:=[⟨_,_,_,_,_,_⟩,⟨_,_,_,_,_,_⟩]) (x:=.cells #[.int .i64 0,.int .i64 0,.int .i64 0,.int .i64 0,.int .i64 0,.int .i64 0] 190) (so:=⟨_,_,_,_,_,_⟩)
     (repeat (first|refine sbk ?_ | refine sbc ?_ (hc:=by intro w2 hS;first|with_reducible exact(dV _ _ _))|refine sbv ?_))
     refine aj.pK ?_;intro n0 w2 hn hA hS;(try simp only[bF,bG,bH,tks])
     ((have hB0:=hB);have oO:=dh (aR A0.lt hn);have ne1:=dh (aR A1.lt hn);have oP:=dh (aR A2.lt hn);(clear l0 aA aB l1 aL aM l2 aN aO aP aQ aZ bq aX aY);(replace hB:=Below.ay yT (ah _) hS);replace A0:=At.keep BJ hS;replace A1:=At.keep zn hS;replace A2:=At.keep AZ hS;clear hS;obtain⟨l0,aA,aB⟩:=At.two A0;obtain⟨l1,aL,aM⟩:=At.two A1;obtain⟨l2,aN,aO,aP,aQ,aZ,bq,aX,aY⟩:=At.bx1 A2;have A3:=hA;clear hA;obtain⟨l3,bL,bM,dK,dL,dN,dO⟩:=At.six A3;have gV:=A3.thaw 0;have gW:=A3.thaw 1;have iG:=A3.thaw 2;have iH:=A3.thaw 3;have iI:=A3.thaw 4;have iJ:=A3.thaw 5;have g0:=aC Z4u hn;clear hB0)
     (refine aj.om aU ?_;intro K hK;go_simp;refine hK _ _ ?_;clear hK K)
     refine xV ?_;intro K hK;go_simp;refine hK _ _ (aj.bP ?_);clear hK K
     (generalize hW:World.setCell (World.setCell (World.setCell (World.setCell (World.setCell (World.setCell _ _ _) _ _) _ _) _ _) _ _) _ _=W1;clear l0 aA aB l1 aL aM l2 aN aO aP aQ aZ bq aX aY l3 bL bM dK dL dN dO gV gW iG iH iI iJ;replace A3:At W1 _ _:=hW▸(At.J3 A3 _ _ _ _ _ _);replace A0:At W1 _ _:=hW▸(At.off (At.off (At.off (At.off (At.off (At.off A0 oO _ _) oO _ _) oO _ _) oO _ _) oO _ _) oO _ _);replace A1:At W1 _ _:=hW▸(At.off (At.off (At.off (At.off (At.off (At.off A1 ne1 _ _) ne1 _ _) ne1 _ _) ne1 _ _) ne1 _ _) ne1 _ _);replace A2:At W1 _ _:=hW▸(At.off (At.off (At.off (At.off (At.off (At.off A2 oP _ _) oP _ _) oP _ _) oP _ _) oP _ _) oP _ _);replace hB:Below w.heap.size w W1:=hW▸(Below.setCell (Below.setCell (Below.setCell (Below.setCell (Below.setCell (Below.setCell hB g0 _) g0 _) g0 _) g0 _) g0 _) g0 _);clear hW oO ne1 oP;obtain⟨l0,aA,aB⟩:=At.two A0;obtain⟨l1,aL,aM⟩:=At.two A1;obtain⟨l2,aN,aO,aP,aQ,aZ,bq,aX,aY⟩:=At.bx1 A2;obtain⟨l3,bL,bM,dK,dL,dN,dO⟩:=At.six A3)
     have HF:=Lib.hid hf;clear hf
     go_upto_region 4 with(fail)
     refine xP ?_
     (repeat (first|refine nN ?_ | refine nO ?_ (hc:=by intro w2 hS;first|with_reducible exact nI hS (ji _ _ _ _ _ _ _ _))|refine nP ?_))
     refine aj.bZ ?_;intro w2 hS
     (clear l0 aA aB l1 aL aM l2 aN aO aP aQ aZ bq aX aY l3 bL bM dK dL dN dO);(replace hB:=Below.ay yT (ah _) hS);replace A0:=At.keep BJ hS;replace A1:=At.keep zn hS;replace A2:=At.keep AZ hS;replace A3:=At.keep Mh hS;clear hS;obtain⟨l0,aA,aB⟩:=At.two A0;obtain⟨l1,aL,aM⟩:=At.two A1;obtain⟨l2,aN,aO,aP,aQ,aZ,bq,aX,aY⟩:=At.bx1 A2;obtain⟨l3,bL,bM,dK,dL,dN,dO⟩:=At.six A3
     rw[HF.out]
     go_upto_region 5 with(fail)
     refine xP ?_
     (repeat (first|refine nN ?_ | refine nO ?_ (hc:=by intro w2 hS;first|with_reducible exact nI hS (ng _ _ _ _ _)|with_reducible exact nI hS (rR _ _ _ _ _ _ _ _ _))|refine nP ?_))
     refine aj.bZ ?_;intro w2 hS
     (clear l0 aA aB l1 aL aM l2 aN aO aP aQ aZ bq aX aY l3 bL bM dK dL dN dO);(replace hB:=Below.ay yT (ah _) hS);replace A0:=At.keep BJ hS;replace A1:=At.keep zn hS;replace A2:=At.keep AZ hS;replace A3:=At.keep Mh hS;clear hS;obtain⟨l0,aA,aB⟩:=At.two A0;obtain⟨l1,aL,aM⟩:=At.two A1;obtain⟨l2,aN,aO,aP,aQ,aZ,bq,aX,aY⟩:=At.bx1 A2;obtain⟨l3,bL,bM,dK,dL,dN,dO⟩:=At.six A3
     go_wp2
     go_ret
     refine⟨bI ?_,?_⟩
     . unfold Fw.rz Fw.GZ;rw[if_neg (λq=>q rfl),if_pos HF.out];rfl
     . exact Z5
 . have hne:(t1 != -1)=true:=by simpa using ht
   go_enter Tryz.func121,Tryz.ntmps121
   go_upto_region 1 with(fail)
   generalize hW:World.alloc _ _=W0;have A0:At W0 w.heap.size (.cells #[.int .i64 r0,.int .i64 r1] 108):=hW▸At.alloc (At.new _ _) _;have A1:At W0 (w.heap.size+1) (.cells #[.int .i64 t0,.int .i64 t1] 108):=by rw[<-hW];exact At.new' _ Ev
   have A2:aF W0 b s fl ap ib:=hW▸aF.alloc (aF.alloc h _) _;have hB:Below w.heap.size w W0:=hW▸Below.alloc' (Below.alloc' (Below.refl _ _) _) _;clear hW h;obtain⟨l0,aA,aB⟩:=A0.two;obtain⟨l1,aL,aM⟩:=A1.two;obtain⟨l2,aN,aO,aP,aQ,aZ,bq,aX,aY⟩:=At.bx1 A2;refine Mx [0,1,2,3,4,5,6,7,8,9,10,11,12] 13 14 ?_ (norm:=[⟨_,_,_,_,_,_⟩,⟨_,_,_,_,_,_⟩,⟨_,_,_,_,_,_⟩,⟨_,_,_,_,_,_⟩,⟨_,_,_,_,_,_⟩,⟨_,_,_,_,_,_⟩,⟨_,_,_,_,_,_⟩,⟨_,_,_,_,_,_⟩,⟨_,_,_,_,_,_⟩,⟨_,_,_,_,_,_⟩,⟨_,_,_,_,_,_⟩,⟨_,_,_,_,_,_⟩,⟨_,_,_,_,_,_⟩]) (tail:=[⟨_,_,_,_,_,_⟩,⟨_,_,_,_,_,_⟩]) (x:=.cells #[.int .i64 0,.int .i64 0,.int .i64 0,.int .i64 0,.int .i64 0,.int .i64 0] 190) (so:=⟨_,_,_,_,_,_⟩)
   (repeat (first|refine sbk ?_ | refine sbc ?_ (hc:=by intro w2 hS;first|with_reducible exact(dV _ _ _))|refine sbv ?_))
   refine aj.pK ?_;intro n0 w2 hn hA hS;(try simp only[bF,bG,bH,tks])
   ((have hB0:=hB);have oO:=dh (aR A0.lt hn);have ne1:=dh (aR A1.lt hn);have oP:=dh (aR A2.lt hn);(clear l0 aA aB l1 aL aM l2 aN aO aP aQ aZ bq aX aY);(replace hB:=Below.ay yT (ah _) hS);replace A0:=At.keep BJ hS;replace A1:=At.keep zn hS;replace A2:=At.keep AZ hS;clear hS;obtain⟨l0,aA,aB⟩:=At.two A0;obtain⟨l1,aL,aM⟩:=At.two A1;obtain⟨l2,aN,aO,aP,aQ,aZ,bq,aX,aY⟩:=At.bx1 A2;have A3:=hA;clear hA;obtain⟨l3,bL,bM,dK,dL,dN,dO⟩:=At.six A3;have gV:=A3.thaw 0;have gW:=A3.thaw 1;have iG:=A3.thaw 2;have iH:=A3.thaw 3;have iI:=A3.thaw 4;have iJ:=A3.thaw 5;have g0:=aC Z4u hn;clear hB0)
   (refine aj.om aU ?_;intro K hK;go_simp;refine hK _ _ ?_;clear hK K)
   refine xV ?_;intro K hK;go_simp;refine hK _ _ (aj.bP ?_);clear hK K
   (generalize hW:World.setCell (World.setCell (World.setCell (World.setCell (World.setCell (World.setCell _ _ _) _ _) _ _) _ _) _ _) _ _=W1;clear l0 aA aB l1 aL aM l2 aN aO aP aQ aZ bq aX aY l3 bL bM dK dL dN dO gV gW iG iH iI iJ;replace A3:At W1 _ _:=hW▸(At.J3 A3 _ _ _ _ _ _);replace A0:At W1 _ _:=hW▸(At.off (At.off (At.off (At.off (At.off (At.off A0 oO _ _) oO _ _) oO _ _) oO _ _) oO _ _) oO _ _);replace A1:At W1 _ _:=hW▸(At.off (At.off (At.off (At.off (At.off (At.off A1 ne1 _ _) ne1 _ _) ne1 _ _) ne1 _ _) ne1 _ _) ne1 _ _);replace A2:At W1 _ _:=hW▸(At.off (At.off (At.off (At.off (At.off (At.off A2 oP _ _) oP _ _) oP _ _) oP _ _) oP _ _) oP _ _);replace hB:Below w.heap.size w W1:=hW▸(Below.setCell (Below.setCell (Below.setCell (Below.setCell (Below.setCell (Below.setCell hB g0 _) g0 _) g0 _) g0 _) g0 _) g0 _);clear hW oO ne1 oP;obtain⟨l0,aA,aB⟩:=At.two A0;obtain⟨l1,aL,aM⟩:=At.two A1;obtain⟨l2,aN,aO,aP,aQ,aZ,bq,aX,aY⟩:=At.bx1 A2;obtain⟨l3,bL,bM,dK,dL,dN,dO⟩:=At.six A3)
   go_wp2
   go_ret
   refine⟨bI ?_,?_⟩
   . unfold Fw.rz;rw[if_pos ht];(try simp only[uJ,qZ]);rfl
   . exact Z5
end Go.Proofs.YtcbcfdihofclkaaGreat.Fix
