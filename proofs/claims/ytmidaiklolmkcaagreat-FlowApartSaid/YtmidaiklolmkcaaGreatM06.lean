/- What functions of the program do, in plain numbers, part 6; no conditions. -/
import Derived.Test.YtmidaiklolmkcaaGreatM05
set_option linter.unusedVariables false
set_option linter.unusedSimpArgs false
set_option linter.unusedSectionVars false
set_option maxRecDepth 100000
set_option maxHeartbeats 16000000
namespace Go.Proofs.YtmidaiklolmkcaaGreat.Fix
open Go.ChangeShapes Go.WideShapes Go.ChangeAt Go.RowKit
theorem rH(x:Int):IntKind.i64.wrap x=Fw.wr x:=(IntWalk.i64_left x).trans (uR x)
def bxe(s:Re.St)(fl ap:Value)(ib:Bool):Array Value:=#[.int .i64 (s.c 3),.int .i64 (s.c 4),.int .i64 (s.c 7),.int .i64 (s.c 8),.int .i64 (s.c 11),.int .i64 (s.c 12),.int .i64 (s.c 5),.int .i64 (s.c 6),.int .i64 (s.c 9),.int .i64 (s.c 10),.int .i64 (s.c 13),.int .i64 (s.c 14),.int .i64 (Fw.ed s 3),.int .i64 (Fw.ed s 1),.int .i64 (Fw.ed s 0),.int .i64 (Fw.ed s 2),fl,ap,.bool ib]
def F9(s:Re.St)(fl ap:Value)(ib:Bool):Array Value:=cells s++bxe s fl ap ib
theorem Iz(s:Re.St)(fl ap:Value)(ib:Bool){i:Nat}(h:i<55):(F9 s fl ap ib)[i]? = some (cell s i):=by
 unfold F9;rw[Array.getElem?_append_left (by rw[bI];exact h),iC s h]
theorem ZH(s:Re.St)(fl ap:Value)(ib:Bool)(j:Nat):(F9 s fl ap ib)[55+j]? = (bxe s fl ap ib)[j]? := by
 unfold F9;rw[Array.getElem?_append_right Z55,bI,show 55+j-55=j by omega]
theorem Nz(s:Re.St)(fl fl' ap:Value)(ib:Bool):(F9 s fl ap ib).setIfInBounds 71 fl'=F9 s fl' ap ib:=by
 exact Z3i
theorem NA(s:Re.St)(fl ap ap':Value)(ib:Bool):(F9 s fl ap ib).setIfInBounds 72 ap'=F9 s fl ap' ib:=by
 exact Z3i
theorem NC(s:Re.St)(fl ap:Value)(ib ib':Bool):(F9 s fl ap ib).setIfInBounds 73 (.bool ib')=F9 s fl ap ib':=by
 exact Z3i
theorem ND(s:Re.St)(W:World):(Instr.build 117 #[(0,.agg (cells s)),(1,.agg #[.int .i64 (s.c 3),.int .i64 (s.c 4),.int .i64 (s.c 7),.int .i64 (s.c 8),.int .i64 (s.c 11),.int .i64 (s.c 12),.int .i64 (s.c 5),.int .i64 (s.c 6),.int .i64 (s.c 9),.int .i64 (s.c 10),.int .i64 (s.c 13),.int .i64 (s.c 14)]),(2,.agg #[.int .i64 (Fw.ed s 3),.int .i64 (Fw.ed s 1),.int .i64 (Fw.ed s 0),.int .i64 (Fw.ed s 2)])]).run Tryz.prog W=.ok (.agg (F9 s (.slice none 0 0) (.slice none 0 0) false)) W:=by kernel_rfl
section
variable {W:World} {b:Nat} {s:Re.St} {fl ap:Value} {ib:Bool}
abbrev aL(W:World)(b:Nat)(s:Re.St)(fl ap:Value)(ib:Bool):Prop:=At W b (.cells (F9 s fl ap ib) 117)
theorem aL.lt(h:aL W b s fl ap ib):b<W.heap.size:=At.lt h
theorem aL.int(h:aL W b s fl ap ib)(i:Nat)(hi:i<55)(hb:Re.sO i=false):W.cell? ⟨b,i,none⟩=some (.int .i64 (s.c i)):=(At.cell h i).trans (by rw[Iz _ _ _ _ hi,yj s hb])
theorem aL.ext(h:aL W b s fl ap ib)(j:Nat):W.cell? ⟨b,55+j,none⟩=(bxe s fl ap ib)[j]? := (At.cell h (55+j)).trans (ZH s fl ap ib j)
theorem aL.keep{W':World}(h:aL W b s fl ap ib)(hb:Below W.heap.size W W'):aL W' b s fl ap ib:=At.keep h hb
theorem aL.alloc(h:aL W b s fl ap ib)(o:Obj):aL (W.alloc o) b s fl ap ib:=At.alloc h o
theorem At.bx0(h:aL W b s fl ap ib):b<W.heap.size/\W.cell? ⟨b,55,none⟩=some (.int .i64 (s.c 3))/\W.cell? ⟨b,56,none⟩=some (.int .i64 (s.c 4))/\W.cell? ⟨b,57,none⟩=some (.int .i64 (s.c 7))/\W.cell? ⟨b,58,none⟩=some (.int .i64 (s.c 8))/\W.cell? ⟨b,59,none⟩=some (.int .i64 (s.c 11))/\W.cell? ⟨b,60,none⟩=some (.int .i64 (s.c 12))/\W.cell? ⟨b,67,none⟩=some (.int .i64 (Fw.ed s 3))/\W.cell? ⟨b,68,none⟩=some (.int .i64 (Fw.ed s 1)) :=
 ⟨h.lt,h.ext 0,h.ext 1,h.ext 2,h.ext 3,h.ext 4,h.ext 5,h.ext 12,h.ext 13⟩
theorem At.bx1(h:aL W b s fl ap ib):b<W.heap.size/\W.cell? ⟨b,61,none⟩=some (.int .i64 (s.c 5))/\W.cell? ⟨b,62,none⟩=some (.int .i64 (s.c 6))/\W.cell? ⟨b,63,none⟩=some (.int .i64 (s.c 9))/\W.cell? ⟨b,64,none⟩=some (.int .i64 (s.c 10))/\W.cell? ⟨b,65,none⟩=some (.int .i64 (s.c 13))/\W.cell? ⟨b,66,none⟩=some (.int .i64 (s.c 14))/\W.cell? ⟨b,69,none⟩=some (.int .i64 (Fw.ed s 0))/\W.cell? ⟨b,70,none⟩=some (.int .i64 (Fw.ed s 2)) :=
 ⟨h.lt,h.ext 6,h.ext 7,h.ext 8,h.ext 9,h.ext 10,h.ext 11,h.ext 14,h.ext 15⟩
theorem At.bxm(h:aL W b s fl ap ib):b<W.heap.size/\W.cell? ⟨b,15,none⟩=some (.int .i64 (s.c 15))/\W.cell? ⟨b,16,none⟩=some (.int .i64 (s.c 16))/\W.cell? ⟨b,17,none⟩=some (.int .i64 (s.c 17))/\W.cell? ⟨b,18,none⟩=some (.int .i64 (s.c 18))/\W.cell? ⟨b,19,none⟩=some (.int .i64 (s.c 19))/\W.cell? ⟨b,20,none⟩=some (.int .i64 (s.c 20))/\W.cell? ⟨b,21,none⟩=some (.int .i64 (s.c 21))/\W.cell? ⟨b,22,none⟩=some (.int .i64 (s.c 22)) :=
 ⟨h.lt,h.int 15 aH rfl,h.int 16 aH rfl,h.int 17 aH rfl,h.int 18 aH rfl,h.int 19 aH rfl,h.int 20 aH rfl,h.int 21 aH rfl,h.int 22 aH rfl⟩
theorem At.Kn{x0 x1 x2 x3 x4 x5:Value}{T:TypeId}(h:At W b (.cells #[x0,x1,x2,x3,x4,x5] T))(y0 y1 y2 y3 y4 y5:Value):At ((((((W.setCell ⟨b,0,none⟩ y0).setCell ⟨b,1,none⟩ y1).setCell ⟨b,2,none⟩ y2).setCell ⟨b,3,none⟩ y3).setCell ⟨b,4,none⟩ y4).setCell ⟨b,5,none⟩ y5) b (.cells #[y0,y1,y2,y3,y4,y5] T):=(((((h.set 0 y0).set 1 y1).set 2 y2).set 3 y3).set 4 y4).set 5 y5
theorem At.six{x0 x1 x2 x3 x4 x5:Value}{T:TypeId}(h:At W b (.cells #[x0,x1,x2,x3,x4,x5] T)):b<W.heap.size/\W.cell? ⟨b,0,none⟩=some x0/\W.cell? ⟨b,1,none⟩=some x1/\W.cell? ⟨b,2,none⟩=some x2/\W.cell? ⟨b,3,none⟩=some x3/\W.cell? ⟨b,4,none⟩=some x4/\W.cell? ⟨b,5,none⟩=some x5:=⟨h.lt,h.cell 0,h.cell 1,h.cell 2,h.cell 3,h.cell 4,h.cell 5⟩
end
theorem gy(b:Nat)(s:Re.St)(fl ap:Value)(ib:Bool)(r0 r1:Int)(w:World)(h:aL w b s fl ap ib):Calls Tryz.prog 77 #[.pointer (some ⟨b,0,none⟩),.agg #[.int .i64 r0,.int .i64 r1]] w λe w'=>e=.returned (.agg #[.int .i64 (Fw.mg s 0 0 r0),.int .i64 (Fw.mg s 0 1 r0),.int .i64 (Fw.mg s 1 0 r0),.int .i64 (Fw.mg s 1 1 r0)])/\Below w.heap.size w w':=by
 have i0:∀(a b c d:Int) (w:World),(Instr.index 115 (.agg #[.int .i64 a,.int .i64 b,.int .i64 c,.int .i64 d]) (.int .i64 0)).run Tryz.prog w=.ok (.agg #[.int .i64 a,.int .i64 b]) w:=λ_ _ _ _ _=>by kernel_rfl
 have i1:∀(a b c d:Int) (w:World),(Instr.index 115 (.agg #[.int .i64 a,.int .i64 b,.int .i64 c,.int .i64 d]) (.int .i64 1)).run Tryz.prog w=.ok (.agg #[.int .i64 c,.int .i64 d]) w:=λ_ _ _ _ _=>by kernel_rfl
 go_enter Tryz.func77,Tryz.ntmps77
 go_upto_region 1 with(fail)
 generalize hW:World.alloc _ _=W0;have A0:At W0 w.heap.size (.cells #[.int .i64 r0,.int .i64 r1] 71):=hW▸At.alloc (At.new _ _) _;have A1:At W0 (w.heap.size+1) (.cells #[.int .i64 0,.int .i64 0,.int .i64 0,.int .i64 0] 115):=hW▸At.new' _ eZ;have A2:aL W0 b s fl ap ib:=hW▸aL.alloc (aL.alloc h _) _;have hB:Below w.heap.size w W0:=hW▸Below.alloc' (Below.alloc' aF _) _;clear hW h;obtain⟨l0,aB,aC⟩:=A0.two;obtain⟨l1,aP,aQ,gG,gH⟩:=A1.four;have fO:=A1.thaw 0;have fP:=A1.thaw 1;have gZ:=A1.thaw 2;have iq:=A1.thaw 3;obtain⟨l2,aR,aS,aT,aU,bC,bD,bA,bB⟩:=At.bxm A2;refine Q6 19 1 ?_
 (repeat (first|refine nW ?_ | refine nX ?_ (hc:=by intro w2 hS;first|with_reducible exact nR hS (Nk _ _ _ _ _ _ _ _ _ _)|with_reducible exact nR hS (iO _ _ _ _ _))|refine nY ?_))
 refine ak.dN ?_;intro w2 hS
 (clear l0 aB aC l1 aP aQ gG gH fO fP gZ iq);(replace hB:=Below.ay zn aD hS);replace A0:=At.keep BX hS;replace A1:=At.keep zD hS;clear hS;obtain⟨l0,aB,aC⟩:=At.two A0;obtain⟨l1,aP,aQ,gG,gH⟩:=At.four A1;have fO:=A1.thaw 0;have fP:=A1.thaw 1;have gZ:=A1.thaw 2;have iq:=A1.thaw 3
 refine x9 ?_;intro K hK;go_simp;refine hK _ _ (ak.bV ?_);clear hK K;generalize hW:World.setCell _ _ _=W1;replace A1:At W1 (w.heap.size+1) (.cells #[.int .i64 (Fx.len (s.c 21) (s.c 22) r0 0),.int .i64 (Fx.len (s.c 17) (s.c 18) r0 0),.int .i64 (Fx.len (s.c 15) (s.c 16) (-1) 0),.int .i64 (Fx.len (s.c 19) (s.c 20) (-1) 0)] 115):=hW▸At.set (At.set (At.set (At.set A1 0 _) 1 _) 2 _) 3 _;replace hB:Below w.heap.size w W1:=hW▸Below.setCell (Below.setCell (Below.setCell (Below.setCell hB eZ _) eZ _) eZ _) eZ _;clear hW l0 aB aC l1 aP aQ gG gH fO fP gZ iq A0;obtain⟨l1,aP,aQ,gG,gH⟩:=A1.four;go_wp2;refine bodyPost_ret (v:=.agg #[.int .i64 _,.int .i64 _,.int .i64 _,.int .i64 _]) (by simp[results,Tryz.results77,go_sem, *];first|done|exact⟨rfl,rfl⟩|exact⟨rfl,rfl,rfl,rfl⟩|rfl) rfl ⟨yF rfl rfl rfl rfl,?_⟩;exact Z5
theorem Ay(a b c d:Int)(w:World):(Instr.index 115 (.agg #[.int .i64 a,.int .i64 b,.int .i64 c,.int .i64 d]) (.int .i64 0)).run Tryz.prog w=.ok (.agg #[.int .i64 a,.int .i64 b]) w:=by kernel_rfl
theorem qM(a b c d:Int)(w:World):(Instr.index 115 (.agg #[.int .i64 a,.int .i64 b,.int .i64 c,.int .i64 d]) (.int .i64 1)).run Tryz.prog w=.ok (.agg #[.int .i64 c,.int .i64 d]) w:=by kernel_rfl
theorem aep(b:Nat)(s:Re.St)(fl ap:Value)(ib:Bool)(r0 r1 t0 t1:Int)(w:World)(h:aL w b s fl ap ib):Calls Tryz.prog 49 #[.pointer (some ⟨b,0,none⟩),.int .i64 0,.agg #[.int .i64 r0,.int .i64 r1],.agg #[.int .i64 t0,.int .i64 t1]] w λe w'=>e=.returned (.int .i64 (Fw.jk s 0 r0 r0 t0))/\Below w.heap.size w w':=by
 by_cases ht:t0 = -1
 . have ZI:=Ay
   subst ht;cases hf:Fx.jg (s.c 3) r0
   . go_enter Tryz.func49,Tryz.ntmps49
     go_upto_region 1 with(fail)
     generalize hW:World.alloc _ _=W0;have A0:At W0 w.heap.size (.cells #[.int .i64 r0,.int .i64 r1] 71):=hW▸At.alloc (At.new _ _) _;have A1:At W0 (w.heap.size+1) (.cells #[.int .i64 (-1),.int .i64 t1] 71):=by rw[<-hW];exact At.new' _ EM
     have A2:aL W0 b s fl ap ib:=hW▸aL.alloc (aL.alloc h _) _;have hB:Below w.heap.size w W0:=hW▸Below.alloc' (Below.alloc' aF _) _;clear hW h;obtain⟨l0,aB,aC⟩:=A0.two;obtain⟨l1,aP,aQ⟩:=A1.two;obtain⟨l2,aR,aS,aT,aU,bC,bD,bA,bB⟩:=At.bx0 A2;refine MZ [0,1,2,3,4,5,6,7,8,9,10,11,12] 13 14 ?_ (norm:=[⟨_,_,_,_,_,_⟩,⟨_,_,_,_,_,_⟩,⟨_,_,_,_,_,_⟩,⟨_,_,_,_,_,_⟩,⟨_,_,_,_,_,_⟩,⟨_,_,_,_,_,_⟩,⟨_,_,_,_,_,_⟩,⟨_,_,_,_,_,_⟩,⟨_,_,_,_,_,_⟩,⟨_,_,_,_,_,_⟩,⟨_,_,_,_,_,_⟩,⟨_,_,_,_,_,_⟩,⟨_,_,_,_,_,_⟩]) (tail:=[⟨_,_,_,_,_,_⟩,⟨_,_,_,_,_,_⟩]) (x:=.cells #[.int .i64 0,.int .i64 0,.int .i64 0,.int .i64 0,.int .i64 0,.int .i64 0] 112) (so:=⟨_,_,_,_,_,_⟩)
     (repeat (first|refine sbk ?_ | refine sbc ?_ (hc:=by intro w2 hS;first|with_reducible exact(dX _ _ _))|refine sbv ?_))
     refine ak.pX ?_;intro n0 w2 hn hA hS;(try simp only[bL,bM,bN,tks])
     ((have hB0:=hB);have o7:=dB (aV A0.lt hn);have ne1:=dB (aV A1.lt hn);have o8:=dB (aV A2.lt hn);(clear l0 aB aC l1 aP aQ l2 aR aS aT aU bC bD bA bB);(replace hB:=Below.ay zn aD hS);replace A0:=At.keep BX hS;replace A1:=At.keep zD hS;replace A2:=At.keep Bo hS;clear hS;obtain⟨l0,aB,aC⟩:=At.two A0;obtain⟨l1,aP,aQ⟩:=At.two A1;obtain⟨l2,aR,aS,aT,aU,bC,bD,bA,bB⟩:=At.bx0 A2;have A3:=hA;clear hA;obtain⟨l3,bP,bQ,dO,dP,dQ,dU⟩:=At.six A3;have gW:=A3.thaw 0;have gX:=A3.thaw 1;have iI:=A3.thaw 2;have iJ:=A3.thaw 3;have iK:=A3.thaw 4;have iL:=A3.thaw 5;have g0:=aJ Z4q hn;clear hB0)
     (refine ak.oz aX ?_;intro K hK;go_simp;refine hK _ _ ?_;clear hK K)
     refine x9 ?_;intro K hK;go_simp;refine hK _ _ (ak.bV ?_);clear hK K
     (generalize hW:World.setCell (World.setCell (World.setCell (World.setCell (World.setCell (World.setCell _ _ _) _ _) _ _) _ _) _ _) _ _=W1;clear l0 aB aC l1 aP aQ l2 aR aS aT aU bC bD bA bB l3 bP bQ dO dP dQ dU gW gX iI iJ iK iL;replace A3:At W1 _ _:=hW▸(At.Kn A3 _ _ _ _ _ _);replace A0:At W1 _ _:=hW▸(At.off (At.off (At.off (At.off (At.off (At.off A0 o7 _ _) o7 _ _) o7 _ _) o7 _ _) o7 _ _) o7 _ _);replace A1:At W1 _ _:=hW▸(At.off (At.off (At.off (At.off (At.off (At.off A1 ne1 _ _) ne1 _ _) ne1 _ _) ne1 _ _) ne1 _ _) ne1 _ _);replace A2:At W1 _ _:=hW▸(At.off (At.off (At.off (At.off (At.off (At.off A2 o8 _ _) o8 _ _) o8 _ _) o8 _ _) o8 _ _) o8 _ _);replace hB:Below w.heap.size w W1:=hW▸(Below.setCell (Below.setCell (Below.setCell (Below.setCell (Below.setCell (Below.setCell hB g0 _) g0 _) g0 _) g0 _) g0 _) g0 _);clear hW o7 ne1 o8;obtain⟨l0,aB,aC⟩:=At.two A0;obtain⟨l1,aP,aQ⟩:=At.two A1;obtain⟨l2,aR,aS,aT,aU,bC,bD,bA,bB⟩:=At.bx0 A2;obtain⟨l3,bP,bQ,dO,dP,dQ,dU⟩:=At.six A3)
     have HF:=ah hf;clear hf
     go_upto_region 4 with(fail)
     refine xW ?_
     (repeat (first|refine nW ?_ | refine nX ?_ (hc:=by intro w2 hS;first|with_reducible exact nR hS (jq _ _ _ _ _ _ _ _))|refine nY ?_))
     refine ak.cK ?_;intro w2 hS
     (clear l0 aB aC l1 aP aQ l2 aR aS aT aU bC bD bA bB l3 bP bQ dO dP dQ dU);(replace hB:=Below.ay zn aD hS);replace A0:=At.keep BX hS;replace A1:=At.keep zD hS;replace A2:=At.keep Bo hS;replace A3:=At.keep MN hS;clear hS;obtain⟨l0,aB,aC⟩:=At.two A0;obtain⟨l1,aP,aQ⟩:=At.two A1;obtain⟨l2,aR,aS,aT,aU,bC,bD,bA,bB⟩:=At.bx0 A2;obtain⟨l3,bP,bQ,dO,dP,dQ,dU⟩:=At.six A3
     rw[HF.out]
     go_upto_region 7 with(fail)
     have HX:aL _ b s fl ap ib:=A2;refine xW ?_
     (repeat (first|refine nW ?_ | refine nX ?_ (hc:=by intro w2 hS;first|with_reducible exact nR hS (gy _ _ _ _ _ _ _ _ Z4z)|with_reducible exact nR hS (dX _ _ _))|refine nY ?_))
     refine ak.cK ?_;intro w2 hS
     (clear l0 aB aC l1 aP aQ l2 aR aS aT aU bC bD bA bB l3 bP bQ dO dP dQ dU);(replace hB:=Below.ay zn aD hS);replace A0:=At.keep BX hS;replace A1:=At.keep zD hS;replace A2:=At.keep Bo hS;replace A3:=At.keep MN hS;clear hS;obtain⟨l0,aB,aC⟩:=At.two A0;obtain⟨l1,aP,aQ⟩:=At.two A1;obtain⟨l2,aR,aS,aT,aU,bC,bD,bA,bB⟩:=At.bx0 A2;obtain⟨l3,bP,bQ,dO,dP,dQ,dU⟩:=At.six A3
     go_upto_region 8 with(fail)
     refine xW ?_
     (repeat (first|refine nW ?_ | refine nX ?_ (hc:=by intro w2 hS;first|with_reducible exact nR hS (rX _ _ _ _ _ _ _ _ _))|refine nY ?_))
     refine ak.cK ?_;intro w2 hS
     (clear l0 aB aC l1 aP aQ l2 aR aS aT aU bC bD bA bB l3 bP bQ dO dP dQ dU);(replace hB:=Below.ay zn aD hS);replace A0:=At.keep BX hS;replace A1:=At.keep zD hS;replace A2:=At.keep Bo hS;replace A3:=At.keep MN hS;clear hS;obtain⟨l0,aB,aC⟩:=At.two A0;obtain⟨l1,aP,aQ⟩:=At.two A1;obtain⟨l2,aR,aS,aT,aU,bC,bD,bA,bB⟩:=At.bx0 A2;obtain⟨l3,bP,bQ,dO,dP,dQ,dU⟩:=At.six A3
     go_wp2
     go_ret
     refine⟨bO ?_,?_⟩
     . unfold Fw.jk Fw.zJ;rw[if_neg (λq=>q rfl),if_neg (by rw[HF.out];simp),if_pos rfl];(try simp only[uR,rH]);rfl
     . exact Z5
   . go_enter Tryz.func49,Tryz.ntmps49
     go_upto_region 1 with(fail)
     generalize hW:World.alloc _ _=W0;have A0:At W0 w.heap.size (.cells #[.int .i64 r0,.int .i64 r1] 71):=hW▸At.alloc (At.new _ _) _;have A1:At W0 (w.heap.size+1) (.cells #[.int .i64 (-1),.int .i64 t1] 71):=by rw[<-hW];exact At.new' _ EM
     have A2:aL W0 b s fl ap ib:=hW▸aL.alloc (aL.alloc h _) _;have hB:Below w.heap.size w W0:=hW▸Below.alloc' (Below.alloc' aF _) _;clear hW h;obtain⟨l0,aB,aC⟩:=A0.two;obtain⟨l1,aP,aQ⟩:=A1.two;obtain⟨l2,aR,aS,aT,aU,bC,bD,bA,bB⟩:=At.bx0 A2;refine MZ [0,1,2,3,4,5,6,7,8,9,10,11,12] 13 14 ?_ (norm:=[⟨_,_,_,_,_,_⟩,⟨_,_,_,_,_,_⟩,⟨_,_,_,_,_,_⟩,⟨_,_,_,_,_,_⟩,⟨_,_,_,_,_,_⟩,⟨_,_,_,_,_,_⟩,⟨_,_,_,_,_,_⟩,⟨_,_,_,_,_,_⟩,⟨_,_,_,_,_,_⟩,⟨_,_,_,_,_,_⟩,⟨_,_,_,_,_,_⟩,⟨_,_,_,_,_,_⟩,⟨_,_,_,_,_,_⟩]) (tail:=[⟨_,_,_,_,_,_⟩,⟨_,_,_,_,_,_⟩]) (x:=.cells #[.int .i64 0,.int .i64 0,.int .i64 0,.int .i64 0,.int .i64 0,.int .i64 0] 112) (so:=⟨_,_,_,_,_,_⟩)
     (repeat (first|refine sbk ?_ | refine sbc ?_ (hc:=by intro w2 hS;first|with_reducible exact(dX _ _ _))|refine sbv ?_))
     refine ak.pX ?_;intro n0 w2 hn hA hS;(try simp only[bL,bM,bN,tks])
     ((have hB0:=hB);have o7:=dB (aV A0.lt hn);have ne1:=dB (aV A1.lt hn);have o8:=dB (aV A2.lt hn);(clear l0 aB aC l1 aP aQ l2 aR aS aT aU bC bD bA bB);(replace hB:=Below.ay zn aD hS);replace A0:=At.keep BX hS;replace A1:=At.keep zD hS;replace A2:=At.keep Bo hS;clear hS;obtain⟨l0,aB,aC⟩:=At.two A0;obtain⟨l1,aP,aQ⟩:=At.two A1;obtain⟨l2,aR,aS,aT,aU,bC,bD,bA,bB⟩:=At.bx0 A2;have A3:=hA;clear hA;obtain⟨l3,bP,bQ,dO,dP,dQ,dU⟩:=At.six A3;have gW:=A3.thaw 0;have gX:=A3.thaw 1;have iI:=A3.thaw 2;have iJ:=A3.thaw 3;have iK:=A3.thaw 4;have iL:=A3.thaw 5;have g0:=aJ Z4q hn;clear hB0)
     (refine ak.oz aX ?_;intro K hK;go_simp;refine hK _ _ ?_;clear hK K)
     refine x9 ?_;intro K hK;go_simp;refine hK _ _ (ak.bV ?_);clear hK K
     (generalize hW:World.setCell (World.setCell (World.setCell (World.setCell (World.setCell (World.setCell _ _ _) _ _) _ _) _ _) _ _) _ _=W1;clear l0 aB aC l1 aP aQ l2 aR aS aT aU bC bD bA bB l3 bP bQ dO dP dQ dU gW gX iI iJ iK iL;replace A3:At W1 _ _:=hW▸(At.Kn A3 _ _ _ _ _ _);replace A0:At W1 _ _:=hW▸(At.off (At.off (At.off (At.off (At.off (At.off A0 o7 _ _) o7 _ _) o7 _ _) o7 _ _) o7 _ _) o7 _ _);replace A1:At W1 _ _:=hW▸(At.off (At.off (At.off (At.off (At.off (At.off A1 ne1 _ _) ne1 _ _) ne1 _ _) ne1 _ _) ne1 _ _) ne1 _ _);replace A2:At W1 _ _:=hW▸(At.off (At.off (At.off (At.off (At.off (At.off A2 o8 _ _) o8 _ _) o8 _ _) o8 _ _) o8 _ _) o8 _ _);replace hB:Below w.heap.size w W1:=hW▸(Below.setCell (Below.setCell (Below.setCell (Below.setCell (Below.setCell (Below.setCell hB g0 _) g0 _) g0 _) g0 _) g0 _) g0 _);clear hW o7 ne1 o8;obtain⟨l0,aB,aC⟩:=At.two A0;obtain⟨l1,aP,aQ⟩:=At.two A1;obtain⟨l2,aR,aS,aT,aU,bC,bD,bA,bB⟩:=At.bx0 A2;obtain⟨l3,bP,bQ,dO,dP,dQ,dU⟩:=At.six A3)
     have HF:=ah hf;clear hf
     go_upto_region 4 with(fail)
     refine xW ?_
     (repeat (first|refine nW ?_ | refine nX ?_ (hc:=by intro w2 hS;first|with_reducible exact nR hS (jq _ _ _ _ _ _ _ _))|refine nY ?_))
     refine ak.cK ?_;intro w2 hS
     (clear l0 aB aC l1 aP aQ l2 aR aS aT aU bC bD bA bB l3 bP bQ dO dP dQ dU);(replace hB:=Below.ay zn aD hS);replace A0:=At.keep BX hS;replace A1:=At.keep zD hS;replace A2:=At.keep Bo hS;replace A3:=At.keep MN hS;clear hS;obtain⟨l0,aB,aC⟩:=At.two A0;obtain⟨l1,aP,aQ⟩:=At.two A1;obtain⟨l2,aR,aS,aT,aU,bC,bD,bA,bB⟩:=At.bx0 A2;obtain⟨l3,bP,bQ,dO,dP,dQ,dU⟩:=At.six A3
     rw[HF.out]
     go_upto_region 5 with(fail)
     refine xW ?_
     (repeat (first|refine nW ?_ | refine nX ?_ (hc:=by intro w2 hS;first|with_reducible exact nR hS (nI _ _ _ _ _)|with_reducible exact nR hS (rX _ _ _ _ _ _ _ _ _))|refine nY ?_))
     refine ak.cK ?_;intro w2 hS
     (clear l0 aB aC l1 aP aQ l2 aR aS aT aU bC bD bA bB l3 bP bQ dO dP dQ dU);(replace hB:=Below.ay zn aD hS);replace A0:=At.keep BX hS;replace A1:=At.keep zD hS;replace A2:=At.keep Bo hS;replace A3:=At.keep MN hS;clear hS;obtain⟨l0,aB,aC⟩:=At.two A0;obtain⟨l1,aP,aQ⟩:=At.two A1;obtain⟨l2,aR,aS,aT,aU,bC,bD,bA,bB⟩:=At.bx0 A2;obtain⟨l3,bP,bQ,dO,dP,dQ,dU⟩:=At.six A3
     go_wp2
     go_ret
     refine⟨bO ?_,?_⟩
     . unfold Fw.jk Fw.zJ;rw[if_neg (λq=>q rfl),if_pos HF.out];rfl
     . exact Z5
 . have hne:(t0 != -1)=true:=by simpa using ht
   go_enter Tryz.func49,Tryz.ntmps49
   go_upto_region 1 with(fail)
   generalize hW:World.alloc _ _=W0;have A0:At W0 w.heap.size (.cells #[.int .i64 r0,.int .i64 r1] 71):=hW▸At.alloc (At.new _ _) _;have A1:At W0 (w.heap.size+1) (.cells #[.int .i64 t0,.int .i64 t1] 71):=by rw[<-hW];exact At.new' _ EM
   have A2:aL W0 b s fl ap ib:=hW▸aL.alloc (aL.alloc h _) _;have hB:Below w.heap.size w W0:=hW▸Below.alloc' (Below.alloc' aF _) _;clear hW h;obtain⟨l0,aB,aC⟩:=A0.two;obtain⟨l1,aP,aQ⟩:=A1.two;obtain⟨l2,aR,aS,aT,aU,bC,bD,bA,bB⟩:=At.bx0 A2;refine MZ [0,1,2,3,4,5,6,7,8,9,10,11,12] 13 14 ?_ (norm:=[⟨_,_,_,_,_,_⟩,⟨_,_,_,_,_,_⟩,⟨_,_,_,_,_,_⟩,⟨_,_,_,_,_,_⟩,⟨_,_,_,_,_,_⟩,⟨_,_,_,_,_,_⟩,⟨_,_,_,_,_,_⟩,⟨_,_,_,_,_,_⟩,⟨_,_,_,_,_,_⟩,⟨_,_,_,_,_,_⟩,⟨_,_,_,_,_,_⟩,⟨_,_,_,_,_,_⟩,⟨_,_,_,_,_,_⟩]) (tail:=[⟨_,_,_,_,_,_⟩,⟨_,_,_,_,_,_⟩]) (x:=.cells #[.int .i64 0,.int .i64 0,.int .i64 0,.int .i64 0,.int .i64 0,.int .i64 0] 112) (so:=⟨_,_,_,_,_,_⟩)
   (repeat (first|refine sbk ?_ | refine sbc ?_ (hc:=by intro w2 hS;first|with_reducible exact(dX _ _ _))|refine sbv ?_))
   refine ak.pX ?_;intro n0 w2 hn hA hS;(try simp only[bL,bM,bN,tks])
   ((have hB0:=hB);have o7:=dB (aV A0.lt hn);have ne1:=dB (aV A1.lt hn);have o8:=dB (aV A2.lt hn);(clear l0 aB aC l1 aP aQ l2 aR aS aT aU bC bD bA bB);(replace hB:=Below.ay zn aD hS);replace A0:=At.keep BX hS;replace A1:=At.keep zD hS;replace A2:=At.keep Bo hS;clear hS;obtain⟨l0,aB,aC⟩:=At.two A0;obtain⟨l1,aP,aQ⟩:=At.two A1;obtain⟨l2,aR,aS,aT,aU,bC,bD,bA,bB⟩:=At.bx0 A2;have A3:=hA;clear hA;obtain⟨l3,bP,bQ,dO,dP,dQ,dU⟩:=At.six A3;have gW:=A3.thaw 0;have gX:=A3.thaw 1;have iI:=A3.thaw 2;have iJ:=A3.thaw 3;have iK:=A3.thaw 4;have iL:=A3.thaw 5;have g0:=aJ Z4q hn;clear hB0)
   (refine ak.oz aX ?_;intro K hK;go_simp;refine hK _ _ ?_;clear hK K)
   refine x9 ?_;intro K hK;go_simp;refine hK _ _ (ak.bV ?_);clear hK K
   (generalize hW:World.setCell (World.setCell (World.setCell (World.setCell (World.setCell (World.setCell _ _ _) _ _) _ _) _ _) _ _) _ _=W1;clear l0 aB aC l1 aP aQ l2 aR aS aT aU bC bD bA bB l3 bP bQ dO dP dQ dU gW gX iI iJ iK iL;replace A3:At W1 _ _:=hW▸(At.Kn A3 _ _ _ _ _ _);replace A0:At W1 _ _:=hW▸(At.off (At.off (At.off (At.off (At.off (At.off A0 o7 _ _) o7 _ _) o7 _ _) o7 _ _) o7 _ _) o7 _ _);replace A1:At W1 _ _:=hW▸(At.off (At.off (At.off (At.off (At.off (At.off A1 ne1 _ _) ne1 _ _) ne1 _ _) ne1 _ _) ne1 _ _) ne1 _ _);replace A2:At W1 _ _:=hW▸(At.off (At.off (At.off (At.off (At.off (At.off A2 o8 _ _) o8 _ _) o8 _ _) o8 _ _) o8 _ _) o8 _ _);replace hB:Below w.heap.size w W1:=hW▸(Below.setCell (Below.setCell (Below.setCell (Below.setCell (Below.setCell (Below.setCell hB g0 _) g0 _) g0 _) g0 _) g0 _) g0 _);clear hW o7 ne1 o8;obtain⟨l0,aB,aC⟩:=At.two A0;obtain⟨l1,aP,aQ⟩:=At.two A1;obtain⟨l2,aR,aS,aT,aU,bC,bD,bA,bB⟩:=At.bx0 A2;obtain⟨l3,bP,bQ,dO,dP,dQ,dU⟩:=At.six A3)
   go_wp2
   go_ret
   refine⟨bO ?_,?_⟩
   . unfold Fw.jk;rw[if_pos ht];(try simp only[uR,rH]);rfl
   . exact Z5
theorem aer(b:Nat)(s:Re.St)(fl ap:Value)(ib:Bool)(r0 r1 t0 t1:Int)(w:World)(h:aL w b s fl ap ib):Calls Tryz.prog 49 #[.pointer (some ⟨b,0,none⟩),.int .i64 1,.agg #[.int .i64 r0,.int .i64 r1],.agg #[.int .i64 t0,.int .i64 t1]] w λe w'=>e=.returned (.int .i64 (Fw.jk s 1 r0 r1 t1))/\Below w.heap.size w w':=by
 by_cases ht:t1 = -1
 . have ZI:=Ay
   subst ht;cases hf:Fx.jg (s.c 5) r1
   . go_enter Tryz.func49,Tryz.ntmps49
     go_upto_region 1 with(fail)
     generalize hW:World.alloc _ _=W0;have A0:At W0 w.heap.size (.cells #[.int .i64 r0,.int .i64 r1] 71):=hW▸At.alloc (At.new _ _) _;have A1:At W0 (w.heap.size+1) (.cells #[.int .i64 t0,.int .i64 (-1)] 71):=by rw[<-hW];exact At.new' _ EM
     have A2:aL W0 b s fl ap ib:=hW▸aL.alloc (aL.alloc h _) _;have hB:Below w.heap.size w W0:=hW▸Below.alloc' (Below.alloc' aF _) _;clear hW h;obtain⟨l0,aB,aC⟩:=A0.two;obtain⟨l1,aP,aQ⟩:=A1.two;obtain⟨l2,aR,aS,aT,aU,bC,bD,bA,bB⟩:=At.bx1 A2;refine MZ [0,1,2,3,4,5,6,7,8,9,10,11,12] 13 14 ?_ (norm:=[⟨_,_,_,_,_,_⟩,⟨_,_,_,_,_,_⟩,⟨_,_,_,_,_,_⟩,⟨_,_,_,_,_,_⟩,⟨_,_,_,_,_,_⟩,⟨_,_,_,_,_,_⟩,⟨_,_,_,_,_,_⟩,⟨_,_,_,_,_,_⟩,⟨_,_,_,_,_,_⟩,⟨_,_,_,_,_,_⟩,⟨_,_,_,_,_,_⟩,⟨_,_,_,_,_,_⟩,⟨_,_,_,_,_,_⟩]) (tail:=[⟨_,_,_,_,_,_⟩,⟨_,_,_,_,_,_⟩]) (x:=.cells #[.int .i64 0,.int .i64 0,.int .i64 0,.int .i64 0,.int .i64 0,.int .i64 0] 112) (so:=⟨_,_,_,_,_,_⟩)
     (repeat (first|refine sbk ?_ | refine sbc ?_ (hc:=by intro w2 hS;first|with_reducible exact(dX _ _ _))|refine sbv ?_))
     refine ak.pX ?_;intro n0 w2 hn hA hS;(try simp only[bL,bM,bN,tks])
     ((have hB0:=hB);have o7:=dB (aV A0.lt hn);have ne1:=dB (aV A1.lt hn);have o8:=dB (aV A2.lt hn);(clear l0 aB aC l1 aP aQ l2 aR aS aT aU bC bD bA bB);(replace hB:=Below.ay zn aD hS);replace A0:=At.keep BX hS;replace A1:=At.keep zD hS;replace A2:=At.keep Bo hS;clear hS;obtain⟨l0,aB,aC⟩:=At.two A0;obtain⟨l1,aP,aQ⟩:=At.two A1;obtain⟨l2,aR,aS,aT,aU,bC,bD,bA,bB⟩:=At.bx1 A2;have A3:=hA;clear hA;obtain⟨l3,bP,bQ,dO,dP,dQ,dU⟩:=At.six A3;have gW:=A3.thaw 0;have gX:=A3.thaw 1;have iI:=A3.thaw 2;have iJ:=A3.thaw 3;have iK:=A3.thaw 4;have iL:=A3.thaw 5;have g0:=aJ Z4q hn;clear hB0)
     (refine ak.oz aX ?_;intro K hK;go_simp;refine hK _ _ ?_;clear hK K)
     refine x9 ?_;intro K hK;go_simp;refine hK _ _ (ak.bV ?_);clear hK K
     (generalize hW:World.setCell (World.setCell (World.setCell (World.setCell (World.setCell (World.setCell _ _ _) _ _) _ _) _ _) _ _) _ _=W1;clear l0 aB aC l1 aP aQ l2 aR aS aT aU bC bD bA bB l3 bP bQ dO dP dQ dU gW gX iI iJ iK iL;replace A3:At W1 _ _:=hW▸(At.Kn A3 _ _ _ _ _ _);replace A0:At W1 _ _:=hW▸(At.off (At.off (At.off (At.off (At.off (At.off A0 o7 _ _) o7 _ _) o7 _ _) o7 _ _) o7 _ _) o7 _ _);replace A1:At W1 _ _:=hW▸(At.off (At.off (At.off (At.off (At.off (At.off A1 ne1 _ _) ne1 _ _) ne1 _ _) ne1 _ _) ne1 _ _) ne1 _ _);replace A2:At W1 _ _:=hW▸(At.off (At.off (At.off (At.off (At.off (At.off A2 o8 _ _) o8 _ _) o8 _ _) o8 _ _) o8 _ _) o8 _ _);replace hB:Below w.heap.size w W1:=hW▸(Below.setCell (Below.setCell (Below.setCell (Below.setCell (Below.setCell (Below.setCell hB g0 _) g0 _) g0 _) g0 _) g0 _) g0 _);clear hW o7 ne1 o8;obtain⟨l0,aB,aC⟩:=At.two A0;obtain⟨l1,aP,aQ⟩:=At.two A1;obtain⟨l2,aR,aS,aT,aU,bC,bD,bA,bB⟩:=At.bx1 A2;obtain⟨l3,bP,bQ,dO,dP,dQ,dU⟩:=At.six A3)
     have HF:=ah hf;clear hf
     go_upto_region 4 with(fail)
     refine xW ?_
     (repeat (first|refine nW ?_ | refine nX ?_ (hc:=by intro w2 hS;first|with_reducible exact nR hS (jq _ _ _ _ _ _ _ _))|refine nY ?_))
     refine ak.cK ?_;intro w2 hS
     (clear l0 aB aC l1 aP aQ l2 aR aS aT aU bC bD bA bB l3 bP bQ dO dP dQ dU);(replace hB:=Below.ay zn aD hS);replace A0:=At.keep BX hS;replace A1:=At.keep zD hS;replace A2:=At.keep Bo hS;replace A3:=At.keep MN hS;clear hS;obtain⟨l0,aB,aC⟩:=At.two A0;obtain⟨l1,aP,aQ⟩:=At.two A1;obtain⟨l2,aR,aS,aT,aU,bC,bD,bA,bB⟩:=At.bx1 A2;obtain⟨l3,bP,bQ,dO,dP,dQ,dU⟩:=At.six A3
     rw[HF.out];go_wp2
     go_ret
     refine⟨bO ?_,?_⟩
     . unfold Fw.jk Fw.zJ;rw[if_neg (λq=>q rfl),if_neg (by rw[HF.out];simp),if_neg aH]
     . exact Z5
   . go_enter Tryz.func49,Tryz.ntmps49
     go_upto_region 1 with(fail)
     generalize hW:World.alloc _ _=W0;have A0:At W0 w.heap.size (.cells #[.int .i64 r0,.int .i64 r1] 71):=hW▸At.alloc (At.new _ _) _;have A1:At W0 (w.heap.size+1) (.cells #[.int .i64 t0,.int .i64 (-1)] 71):=by rw[<-hW];exact At.new' _ EM
     have A2:aL W0 b s fl ap ib:=hW▸aL.alloc (aL.alloc h _) _;have hB:Below w.heap.size w W0:=hW▸Below.alloc' (Below.alloc' aF _) _;clear hW h;obtain⟨l0,aB,aC⟩:=A0.two;obtain⟨l1,aP,aQ⟩:=A1.two;obtain⟨l2,aR,aS,aT,aU,bC,bD,bA,bB⟩:=At.bx1 A2;refine MZ [0,1,2,3,4,5,6,7,8,9,10,11,12] 13 14 ?_ (norm:=[⟨_,_,_,_,_,_⟩,⟨_,_,_,_,_,_⟩,⟨_,_,_,_,_,_⟩,⟨_,_,_,_,_,_⟩,⟨_,_,_,_,_,_⟩,⟨_,_,_,_,_,_⟩,⟨_,_,_,_,_,_⟩,⟨_,_,_,_,_,_⟩,⟨_,_,_,_,_,_⟩,⟨_,_,_,_,_,_⟩,⟨_,_,_,_,_,_⟩,⟨_,_,_,_,_,_⟩,⟨_,_,_,_,_,_⟩]) (tail:=[⟨_,_,_,_,_,_⟩,⟨_,_,_,_,_,_⟩]) (x:=.cells #[.int .i64 0,.int .i64 0,.int .i64 0,.int .i64 0,.int .i64 0,.int .i64 0] 112) (so:=⟨_,_,_,_,_,_⟩)
     (repeat (first|refine sbk ?_ | refine sbc ?_ (hc:=by intro w2 hS;first|with_reducible exact(dX _ _ _))|refine sbv ?_))
     refine ak.pX ?_;intro n0 w2 hn hA hS;(try simp only[bL,bM,bN,tks])
     ((have hB0:=hB);have o7:=dB (aV A0.lt hn);have ne1:=dB (aV A1.lt hn);have o8:=dB (aV A2.lt hn);(clear l0 aB aC l1 aP aQ l2 aR aS aT aU bC bD bA bB);(replace hB:=Below.ay zn aD hS);replace A0:=At.keep BX hS;replace A1:=At.keep zD hS;replace A2:=At.keep Bo hS;clear hS;obtain⟨l0,aB,aC⟩:=At.two A0;obtain⟨l1,aP,aQ⟩:=At.two A1;obtain⟨l2,aR,aS,aT,aU,bC,bD,bA,bB⟩:=At.bx1 A2;have A3:=hA;clear hA;obtain⟨l3,bP,bQ,dO,dP,dQ,dU⟩:=At.six A3;have gW:=A3.thaw 0;have gX:=A3.thaw 1;have iI:=A3.thaw 2;have iJ:=A3.thaw 3;have iK:=A3.thaw 4;have iL:=A3.thaw 5;have g0:=aJ Z4q hn;clear hB0)
     (refine ak.oz aX ?_;intro K hK;go_simp;refine hK _ _ ?_;clear hK K)
     refine x9 ?_;intro K hK;go_simp;refine hK _ _ (ak.bV ?_);clear hK K
     (generalize hW:World.setCell (World.setCell (World.setCell (World.setCell (World.setCell (World.setCell _ _ _) _ _) _ _) _ _) _ _) _ _=W1;clear l0 aB aC l1 aP aQ l2 aR aS aT aU bC bD bA bB l3 bP bQ dO dP dQ dU gW gX iI iJ iK iL;replace A3:At W1 _ _:=hW▸(At.Kn A3 _ _ _ _ _ _);replace A0:At W1 _ _:=hW▸(At.off (At.off (At.off (At.off (At.off (At.off A0 o7 _ _) o7 _ _) o7 _ _) o7 _ _) o7 _ _) o7 _ _);replace A1:At W1 _ _:=hW▸(At.off (At.off (At.off (At.off (At.off (At.off A1 ne1 _ _) ne1 _ _) ne1 _ _) ne1 _ _) ne1 _ _) ne1 _ _);replace A2:At W1 _ _:=hW▸(At.off (At.off (At.off (At.off (At.off (At.off A2 o8 _ _) o8 _ _) o8 _ _) o8 _ _) o8 _ _) o8 _ _);replace hB:Below w.heap.size w W1:=hW▸(Below.setCell (Below.setCell (Below.setCell (Below.setCell (Below.setCell (Below.setCell hB g0 _) g0 _) g0 _) g0 _) g0 _) g0 _);clear hW o7 ne1 o8;obtain⟨l0,aB,aC⟩:=At.two A0;obtain⟨l1,aP,aQ⟩:=At.two A1;obtain⟨l2,aR,aS,aT,aU,bC,bD,bA,bB⟩:=At.bx1 A2;obtain⟨l3,bP,bQ,dO,dP,dQ,dU⟩:=At.six A3)
     have HF:=ah hf;clear hf
     go_upto_region 4 with(fail)
     refine xW ?_
     (repeat (first|refine nW ?_ | refine nX ?_ (hc:=by intro w2 hS;first|with_reducible exact nR hS (jq _ _ _ _ _ _ _ _))|refine nY ?_))
     refine ak.cK ?_;intro w2 hS
     (clear l0 aB aC l1 aP aQ l2 aR aS aT aU bC bD bA bB l3 bP bQ dO dP dQ dU);(replace hB:=Below.ay zn aD hS);replace A0:=At.keep BX hS;replace A1:=At.keep zD hS;replace A2:=At.keep Bo hS;replace A3:=At.keep MN hS;clear hS;obtain⟨l0,aB,aC⟩:=At.two A0;obtain⟨l1,aP,aQ⟩:=At.two A1;obtain⟨l2,aR,aS,aT,aU,bC,bD,bA,bB⟩:=At.bx1 A2;obtain⟨l3,bP,bQ,dO,dP,dQ,dU⟩:=At.six A3
     rw[HF.out]
     go_upto_region 5 with(fail)
     refine xW ?_
     (repeat (first|refine nW ?_ | refine nX ?_ (hc:=by intro w2 hS;first|with_reducible exact nR hS (nI _ _ _ _ _)|with_reducible exact nR hS (rX _ _ _ _ _ _ _ _ _))|refine nY ?_))
     refine ak.cK ?_;intro w2 hS
     (clear l0 aB aC l1 aP aQ l2 aR aS aT aU bC bD bA bB l3 bP bQ dO dP dQ dU);(replace hB:=Below.ay zn aD hS);replace A0:=At.keep BX hS;replace A1:=At.keep zD hS;replace A2:=At.keep Bo hS;replace A3:=At.keep MN hS;clear hS;obtain⟨l0,aB,aC⟩:=At.two A0;obtain⟨l1,aP,aQ⟩:=At.two A1;obtain⟨l2,aR,aS,aT,aU,bC,bD,bA,bB⟩:=At.bx1 A2;obtain⟨l3,bP,bQ,dO,dP,dQ,dU⟩:=At.six A3
     go_wp2
     go_ret
     refine⟨bO ?_,?_⟩
     . unfold Fw.jk Fw.zJ;rw[if_neg (λq=>q rfl),if_pos HF.out];rfl
     . exact Z5
 . have hne:(t1 != -1)=true:=by simpa using ht
   go_enter Tryz.func49,Tryz.ntmps49
   go_upto_region 1 with(fail)
   generalize hW:World.alloc _ _=W0;have A0:At W0 w.heap.size (.cells #[.int .i64 r0,.int .i64 r1] 71):=hW▸At.alloc (At.new _ _) _;have A1:At W0 (w.heap.size+1) (.cells #[.int .i64 t0,.int .i64 t1] 71):=by rw[<-hW];exact At.new' _ EM
   have A2:aL W0 b s fl ap ib:=hW▸aL.alloc (aL.alloc h _) _;have hB:Below w.heap.size w W0:=hW▸Below.alloc' (Below.alloc' aF _) _;clear hW h;obtain⟨l0,aB,aC⟩:=A0.two;obtain⟨l1,aP,aQ⟩:=A1.two;obtain⟨l2,aR,aS,aT,aU,bC,bD,bA,bB⟩:=At.bx1 A2;refine MZ [0,1,2,3,4,5,6,7,8,9,10,11,12] 13 14 ?_ (norm:=[⟨_,_,_,_,_,_⟩,⟨_,_,_,_,_,_⟩,⟨_,_,_,_,_,_⟩,⟨_,_,_,_,_,_⟩,⟨_,_,_,_,_,_⟩,⟨_,_,_,_,_,_⟩,⟨_,_,_,_,_,_⟩,⟨_,_,_,_,_,_⟩,⟨_,_,_,_,_,_⟩,⟨_,_,_,_,_,_⟩,⟨_,_,_,_,_,_⟩,⟨_,_,_,_,_,_⟩,⟨_,_,_,_,_,_⟩]) (tail:=[⟨_,_,_,_,_,_⟩,⟨_,_,_,_,_,_⟩]) (x:=.cells #[.int .i64 0,.int .i64 0,.int .i64 0,.int .i64 0,.int .i64 0,.int .i64 0] 112) (so:=⟨_,_,_,_,_,_⟩)
   (repeat (first|refine sbk ?_ | refine sbc ?_ (hc:=by intro w2 hS;first|with_reducible exact(dX _ _ _))|refine sbv ?_))
   refine ak.pX ?_;intro n0 w2 hn hA hS;(try simp only[bL,bM,bN,tks])
   ((have hB0:=hB);have o7:=dB (aV A0.lt hn);have ne1:=dB (aV A1.lt hn);have o8:=dB (aV A2.lt hn);(clear l0 aB aC l1 aP aQ l2 aR aS aT aU bC bD bA bB);(replace hB:=Below.ay zn aD hS);replace A0:=At.keep BX hS;replace A1:=At.keep zD hS;replace A2:=At.keep Bo hS;clear hS;obtain⟨l0,aB,aC⟩:=At.two A0;obtain⟨l1,aP,aQ⟩:=At.two A1;obtain⟨l2,aR,aS,aT,aU,bC,bD,bA,bB⟩:=At.bx1 A2;have A3:=hA;clear hA;obtain⟨l3,bP,bQ,dO,dP,dQ,dU⟩:=At.six A3;have gW:=A3.thaw 0;have gX:=A3.thaw 1;have iI:=A3.thaw 2;have iJ:=A3.thaw 3;have iK:=A3.thaw 4;have iL:=A3.thaw 5;have g0:=aJ Z4q hn;clear hB0)
   (refine ak.oz aX ?_;intro K hK;go_simp;refine hK _ _ ?_;clear hK K)
   refine x9 ?_;intro K hK;go_simp;refine hK _ _ (ak.bV ?_);clear hK K
   (generalize hW:World.setCell (World.setCell (World.setCell (World.setCell (World.setCell (World.setCell _ _ _) _ _) _ _) _ _) _ _) _ _=W1;clear l0 aB aC l1 aP aQ l2 aR aS aT aU bC bD bA bB l3 bP bQ dO dP dQ dU gW gX iI iJ iK iL;replace A3:At W1 _ _:=hW▸(At.Kn A3 _ _ _ _ _ _);replace A0:At W1 _ _:=hW▸(At.off (At.off (At.off (At.off (At.off (At.off A0 o7 _ _) o7 _ _) o7 _ _) o7 _ _) o7 _ _) o7 _ _);replace A1:At W1 _ _:=hW▸(At.off (At.off (At.off (At.off (At.off (At.off A1 ne1 _ _) ne1 _ _) ne1 _ _) ne1 _ _) ne1 _ _) ne1 _ _);replace A2:At W1 _ _:=hW▸(At.off (At.off (At.off (At.off (At.off (At.off A2 o8 _ _) o8 _ _) o8 _ _) o8 _ _) o8 _ _) o8 _ _);replace hB:Below w.heap.size w W1:=hW▸(Below.setCell (Below.setCell (Below.setCell (Below.setCell (Below.setCell (Below.setCell hB g0 _) g0 _) g0 _) g0 _) g0 _) g0 _);clear hW o7 ne1 o8;obtain⟨l0,aB,aC⟩:=At.two A0;obtain⟨l1,aP,aQ⟩:=At.two A1;obtain⟨l2,aR,aS,aT,aU,bC,bD,bA,bB⟩:=At.bx1 A2;obtain⟨l3,bP,bQ,dO,dP,dQ,dU⟩:=At.six A3)
   go_wp2
   go_ret
   refine⟨bO ?_,?_⟩
   . unfold Fw.jk;rw[if_pos ht];(try simp only[uR,rH]);rfl
   . exact Z5
end Go.Proofs.YtmidaiklolmkcaaGreat.Fix
