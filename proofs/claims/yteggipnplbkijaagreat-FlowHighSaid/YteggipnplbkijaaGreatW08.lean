/- Boxes laid by the program: what its functions do, part 8. -/
import Derived.Test.YteggipnplbkijaaGreatWK
import Derived.Test.YteggipnplbkijaaGreatW06
import Derived.Test.YteggipnplbkijaaGreatW07
set_option linter.unusedVariables false
set_option linter.unusedSimpArgs false
set_option linter.unusedSectionVars false
set_option maxRecDepth 100000
namespace Go.Proofs.YteggipnplbkijaaGreat.Fix
open Go.ChangeShapes Go.WideShapes Go.ChangeAt Go.RowKit
theorem wri (x:Int):IntKind.i64.wrap x=Fw.wr x:=(IntWalk.i64_left x).trans (wr64 x)
def bxe (s:Re.St) (fl ap:Value) (ib:Bool):Array Value:=#[.int .i64 (s.c 3),.int .i64 (s.c 4),.int .i64 (s.c 7),.int .i64 (s.c 8),.int .i64 (s.c 11),.int .i64 (s.c 12),.int .i64 (s.c 5),.int .i64 (s.c 6),.int .i64 (s.c 9),.int .i64 (s.c 10),.int .i64 (s.c 13),.int .i64 (s.c 14),.int .i64 (Fw.ed s 3),.int .i64 (Fw.ed s 1),.int .i64 (Fw.ed s 0),.int .i64 (Fw.ed s 2),fl,ap,.bool ib]
def bxc (s:Re.St) (fl ap:Value) (ib:Bool):Array Value:=cells s ++ bxe s fl ap ib
theorem bxc_sty (s:Re.St) (fl ap:Value) (ib:Bool) {i:Nat} (h:i<55):(bxc s fl ap ib)[i]? = some (cell s i):=by
 unfold bxc
 rw [Array.getElem?_append_left (by rw [cells_size];exact h),cells_get s h]
theorem bxc_ext (s:Re.St) (fl ap:Value) (ib:Bool) (j:Nat):(bxc s fl ap ib)[55 + j]? = (bxe s fl ap ib)[j]? := by
 unfold bxc
 rw [Array.getElem?_append_right Z4g,cells_size,show 55 + j - 55=j by omega]
theorem bxc_set_fl (s:Re.St) (fl fl' ap:Value) (ib:Bool):(bxc s fl ap ib).setIfInBounds 71 fl'=bxc s fl' ap ib:=by
 exact Z32
theorem bxc_set_ap (s:Re.St) (fl ap ap':Value) (ib:Bool):(bxc s fl ap ib).setIfInBounds 72 ap'=bxc s fl ap' ib:=by
 exact Z32
theorem bxc_set_ib (s:Re.St) (fl ap:Value) (ib ib':Bool):(bxc s fl ap ib).setIfInBounds 73 (.bool ib')=bxc s fl ap ib':=by
 exact Z32
theorem build_fbox (s:Re.St) (W:World):(Instr.build 141 #[(0,.agg (cells s)),(1,.agg #[.int .i64 (s.c 3),.int .i64 (s.c 4),.int .i64 (s.c 7),.int .i64 (s.c 8),.int .i64 (s.c 11),.int .i64 (s.c 12),.int .i64 (s.c 5),.int .i64 (s.c 6),.int .i64 (s.c 9),.int .i64 (s.c 10),.int .i64 (s.c 13),.int .i64 (s.c 14)]),(2,.agg #[.int .i64 (Fw.ed s 3),.int .i64 (Fw.ed s 1),.int .i64 (Fw.ed s 0),.int .i64 (Fw.ed s 2)])]).run Tryz.prog W = .ok (.agg (bxc s (.slice none 0 0) (.slice none 0 0) false)) W:=by kernel_rfl
section
variable {W:World} {b:Nat} {s:Re.St} {fl ap:Value} {ib:Bool}
abbrev BxAt (W:World) (b:Nat) (s:Re.St) (fl ap:Value) (ib:Bool):Prop:=At W b (.cells (bxc s fl ap ib) 141)
theorem BxAt.lt (h:BxAt W b s fl ap ib):b<W.heap.size:=At.lt h
theorem BxAt.int (h:BxAt W b s fl ap ib) (i:Nat) (hi:i<55) (hb:Re.isB i=false):W.cell? ⟨b,i,none⟩=some (.int .i64 (s.c i)):=(At.cell h i).trans (by rw [bxc_sty _ _ _ _ hi,cell_int s hb])
theorem BxAt.ext (h:BxAt W b s fl ap ib) (j:Nat):W.cell? ⟨b,55 + j,none⟩=(bxe s fl ap ib)[j]? := (At.cell h (55 + j)).trans (bxc_ext s fl ap ib j)
theorem BxAt.keep {W':World} (h:BxAt W b s fl ap ib) (hb:Below W.heap.size W W'):BxAt W' b s fl ap ib:=At.keep h hb
theorem BxAt.alloc (h:BxAt W b s fl ap ib) (o:Obj):BxAt (W.alloc o) b s fl ap ib:=At.alloc h o
theorem At.bx0 (h:BxAt W b s fl ap ib):b<W.heap.size∧W.cell? ⟨b,55,none⟩=some (.int .i64 (s.c 3))∧W.cell? ⟨b,56,none⟩=some (.int .i64 (s.c 4))∧W.cell? ⟨b,57,none⟩=some (.int .i64 (s.c 7))∧W.cell? ⟨b,58,none⟩=some (.int .i64 (s.c 8))∧W.cell? ⟨b,59,none⟩=some (.int .i64 (s.c 11))∧W.cell? ⟨b,60,none⟩=some (.int .i64 (s.c 12))∧W.cell? ⟨b,67,none⟩=some (.int .i64 (Fw.ed s 3))∧W.cell? ⟨b,68,none⟩=some (.int .i64 (Fw.ed s 1)) :=
 ⟨h.lt,h.ext 0,h.ext 1,h.ext 2,h.ext 3,h.ext 4,h.ext 5,h.ext 12,h.ext 13⟩
theorem At.bx1 (h:BxAt W b s fl ap ib):b<W.heap.size∧W.cell? ⟨b,61,none⟩=some (.int .i64 (s.c 5))∧W.cell? ⟨b,62,none⟩=some (.int .i64 (s.c 6))∧W.cell? ⟨b,63,none⟩=some (.int .i64 (s.c 9))∧W.cell? ⟨b,64,none⟩=some (.int .i64 (s.c 10))∧W.cell? ⟨b,65,none⟩=some (.int .i64 (s.c 13))∧W.cell? ⟨b,66,none⟩=some (.int .i64 (s.c 14))∧W.cell? ⟨b,69,none⟩=some (.int .i64 (Fw.ed s 0))∧W.cell? ⟨b,70,none⟩=some (.int .i64 (Fw.ed s 2)) :=
 ⟨h.lt,h.ext 6,h.ext 7,h.ext 8,h.ext 9,h.ext 10,h.ext 11,h.ext 14,h.ext 15⟩
theorem At.bxm (h:BxAt W b s fl ap ib):b<W.heap.size∧W.cell? ⟨b,15,none⟩=some (.int .i64 (s.c 15))∧W.cell? ⟨b,16,none⟩=some (.int .i64 (s.c 16))∧W.cell? ⟨b,17,none⟩=some (.int .i64 (s.c 17))∧W.cell? ⟨b,18,none⟩=some (.int .i64 (s.c 18))∧W.cell? ⟨b,19,none⟩=some (.int .i64 (s.c 19))∧W.cell? ⟨b,20,none⟩=some (.int .i64 (s.c 20))∧W.cell? ⟨b,21,none⟩=some (.int .i64 (s.c 21))∧W.cell? ⟨b,22,none⟩=some (.int .i64 (s.c 22)) :=
 ⟨h.lt,h.int 15 Z3i rfl,h.int 16 Z3i rfl,h.int 17 Z3i rfl,h.int 18 Z3i rfl,h.int 19 Z3i rfl,h.int 20 Z3i rfl,h.int 21 Z3i rfl,h.int 22 Z3i rfl⟩
theorem At.put6 {x0 x1 x2 x3 x4 x5:Value} {T:TypeId} (h:At W b (.cells #[x0,x1,x2,x3,x4,x5] T)) (y0 y1 y2 y3 y4 y5:Value):At ((((((W.setCell ⟨b,0,none⟩ y0).setCell ⟨b,1,none⟩ y1).setCell ⟨b,2,none⟩ y2).setCell ⟨b,3,none⟩ y3).setCell ⟨b,4,none⟩ y4).setCell ⟨b,5,none⟩ y5) b (.cells #[y0,y1,y2,y3,y4,y5] T):=(((((h.set 0 y0).set 1 y1).set 2 y2).set 3 y3).set 4 y4).set 5 y5
theorem At.six {x0 x1 x2 x3 x4 x5:Value} {T:TypeId} (h:At W b (.cells #[x0,x1,x2,x3,x4,x5] T)):b<W.heap.size∧W.cell? ⟨b,0,none⟩=some x0∧W.cell? ⟨b,1,none⟩=some x1∧W.cell? ⟨b,2,none⟩=some x2∧W.cell? ⟨b,3,none⟩=some x3∧W.cell? ⟨b,4,none⟩=some x4∧W.cell? ⟨b,5,none⟩=some x5:=⟨h.lt,h.cell 0,h.cell 1,h.cell 2,h.cell 3,h.cell 4,h.cell 5⟩
end
set_option maxHeartbeats 4000000 in
theorem fmargins_any (b:Nat) (s:Re.St) (fl ap:Value) (ib:Bool) (r0 r1:Int) (w:World) (h:BxAt w b s fl ap ib):Calls Tryz.prog 113 #[.pointer (some ⟨b,0,none⟩),.agg #[.int .i64 r0,.int .i64 r1]] w fun e w'=>e = .returned (.agg #[.int .i64 (Fw.mg s 0 0 r0),.int .i64 (Fw.mg s 0 1 r0),.int .i64 (Fw.mg s 1 0 r0),.int .i64 (Fw.mg s 1 1 r0)])∧Below w.heap.size w w':=by
 have i0:∀ (a b c d:Int) (w:World),(Instr.index 139 (.agg #[.int .i64 a,.int .i64 b,.int .i64 c,.int .i64 d]) (.int .i64 0)).run Tryz.prog w = .ok (.agg #[.int .i64 a,.int .i64 b]) w:=fun _ _ _ _ _=>by kernel_rfl
 have i1:∀ (a b c d:Int) (w:World),(Instr.index 139 (.agg #[.int .i64 a,.int .i64 b,.int .i64 c,.int .i64 d]) (.int .i64 1)).run Tryz.prog w = .ok (.agg #[.int .i64 c,.int .i64 d]) w:=fun _ _ _ _ _=>by kernel_rfl
 go_enter Tryz.func113,Tryz.ntmps113
 go_upto_region 1 with (fail)
 generalize hW:World.alloc _ _=W0
 have A0:At W0 w.heap.size (.cells #[.int .i64 r0,.int .i64 r1] 88):=hW ▸ At.alloc (At.new _ _) _
 have A1:At W0 (w.heap.size + 1) (.cells #[.int .i64 0,.int .i64 0,.int .i64 0,.int .i64 0] 139):=hW ▸ At.new' _ Z3t
 have A2:BxAt W0 b s fl ap ib:=hW ▸ BxAt.alloc (BxAt.alloc h _) _
 have hB:Below w.heap.size w W0:=hW ▸ Below.alloc' (Below.alloc' (Below.refl _ _) _) _
 clear hW h
 obtain ⟨l0,c0_0,c0_1⟩:=A0.two
 obtain ⟨l1,c1_0,c1_1,c1_2,c1_3⟩:=A1.four
 have z1_0:=A1.thaw 0
 have z1_1:=A1.thaw 1
 have z1_2:=A1.thaw 2
 have z1_3:=A1.thaw 3
 obtain ⟨l2,c2_0,c2_1,c2_2,c2_3,c2_4,c2_5,c2_6,c2_7⟩:=At.bxm A2
 refine sqtt 19 1 ?_
 (repeat (first | refine sqk ?_ | refine sqc ?_ (hc:=by intro w2 hS;first | with_reducible exact qaB hS (lsides_any _ _ _ _ _ _ _ _ _ _) | with_reducible exact qaB hS (fbyway_any _ _ _ _ _)) | refine sqv ?_))
 refine Drawn.seq_tail ?_;intro w2 hS
 (clear l0 c0_0 c0_1 l1 c1_0 c1_1 c1_2 c1_3 z1_0 z1_1 z1_2 z1_3);(replace hB:=Below.after2 Z3g (Nat.le_refl _) hS);replace A0:=At.keep Z3k hS;replace A1:=At.keep Z3h hS;clear hS;obtain ⟨l0,c0_0,c0_1⟩:=At.two A0;obtain ⟨l1,c1_0,c1_1,c1_2,c1_3⟩:=At.four A1;have z1_0:=A1.thaw 0;have z1_1:=A1.thaw 1;have z1_2:=A1.thaw 2;have z1_3:=A1.thaw 3
 refine tkT ?_;intro K hK;go_simp;refine hK _ _ (Drawn.text_nil ?_);clear hK K
 generalize hW:World.setCell _ _ _=W1
 replace A1:At W1 (w.heap.size + 1) (.cells #[.int .i64 (Fx.len (s.c 21) (s.c 22) r0 0),.int .i64 (Fx.len (s.c 17) (s.c 18) r0 0),.int .i64 (Fx.len (s.c 15) (s.c 16) (-1) 0),.int .i64 (Fx.len (s.c 19) (s.c 20) (-1) 0)] 139):=hW ▸ At.set (At.set (At.set (At.set A1 0 _) 1 _) 2 _) 3 _
 replace hB:Below w.heap.size w W1:=hW ▸ Below.setCell (Below.setCell (Below.setCell (Below.setCell hB Z3t _) Z3t _) Z3t _) Z3t _
 clear hW l0 c0_0 c0_1 l1 c1_0 c1_1 c1_2 c1_3 z1_0 z1_1 z1_2 z1_3 A0
 obtain ⟨l1,c1_0,c1_1,c1_2,c1_3⟩:=A1.four
 go_wp2
 refine bodyPost_ret (v:= .agg #[.int .i64 _,.int .i64 _,.int .i64 _,.int .i64 _]) (by simp [results,Tryz.results113,go_sem, *];first | done | exact ⟨rfl,rfl⟩ | exact ⟨rfl,rfl,rfl,rfl⟩ | rfl) rfl ⟨ret_four rfl rfl rfl rfl,?_⟩
 exact Z6
theorem index_ends0 (a b c d:Int) (w:World):(Instr.index 139 (.agg #[.int .i64 a,.int .i64 b,.int .i64 c,.int .i64 d]) (.int .i64 0)).run Tryz.prog w = .ok (.agg #[.int .i64 a,.int .i64 b]) w:=by kernel_rfl
theorem index_ends1 (a b c d:Int) (w:World):(Instr.index 139 (.agg #[.int .i64 a,.int .i64 b,.int .i64 c,.int .i64 d]) (.int .i64 1)).run Tryz.prog w = .ok (.agg #[.int .i64 c,.int .i64 d]) w:=by kernel_rfl
set_option maxHeartbeats 8000000 in
theorem fwth0 (b:Nat) (s:Re.St) (fl ap:Value) (ib:Bool) (r0 r1 t0 t1:Int) (w:World) (h:BxAt w b s fl ap ib):Calls Tryz.prog 74 #[.pointer (some ⟨b,0,none⟩),.int .i64 0,.agg #[.int .i64 r0,.int .i64 r1],.agg #[.int .i64 t0,.int .i64 t1]] w fun e w'=>e = .returned (.int .i64 (Fw.wth s 0 r0 r0 t0))∧Below w.heap.size w w':=by
 by_cases ht:t0 = -1
 · have ix0:=index_ends0
   subst ht
   cases hf:Fx.fixd (s.c 3) r0
   · go_enter Tryz.func74,Tryz.ntmps74
     go_upto_region 1 with (fail)
     generalize hW:World.alloc _ _=W0
     have A0:At W0 w.heap.size (.cells #[.int .i64 r0,.int .i64 r1] 88):=hW ▸ At.alloc (At.new _ _) _
     have A1:At W0 (w.heap.size + 1) (.cells #[.int .i64 (-1),.int .i64 t1] 88):=by rw [← hW];exact At.new' _ Z3s
     have A2:BxAt W0 b s fl ap ib:=hW ▸ BxAt.alloc (BxAt.alloc h _) _
     have hB:Below w.heap.size w W0:=hW ▸ Below.alloc' (Below.alloc' (Below.refl _ _) _) _
     clear hW h
     obtain ⟨l0,c0_0,c0_1⟩:=A0.two
     obtain ⟨l1,c1_0,c1_1⟩:=A1.two
     obtain ⟨l2,c2_0,c2_1,c2_2,c2_3,c2_4,c2_5,c2_6,c2_7⟩:=At.bx0 A2
     refine sbtT [0,1,2,3,4,5,6,7,8,9,10,11,12] 13 14 ?_ (norm:=[⟨_,_,_,_,_,_⟩,⟨_,_,_,_,_,_⟩,⟨_,_,_,_,_,_⟩,⟨_,_,_,_,_,_⟩,⟨_,_,_,_,_,_⟩,⟨_,_,_,_,_,_⟩,⟨_,_,_,_,_,_⟩,⟨_,_,_,_,_,_⟩,⟨_,_,_,_,_,_⟩,⟨_,_,_,_,_,_⟩,⟨_,_,_,_,_,_⟩,⟨_,_,_,_,_,_⟩,⟨_,_,_,_,_,_⟩]) (tail:=[⟨_,_,_,_,_,_⟩,⟨_,_,_,_,_,_⟩]) (x:= .cells #[.int .i64 0,.int .i64 0,.int .i64 0,.int .i64 0,.int .i64 0,.int .i64 0] 136) (so:=⟨_,_,_,_,_,_⟩)
     (repeat (first | refine sbk ?_ | refine sbc ?_ (hc:=by intro w2 hS;first | with_reducible exact (fall_any _ _ _)) | refine sbv ?_))
     refine Drawn.bseq_end ?_;intro n0 w2 hn hA hS;(try simp only [tkp,tka,tkz,tks])
     ((have hB0:=hB);have ne0:=Nat.ne_of_lt (Nat.lt_of_lt_of_le A0.lt hn);have ne1:=Nat.ne_of_lt (Nat.lt_of_lt_of_le A1.lt hn);have ne2:=Nat.ne_of_lt (Nat.lt_of_lt_of_le A2.lt hn);(clear l0 c0_0 c0_1 l1 c1_0 c1_1 l2 c2_0 c2_1 c2_2 c2_3 c2_4 c2_5 c2_6 c2_7);(replace hB:=Below.after2 Z3g (Nat.le_refl _) hS);replace A0:=At.keep Z3k hS;replace A1:=At.keep Z3h hS;replace A2:=At.keep Z3j hS;clear hS;obtain ⟨l0,c0_0,c0_1⟩:=At.two A0;obtain ⟨l1,c1_0,c1_1⟩:=At.two A1;obtain ⟨l2,c2_0,c2_1,c2_2,c2_3,c2_4,c2_5,c2_6,c2_7⟩:=At.bx0 A2;have A3:=hA;clear hA;obtain ⟨l3,c3_0,c3_1,c3_2,c3_3,c3_4,c3_5⟩:=At.six A3;have z3_0:=A3.thaw 0;have z3_1:=A3.thaw 1;have z3_2:=A3.thaw 2;have z3_3:=A3.thaw 3;have z3_4:=A3.thaw 4;have z3_5:=A3.thaw 5;have g0:=Nat.le_trans Z3z hn;clear hB0)
     (refine Drawn.text_cons Z3n ?_;intro K hK;go_simp;refine hK _ _ ?_;clear hK K)
     refine tkT ?_;intro K hK;go_simp;refine hK _ _ (Drawn.text_nil ?_);clear hK K
     (generalize hW:World.setCell (World.setCell (World.setCell (World.setCell (World.setCell (World.setCell _ _ _) _ _) _ _) _ _) _ _) _ _=W1;clear l0 c0_0 c0_1 l1 c1_0 c1_1 l2 c2_0 c2_1 c2_2 c2_3 c2_4 c2_5 c2_6 c2_7 l3 c3_0 c3_1 c3_2 c3_3 c3_4 c3_5 z3_0 z3_1 z3_2 z3_3 z3_4 z3_5;replace A3:At W1 _ _:=hW ▸ (At.put6 A3 _ _ _ _ _ _);replace A0:At W1 _ _:=hW ▸ (At.off (At.off (At.off (At.off (At.off (At.off A0 ne0 _ _) ne0 _ _) ne0 _ _) ne0 _ _) ne0 _ _) ne0 _ _);replace A1:At W1 _ _:=hW ▸ (At.off (At.off (At.off (At.off (At.off (At.off A1 ne1 _ _) ne1 _ _) ne1 _ _) ne1 _ _) ne1 _ _) ne1 _ _);replace A2:At W1 _ _:=hW ▸ (At.off (At.off (At.off (At.off (At.off (At.off A2 ne2 _ _) ne2 _ _) ne2 _ _) ne2 _ _) ne2 _ _) ne2 _ _);replace hB:Below w.heap.size w W1:=hW ▸ (Below.setCell (Below.setCell (Below.setCell (Below.setCell (Below.setCell (Below.setCell hB g0 _) g0 _) g0 _) g0 _) g0 _) g0 _);clear hW ne0 ne1 ne2;obtain ⟨l0,c0_0,c0_1⟩:=At.two A0;obtain ⟨l1,c1_0,c1_1⟩:=At.two A1;obtain ⟨l2,c2_0,c2_1,c2_2,c2_3,c2_4,c2_5,c2_6,c2_7⟩:=At.bx0 A2;obtain ⟨l3,c3_0,c3_1,c3_2,c3_3,c3_4,c3_5⟩:=At.six A3)
     have HF:=Lib.hid hf
     clear hf
     go_upto_region 4 with (fail)
     refine sqt ?_
     (repeat (first | refine sqk ?_ | refine sqc ?_ (hc:=by intro w2 hS;first | with_reducible exact qaB hS (ffix_any _ _ _ _ _ _ _ _)) | refine sqv ?_))
     refine Drawn.seq_end ?_;intro w2 hS
     (clear l0 c0_0 c0_1 l1 c1_0 c1_1 l2 c2_0 c2_1 c2_2 c2_3 c2_4 c2_5 c2_6 c2_7 l3 c3_0 c3_1 c3_2 c3_3 c3_4 c3_5);(replace hB:=Below.after2 Z3g (Nat.le_refl _) hS);replace A0:=At.keep Z3k hS;replace A1:=At.keep Z3h hS;replace A2:=At.keep Z3j hS;replace A3:=At.keep Z3m hS;clear hS;obtain ⟨l0,c0_0,c0_1⟩:=At.two A0;obtain ⟨l1,c1_0,c1_1⟩:=At.two A1;obtain ⟨l2,c2_0,c2_1,c2_2,c2_3,c2_4,c2_5,c2_6,c2_7⟩:=At.bx0 A2;obtain ⟨l3,c3_0,c3_1,c3_2,c3_3,c3_4,c3_5⟩:=At.six A3
     rw [HF.out]
     go_upto_region 7 with (fail)
     have HX:BxAt _ b s fl ap ib:=A2
     refine sqt ?_
     (repeat (first | refine sqk ?_ | refine sqc ?_ (hc:=by intro w2 hS;first | with_reducible exact qaB hS (fmargins_any _ _ _ _ _ _ _ _ Z49) | with_reducible exact qaB hS (fall_any _ _ _)) | refine sqv ?_))
     refine Drawn.seq_end ?_;intro w2 hS
     (clear l0 c0_0 c0_1 l1 c1_0 c1_1 l2 c2_0 c2_1 c2_2 c2_3 c2_4 c2_5 c2_6 c2_7 l3 c3_0 c3_1 c3_2 c3_3 c3_4 c3_5);(replace hB:=Below.after2 Z3g (Nat.le_refl _) hS);replace A0:=At.keep Z3k hS;replace A1:=At.keep Z3h hS;replace A2:=At.keep Z3j hS;replace A3:=At.keep Z3m hS;clear hS;obtain ⟨l0,c0_0,c0_1⟩:=At.two A0;obtain ⟨l1,c1_0,c1_1⟩:=At.two A1;obtain ⟨l2,c2_0,c2_1,c2_2,c2_3,c2_4,c2_5,c2_6,c2_7⟩:=At.bx0 A2;obtain ⟨l3,c3_0,c3_1,c3_2,c3_3,c3_4,c3_5⟩:=At.six A3
     go_upto_region 8 with (fail)
     refine sqt ?_
     (repeat (first | refine sqk ?_ | refine sqc ?_ (hc:=by intro w2 hS;first | with_reducible exact qaB hS (flim_any _ _ _ _ _ _ _ _ _)) | refine sqv ?_))
     refine Drawn.seq_end ?_;intro w2 hS
     (clear l0 c0_0 c0_1 l1 c1_0 c1_1 l2 c2_0 c2_1 c2_2 c2_3 c2_4 c2_5 c2_6 c2_7 l3 c3_0 c3_1 c3_2 c3_3 c3_4 c3_5);(replace hB:=Below.after2 Z3g (Nat.le_refl _) hS);replace A0:=At.keep Z3k hS;replace A1:=At.keep Z3h hS;replace A2:=At.keep Z3j hS;replace A3:=At.keep Z3m hS;clear hS;obtain ⟨l0,c0_0,c0_1⟩:=At.two A0;obtain ⟨l1,c1_0,c1_1⟩:=At.two A1;obtain ⟨l2,c2_0,c2_1,c2_2,c2_3,c2_4,c2_5,c2_6,c2_7⟩:=At.bx0 A2;obtain ⟨l3,c3_0,c3_1,c3_2,c3_3,c3_4,c3_5⟩:=At.six A3
     go_wp2
     go_ret
     refine ⟨ret_int ?_,?_⟩
     · unfold Fw.wth Fw.fxd;rw [if_neg (fun q=>q rfl),if_neg (by rw [HF.out];simp),if_pos rfl];(try simp only [wr64,wri]);rfl
     · exact Z6
   · go_enter Tryz.func74,Tryz.ntmps74
     go_upto_region 1 with (fail)
     generalize hW:World.alloc _ _=W0
     have A0:At W0 w.heap.size (.cells #[.int .i64 r0,.int .i64 r1] 88):=hW ▸ At.alloc (At.new _ _) _
     have A1:At W0 (w.heap.size + 1) (.cells #[.int .i64 (-1),.int .i64 t1] 88):=by rw [← hW];exact At.new' _ Z3s
     have A2:BxAt W0 b s fl ap ib:=hW ▸ BxAt.alloc (BxAt.alloc h _) _
     have hB:Below w.heap.size w W0:=hW ▸ Below.alloc' (Below.alloc' (Below.refl _ _) _) _
     clear hW h
     obtain ⟨l0,c0_0,c0_1⟩:=A0.two
     obtain ⟨l1,c1_0,c1_1⟩:=A1.two
     obtain ⟨l2,c2_0,c2_1,c2_2,c2_3,c2_4,c2_5,c2_6,c2_7⟩:=At.bx0 A2
     refine sbtT [0,1,2,3,4,5,6,7,8,9,10,11,12] 13 14 ?_ (norm:=[⟨_,_,_,_,_,_⟩,⟨_,_,_,_,_,_⟩,⟨_,_,_,_,_,_⟩,⟨_,_,_,_,_,_⟩,⟨_,_,_,_,_,_⟩,⟨_,_,_,_,_,_⟩,⟨_,_,_,_,_,_⟩,⟨_,_,_,_,_,_⟩,⟨_,_,_,_,_,_⟩,⟨_,_,_,_,_,_⟩,⟨_,_,_,_,_,_⟩,⟨_,_,_,_,_,_⟩,⟨_,_,_,_,_,_⟩]) (tail:=[⟨_,_,_,_,_,_⟩,⟨_,_,_,_,_,_⟩]) (x:= .cells #[.int .i64 0,.int .i64 0,.int .i64 0,.int .i64 0,.int .i64 0,.int .i64 0] 136) (so:=⟨_,_,_,_,_,_⟩)
     (repeat (first | refine sbk ?_ | refine sbc ?_ (hc:=by intro w2 hS;first | with_reducible exact (fall_any _ _ _)) | refine sbv ?_))
     refine Drawn.bseq_end ?_;intro n0 w2 hn hA hS;(try simp only [tkp,tka,tkz,tks])
     ((have hB0:=hB);have ne0:=Nat.ne_of_lt (Nat.lt_of_lt_of_le A0.lt hn);have ne1:=Nat.ne_of_lt (Nat.lt_of_lt_of_le A1.lt hn);have ne2:=Nat.ne_of_lt (Nat.lt_of_lt_of_le A2.lt hn);(clear l0 c0_0 c0_1 l1 c1_0 c1_1 l2 c2_0 c2_1 c2_2 c2_3 c2_4 c2_5 c2_6 c2_7);(replace hB:=Below.after2 Z3g (Nat.le_refl _) hS);replace A0:=At.keep Z3k hS;replace A1:=At.keep Z3h hS;replace A2:=At.keep Z3j hS;clear hS;obtain ⟨l0,c0_0,c0_1⟩:=At.two A0;obtain ⟨l1,c1_0,c1_1⟩:=At.two A1;obtain ⟨l2,c2_0,c2_1,c2_2,c2_3,c2_4,c2_5,c2_6,c2_7⟩:=At.bx0 A2;have A3:=hA;clear hA;obtain ⟨l3,c3_0,c3_1,c3_2,c3_3,c3_4,c3_5⟩:=At.six A3;have z3_0:=A3.thaw 0;have z3_1:=A3.thaw 1;have z3_2:=A3.thaw 2;have z3_3:=A3.thaw 3;have z3_4:=A3.thaw 4;have z3_5:=A3.thaw 5;have g0:=Nat.le_trans Z3z hn;clear hB0)
     (refine Drawn.text_cons Z3n ?_;intro K hK;go_simp;refine hK _ _ ?_;clear hK K)
     refine tkT ?_;intro K hK;go_simp;refine hK _ _ (Drawn.text_nil ?_);clear hK K
     (generalize hW:World.setCell (World.setCell (World.setCell (World.setCell (World.setCell (World.setCell _ _ _) _ _) _ _) _ _) _ _) _ _=W1;clear l0 c0_0 c0_1 l1 c1_0 c1_1 l2 c2_0 c2_1 c2_2 c2_3 c2_4 c2_5 c2_6 c2_7 l3 c3_0 c3_1 c3_2 c3_3 c3_4 c3_5 z3_0 z3_1 z3_2 z3_3 z3_4 z3_5;replace A3:At W1 _ _:=hW ▸ (At.put6 A3 _ _ _ _ _ _);replace A0:At W1 _ _:=hW ▸ (At.off (At.off (At.off (At.off (At.off (At.off A0 ne0 _ _) ne0 _ _) ne0 _ _) ne0 _ _) ne0 _ _) ne0 _ _);replace A1:At W1 _ _:=hW ▸ (At.off (At.off (At.off (At.off (At.off (At.off A1 ne1 _ _) ne1 _ _) ne1 _ _) ne1 _ _) ne1 _ _) ne1 _ _);replace A2:At W1 _ _:=hW ▸ (At.off (At.off (At.off (At.off (At.off (At.off A2 ne2 _ _) ne2 _ _) ne2 _ _) ne2 _ _) ne2 _ _) ne2 _ _);replace hB:Below w.heap.size w W1:=hW ▸ (Below.setCell (Below.setCell (Below.setCell (Below.setCell (Below.setCell (Below.setCell hB g0 _) g0 _) g0 _) g0 _) g0 _) g0 _);clear hW ne0 ne1 ne2;obtain ⟨l0,c0_0,c0_1⟩:=At.two A0;obtain ⟨l1,c1_0,c1_1⟩:=At.two A1;obtain ⟨l2,c2_0,c2_1,c2_2,c2_3,c2_4,c2_5,c2_6,c2_7⟩:=At.bx0 A2;obtain ⟨l3,c3_0,c3_1,c3_2,c3_3,c3_4,c3_5⟩:=At.six A3)
     have HF:=Lib.hid hf
     clear hf
     go_upto_region 4 with (fail)
     refine sqt ?_
     (repeat (first | refine sqk ?_ | refine sqc ?_ (hc:=by intro w2 hS;first | with_reducible exact qaB hS (ffix_any _ _ _ _ _ _ _ _)) | refine sqv ?_))
     refine Drawn.seq_end ?_;intro w2 hS
     (clear l0 c0_0 c0_1 l1 c1_0 c1_1 l2 c2_0 c2_1 c2_2 c2_3 c2_4 c2_5 c2_6 c2_7 l3 c3_0 c3_1 c3_2 c3_3 c3_4 c3_5);(replace hB:=Below.after2 Z3g (Nat.le_refl _) hS);replace A0:=At.keep Z3k hS;replace A1:=At.keep Z3h hS;replace A2:=At.keep Z3j hS;replace A3:=At.keep Z3m hS;clear hS;obtain ⟨l0,c0_0,c0_1⟩:=At.two A0;obtain ⟨l1,c1_0,c1_1⟩:=At.two A1;obtain ⟨l2,c2_0,c2_1,c2_2,c2_3,c2_4,c2_5,c2_6,c2_7⟩:=At.bx0 A2;obtain ⟨l3,c3_0,c3_1,c3_2,c3_3,c3_4,c3_5⟩:=At.six A3
     rw [HF.out]
     go_upto_region 5 with (fail)
     refine sqt ?_
     (repeat (first | refine sqk ?_ | refine sqc ?_ (hc:=by intro w2 hS;first | with_reducible exact qaB hS (len_any _ _ _ _ _) | with_reducible exact qaB hS (flim_any _ _ _ _ _ _ _ _ _)) | refine sqv ?_))
     refine Drawn.seq_end ?_;intro w2 hS
     (clear l0 c0_0 c0_1 l1 c1_0 c1_1 l2 c2_0 c2_1 c2_2 c2_3 c2_4 c2_5 c2_6 c2_7 l3 c3_0 c3_1 c3_2 c3_3 c3_4 c3_5);(replace hB:=Below.after2 Z3g (Nat.le_refl _) hS);replace A0:=At.keep Z3k hS;replace A1:=At.keep Z3h hS;replace A2:=At.keep Z3j hS;replace A3:=At.keep Z3m hS;clear hS;obtain ⟨l0,c0_0,c0_1⟩:=At.two A0;obtain ⟨l1,c1_0,c1_1⟩:=At.two A1;obtain ⟨l2,c2_0,c2_1,c2_2,c2_3,c2_4,c2_5,c2_6,c2_7⟩:=At.bx0 A2;obtain ⟨l3,c3_0,c3_1,c3_2,c3_3,c3_4,c3_5⟩:=At.six A3
     go_wp2
     go_ret
     refine ⟨ret_int ?_,?_⟩
     · unfold Fw.wth Fw.fxd;rw [if_neg (fun q=>q rfl),if_pos HF.out];rfl
     · exact Z6
 · have hne:(t0 != -1)=true:=by simpa using ht
   go_enter Tryz.func74,Tryz.ntmps74
   go_upto_region 1 with (fail)
   generalize hW:World.alloc _ _=W0
   have A0:At W0 w.heap.size (.cells #[.int .i64 r0,.int .i64 r1] 88):=hW ▸ At.alloc (At.new _ _) _
   have A1:At W0 (w.heap.size + 1) (.cells #[.int .i64 t0,.int .i64 t1] 88):=by rw [← hW];exact At.new' _ Z3s
   have A2:BxAt W0 b s fl ap ib:=hW ▸ BxAt.alloc (BxAt.alloc h _) _
   have hB:Below w.heap.size w W0:=hW ▸ Below.alloc' (Below.alloc' (Below.refl _ _) _) _
   clear hW h
   obtain ⟨l0,c0_0,c0_1⟩:=A0.two
   obtain ⟨l1,c1_0,c1_1⟩:=A1.two
   obtain ⟨l2,c2_0,c2_1,c2_2,c2_3,c2_4,c2_5,c2_6,c2_7⟩:=At.bx0 A2
   refine sbtT [0,1,2,3,4,5,6,7,8,9,10,11,12] 13 14 ?_ (norm:=[⟨_,_,_,_,_,_⟩,⟨_,_,_,_,_,_⟩,⟨_,_,_,_,_,_⟩,⟨_,_,_,_,_,_⟩,⟨_,_,_,_,_,_⟩,⟨_,_,_,_,_,_⟩,⟨_,_,_,_,_,_⟩,⟨_,_,_,_,_,_⟩,⟨_,_,_,_,_,_⟩,⟨_,_,_,_,_,_⟩,⟨_,_,_,_,_,_⟩,⟨_,_,_,_,_,_⟩,⟨_,_,_,_,_,_⟩]) (tail:=[⟨_,_,_,_,_,_⟩,⟨_,_,_,_,_,_⟩]) (x:= .cells #[.int .i64 0,.int .i64 0,.int .i64 0,.int .i64 0,.int .i64 0,.int .i64 0] 136) (so:=⟨_,_,_,_,_,_⟩)
   (repeat (first | refine sbk ?_ | refine sbc ?_ (hc:=by intro w2 hS;first | with_reducible exact (fall_any _ _ _)) | refine sbv ?_))
   refine Drawn.bseq_end ?_;intro n0 w2 hn hA hS;(try simp only [tkp,tka,tkz,tks])
   ((have hB0:=hB);have ne0:=Nat.ne_of_lt (Nat.lt_of_lt_of_le A0.lt hn);have ne1:=Nat.ne_of_lt (Nat.lt_of_lt_of_le A1.lt hn);have ne2:=Nat.ne_of_lt (Nat.lt_of_lt_of_le A2.lt hn);(clear l0 c0_0 c0_1 l1 c1_0 c1_1 l2 c2_0 c2_1 c2_2 c2_3 c2_4 c2_5 c2_6 c2_7);(replace hB:=Below.after2 Z3g (Nat.le_refl _) hS);replace A0:=At.keep Z3k hS;replace A1:=At.keep Z3h hS;replace A2:=At.keep Z3j hS;clear hS;obtain ⟨l0,c0_0,c0_1⟩:=At.two A0;obtain ⟨l1,c1_0,c1_1⟩:=At.two A1;obtain ⟨l2,c2_0,c2_1,c2_2,c2_3,c2_4,c2_5,c2_6,c2_7⟩:=At.bx0 A2;have A3:=hA;clear hA;obtain ⟨l3,c3_0,c3_1,c3_2,c3_3,c3_4,c3_5⟩:=At.six A3;have z3_0:=A3.thaw 0;have z3_1:=A3.thaw 1;have z3_2:=A3.thaw 2;have z3_3:=A3.thaw 3;have z3_4:=A3.thaw 4;have z3_5:=A3.thaw 5;have g0:=Nat.le_trans Z3z hn;clear hB0)
   (refine Drawn.text_cons Z3n ?_;intro K hK;go_simp;refine hK _ _ ?_;clear hK K)
   refine tkT ?_;intro K hK;go_simp;refine hK _ _ (Drawn.text_nil ?_);clear hK K
   (generalize hW:World.setCell (World.setCell (World.setCell (World.setCell (World.setCell (World.setCell _ _ _) _ _) _ _) _ _) _ _) _ _=W1;clear l0 c0_0 c0_1 l1 c1_0 c1_1 l2 c2_0 c2_1 c2_2 c2_3 c2_4 c2_5 c2_6 c2_7 l3 c3_0 c3_1 c3_2 c3_3 c3_4 c3_5 z3_0 z3_1 z3_2 z3_3 z3_4 z3_5;replace A3:At W1 _ _:=hW ▸ (At.put6 A3 _ _ _ _ _ _);replace A0:At W1 _ _:=hW ▸ (At.off (At.off (At.off (At.off (At.off (At.off A0 ne0 _ _) ne0 _ _) ne0 _ _) ne0 _ _) ne0 _ _) ne0 _ _);replace A1:At W1 _ _:=hW ▸ (At.off (At.off (At.off (At.off (At.off (At.off A1 ne1 _ _) ne1 _ _) ne1 _ _) ne1 _ _) ne1 _ _) ne1 _ _);replace A2:At W1 _ _:=hW ▸ (At.off (At.off (At.off (At.off (At.off (At.off A2 ne2 _ _) ne2 _ _) ne2 _ _) ne2 _ _) ne2 _ _) ne2 _ _);replace hB:Below w.heap.size w W1:=hW ▸ (Below.setCell (Below.setCell (Below.setCell (Below.setCell (Below.setCell (Below.setCell hB g0 _) g0 _) g0 _) g0 _) g0 _) g0 _);clear hW ne0 ne1 ne2;obtain ⟨l0,c0_0,c0_1⟩:=At.two A0;obtain ⟨l1,c1_0,c1_1⟩:=At.two A1;obtain ⟨l2,c2_0,c2_1,c2_2,c2_3,c2_4,c2_5,c2_6,c2_7⟩:=At.bx0 A2;obtain ⟨l3,c3_0,c3_1,c3_2,c3_3,c3_4,c3_5⟩:=At.six A3)
   go_wp2
   go_ret
   refine ⟨ret_int ?_,?_⟩
   · unfold Fw.wth;rw [if_pos ht];(try simp only [wr64,wri]);rfl
   · exact Z6
set_option maxHeartbeats 8000000 in
theorem fwth1 (b:Nat) (s:Re.St) (fl ap:Value) (ib:Bool) (r0 r1 t0 t1:Int) (w:World) (h:BxAt w b s fl ap ib):Calls Tryz.prog 74 #[.pointer (some ⟨b,0,none⟩),.int .i64 1,.agg #[.int .i64 r0,.int .i64 r1],.agg #[.int .i64 t0,.int .i64 t1]] w fun e w'=>e = .returned (.int .i64 (Fw.wth s 1 r0 r1 t1))∧Below w.heap.size w w':=by
 by_cases ht:t1 = -1
 · have ix0:=index_ends0
   subst ht
   cases hf:Fx.fixd (s.c 5) r1
   · go_enter Tryz.func74,Tryz.ntmps74
     go_upto_region 1 with (fail)
     generalize hW:World.alloc _ _=W0
     have A0:At W0 w.heap.size (.cells #[.int .i64 r0,.int .i64 r1] 88):=hW ▸ At.alloc (At.new _ _) _
     have A1:At W0 (w.heap.size + 1) (.cells #[.int .i64 t0,.int .i64 (-1)] 88):=by rw [← hW];exact At.new' _ Z3s
     have A2:BxAt W0 b s fl ap ib:=hW ▸ BxAt.alloc (BxAt.alloc h _) _
     have hB:Below w.heap.size w W0:=hW ▸ Below.alloc' (Below.alloc' (Below.refl _ _) _) _
     clear hW h
     obtain ⟨l0,c0_0,c0_1⟩:=A0.two
     obtain ⟨l1,c1_0,c1_1⟩:=A1.two
     obtain ⟨l2,c2_0,c2_1,c2_2,c2_3,c2_4,c2_5,c2_6,c2_7⟩:=At.bx1 A2
     refine sbtT [0,1,2,3,4,5,6,7,8,9,10,11,12] 13 14 ?_ (norm:=[⟨_,_,_,_,_,_⟩,⟨_,_,_,_,_,_⟩,⟨_,_,_,_,_,_⟩,⟨_,_,_,_,_,_⟩,⟨_,_,_,_,_,_⟩,⟨_,_,_,_,_,_⟩,⟨_,_,_,_,_,_⟩,⟨_,_,_,_,_,_⟩,⟨_,_,_,_,_,_⟩,⟨_,_,_,_,_,_⟩,⟨_,_,_,_,_,_⟩,⟨_,_,_,_,_,_⟩,⟨_,_,_,_,_,_⟩]) (tail:=[⟨_,_,_,_,_,_⟩,⟨_,_,_,_,_,_⟩]) (x:= .cells #[.int .i64 0,.int .i64 0,.int .i64 0,.int .i64 0,.int .i64 0,.int .i64 0] 136) (so:=⟨_,_,_,_,_,_⟩)
     (repeat (first | refine sbk ?_ | refine sbc ?_ (hc:=by intro w2 hS;first | with_reducible exact (fall_any _ _ _)) | refine sbv ?_))
     refine Drawn.bseq_end ?_;intro n0 w2 hn hA hS;(try simp only [tkp,tka,tkz,tks])
     ((have hB0:=hB);have ne0:=Nat.ne_of_lt (Nat.lt_of_lt_of_le A0.lt hn);have ne1:=Nat.ne_of_lt (Nat.lt_of_lt_of_le A1.lt hn);have ne2:=Nat.ne_of_lt (Nat.lt_of_lt_of_le A2.lt hn);(clear l0 c0_0 c0_1 l1 c1_0 c1_1 l2 c2_0 c2_1 c2_2 c2_3 c2_4 c2_5 c2_6 c2_7);(replace hB:=Below.after2 Z3g (Nat.le_refl _) hS);replace A0:=At.keep Z3k hS;replace A1:=At.keep Z3h hS;replace A2:=At.keep Z3j hS;clear hS;obtain ⟨l0,c0_0,c0_1⟩:=At.two A0;obtain ⟨l1,c1_0,c1_1⟩:=At.two A1;obtain ⟨l2,c2_0,c2_1,c2_2,c2_3,c2_4,c2_5,c2_6,c2_7⟩:=At.bx1 A2;have A3:=hA;clear hA;obtain ⟨l3,c3_0,c3_1,c3_2,c3_3,c3_4,c3_5⟩:=At.six A3;have z3_0:=A3.thaw 0;have z3_1:=A3.thaw 1;have z3_2:=A3.thaw 2;have z3_3:=A3.thaw 3;have z3_4:=A3.thaw 4;have z3_5:=A3.thaw 5;have g0:=Nat.le_trans Z3z hn;clear hB0)
     (refine Drawn.text_cons Z3n ?_;intro K hK;go_simp;refine hK _ _ ?_;clear hK K)
     refine tkT ?_;intro K hK;go_simp;refine hK _ _ (Drawn.text_nil ?_);clear hK K
     (generalize hW:World.setCell (World.setCell (World.setCell (World.setCell (World.setCell (World.setCell _ _ _) _ _) _ _) _ _) _ _) _ _=W1;clear l0 c0_0 c0_1 l1 c1_0 c1_1 l2 c2_0 c2_1 c2_2 c2_3 c2_4 c2_5 c2_6 c2_7 l3 c3_0 c3_1 c3_2 c3_3 c3_4 c3_5 z3_0 z3_1 z3_2 z3_3 z3_4 z3_5;replace A3:At W1 _ _:=hW ▸ (At.put6 A3 _ _ _ _ _ _);replace A0:At W1 _ _:=hW ▸ (At.off (At.off (At.off (At.off (At.off (At.off A0 ne0 _ _) ne0 _ _) ne0 _ _) ne0 _ _) ne0 _ _) ne0 _ _);replace A1:At W1 _ _:=hW ▸ (At.off (At.off (At.off (At.off (At.off (At.off A1 ne1 _ _) ne1 _ _) ne1 _ _) ne1 _ _) ne1 _ _) ne1 _ _);replace A2:At W1 _ _:=hW ▸ (At.off (At.off (At.off (At.off (At.off (At.off A2 ne2 _ _) ne2 _ _) ne2 _ _) ne2 _ _) ne2 _ _) ne2 _ _);replace hB:Below w.heap.size w W1:=hW ▸ (Below.setCell (Below.setCell (Below.setCell (Below.setCell (Below.setCell (Below.setCell hB g0 _) g0 _) g0 _) g0 _) g0 _) g0 _);clear hW ne0 ne1 ne2;obtain ⟨l0,c0_0,c0_1⟩:=At.two A0;obtain ⟨l1,c1_0,c1_1⟩:=At.two A1;obtain ⟨l2,c2_0,c2_1,c2_2,c2_3,c2_4,c2_5,c2_6,c2_7⟩:=At.bx1 A2;obtain ⟨l3,c3_0,c3_1,c3_2,c3_3,c3_4,c3_5⟩:=At.six A3)
     have HF:=Lib.hid hf
     clear hf
     go_upto_region 4 with (fail)
     refine sqt ?_
     (repeat (first | refine sqk ?_ | refine sqc ?_ (hc:=by intro w2 hS;first | with_reducible exact qaB hS (ffix_any _ _ _ _ _ _ _ _)) | refine sqv ?_))
     refine Drawn.seq_end ?_;intro w2 hS
     (clear l0 c0_0 c0_1 l1 c1_0 c1_1 l2 c2_0 c2_1 c2_2 c2_3 c2_4 c2_5 c2_6 c2_7 l3 c3_0 c3_1 c3_2 c3_3 c3_4 c3_5);(replace hB:=Below.after2 Z3g (Nat.le_refl _) hS);replace A0:=At.keep Z3k hS;replace A1:=At.keep Z3h hS;replace A2:=At.keep Z3j hS;replace A3:=At.keep Z3m hS;clear hS;obtain ⟨l0,c0_0,c0_1⟩:=At.two A0;obtain ⟨l1,c1_0,c1_1⟩:=At.two A1;obtain ⟨l2,c2_0,c2_1,c2_2,c2_3,c2_4,c2_5,c2_6,c2_7⟩:=At.bx1 A2;obtain ⟨l3,c3_0,c3_1,c3_2,c3_3,c3_4,c3_5⟩:=At.six A3
     rw [HF.out]
     go_wp2
     go_ret
     refine ⟨ret_int ?_,?_⟩
     · unfold Fw.wth Fw.fxd;rw [if_neg (fun q=>q rfl),if_neg (by rw [HF.out];simp),if_neg Z3i]
     · exact Z6
   · go_enter Tryz.func74,Tryz.ntmps74
     go_upto_region 1 with (fail)
     generalize hW:World.alloc _ _=W0
     have A0:At W0 w.heap.size (.cells #[.int .i64 r0,.int .i64 r1] 88):=hW ▸ At.alloc (At.new _ _) _
     have A1:At W0 (w.heap.size + 1) (.cells #[.int .i64 t0,.int .i64 (-1)] 88):=by rw [← hW];exact At.new' _ Z3s
     have A2:BxAt W0 b s fl ap ib:=hW ▸ BxAt.alloc (BxAt.alloc h _) _
     have hB:Below w.heap.size w W0:=hW ▸ Below.alloc' (Below.alloc' (Below.refl _ _) _) _
     clear hW h
     obtain ⟨l0,c0_0,c0_1⟩:=A0.two
     obtain ⟨l1,c1_0,c1_1⟩:=A1.two
     obtain ⟨l2,c2_0,c2_1,c2_2,c2_3,c2_4,c2_5,c2_6,c2_7⟩:=At.bx1 A2
     refine sbtT [0,1,2,3,4,5,6,7,8,9,10,11,12] 13 14 ?_ (norm:=[⟨_,_,_,_,_,_⟩,⟨_,_,_,_,_,_⟩,⟨_,_,_,_,_,_⟩,⟨_,_,_,_,_,_⟩,⟨_,_,_,_,_,_⟩,⟨_,_,_,_,_,_⟩,⟨_,_,_,_,_,_⟩,⟨_,_,_,_,_,_⟩,⟨_,_,_,_,_,_⟩,⟨_,_,_,_,_,_⟩,⟨_,_,_,_,_,_⟩,⟨_,_,_,_,_,_⟩,⟨_,_,_,_,_,_⟩]) (tail:=[⟨_,_,_,_,_,_⟩,⟨_,_,_,_,_,_⟩]) (x:= .cells #[.int .i64 0,.int .i64 0,.int .i64 0,.int .i64 0,.int .i64 0,.int .i64 0] 136) (so:=⟨_,_,_,_,_,_⟩)
     (repeat (first | refine sbk ?_ | refine sbc ?_ (hc:=by intro w2 hS;first | with_reducible exact (fall_any _ _ _)) | refine sbv ?_))
     refine Drawn.bseq_end ?_;intro n0 w2 hn hA hS;(try simp only [tkp,tka,tkz,tks])
     ((have hB0:=hB);have ne0:=Nat.ne_of_lt (Nat.lt_of_lt_of_le A0.lt hn);have ne1:=Nat.ne_of_lt (Nat.lt_of_lt_of_le A1.lt hn);have ne2:=Nat.ne_of_lt (Nat.lt_of_lt_of_le A2.lt hn);(clear l0 c0_0 c0_1 l1 c1_0 c1_1 l2 c2_0 c2_1 c2_2 c2_3 c2_4 c2_5 c2_6 c2_7);(replace hB:=Below.after2 Z3g (Nat.le_refl _) hS);replace A0:=At.keep Z3k hS;replace A1:=At.keep Z3h hS;replace A2:=At.keep Z3j hS;clear hS;obtain ⟨l0,c0_0,c0_1⟩:=At.two A0;obtain ⟨l1,c1_0,c1_1⟩:=At.two A1;obtain ⟨l2,c2_0,c2_1,c2_2,c2_3,c2_4,c2_5,c2_6,c2_7⟩:=At.bx1 A2;have A3:=hA;clear hA;obtain ⟨l3,c3_0,c3_1,c3_2,c3_3,c3_4,c3_5⟩:=At.six A3;have z3_0:=A3.thaw 0;have z3_1:=A3.thaw 1;have z3_2:=A3.thaw 2;have z3_3:=A3.thaw 3;have z3_4:=A3.thaw 4;have z3_5:=A3.thaw 5;have g0:=Nat.le_trans Z3z hn;clear hB0)
     (refine Drawn.text_cons Z3n ?_;intro K hK;go_simp;refine hK _ _ ?_;clear hK K)
     refine tkT ?_;intro K hK;go_simp;refine hK _ _ (Drawn.text_nil ?_);clear hK K
     (generalize hW:World.setCell (World.setCell (World.setCell (World.setCell (World.setCell (World.setCell _ _ _) _ _) _ _) _ _) _ _) _ _=W1;clear l0 c0_0 c0_1 l1 c1_0 c1_1 l2 c2_0 c2_1 c2_2 c2_3 c2_4 c2_5 c2_6 c2_7 l3 c3_0 c3_1 c3_2 c3_3 c3_4 c3_5 z3_0 z3_1 z3_2 z3_3 z3_4 z3_5;replace A3:At W1 _ _:=hW ▸ (At.put6 A3 _ _ _ _ _ _);replace A0:At W1 _ _:=hW ▸ (At.off (At.off (At.off (At.off (At.off (At.off A0 ne0 _ _) ne0 _ _) ne0 _ _) ne0 _ _) ne0 _ _) ne0 _ _);replace A1:At W1 _ _:=hW ▸ (At.off (At.off (At.off (At.off (At.off (At.off A1 ne1 _ _) ne1 _ _) ne1 _ _) ne1 _ _) ne1 _ _) ne1 _ _);replace A2:At W1 _ _:=hW ▸ (At.off (At.off (At.off (At.off (At.off (At.off A2 ne2 _ _) ne2 _ _) ne2 _ _) ne2 _ _) ne2 _ _) ne2 _ _);replace hB:Below w.heap.size w W1:=hW ▸ (Below.setCell (Below.setCell (Below.setCell (Below.setCell (Below.setCell (Below.setCell hB g0 _) g0 _) g0 _) g0 _) g0 _) g0 _);clear hW ne0 ne1 ne2;obtain ⟨l0,c0_0,c0_1⟩:=At.two A0;obtain ⟨l1,c1_0,c1_1⟩:=At.two A1;obtain ⟨l2,c2_0,c2_1,c2_2,c2_3,c2_4,c2_5,c2_6,c2_7⟩:=At.bx1 A2;obtain ⟨l3,c3_0,c3_1,c3_2,c3_3,c3_4,c3_5⟩:=At.six A3)
     have HF:=Lib.hid hf
     clear hf
     go_upto_region 4 with (fail)
     refine sqt ?_
     (repeat (first | refine sqk ?_ | refine sqc ?_ (hc:=by intro w2 hS;first | with_reducible exact qaB hS (ffix_any _ _ _ _ _ _ _ _)) | refine sqv ?_))
     refine Drawn.seq_end ?_;intro w2 hS
     (clear l0 c0_0 c0_1 l1 c1_0 c1_1 l2 c2_0 c2_1 c2_2 c2_3 c2_4 c2_5 c2_6 c2_7 l3 c3_0 c3_1 c3_2 c3_3 c3_4 c3_5);(replace hB:=Below.after2 Z3g (Nat.le_refl _) hS);replace A0:=At.keep Z3k hS;replace A1:=At.keep Z3h hS;replace A2:=At.keep Z3j hS;replace A3:=At.keep Z3m hS;clear hS;obtain ⟨l0,c0_0,c0_1⟩:=At.two A0;obtain ⟨l1,c1_0,c1_1⟩:=At.two A1;obtain ⟨l2,c2_0,c2_1,c2_2,c2_3,c2_4,c2_5,c2_6,c2_7⟩:=At.bx1 A2;obtain ⟨l3,c3_0,c3_1,c3_2,c3_3,c3_4,c3_5⟩:=At.six A3
     rw [HF.out]
     go_upto_region 5 with (fail)
     refine sqt ?_
     (repeat (first | refine sqk ?_ | refine sqc ?_ (hc:=by intro w2 hS;first | with_reducible exact qaB hS (len_any _ _ _ _ _) | with_reducible exact qaB hS (flim_any _ _ _ _ _ _ _ _ _)) | refine sqv ?_))
     refine Drawn.seq_end ?_;intro w2 hS
     (clear l0 c0_0 c0_1 l1 c1_0 c1_1 l2 c2_0 c2_1 c2_2 c2_3 c2_4 c2_5 c2_6 c2_7 l3 c3_0 c3_1 c3_2 c3_3 c3_4 c3_5);(replace hB:=Below.after2 Z3g (Nat.le_refl _) hS);replace A0:=At.keep Z3k hS;replace A1:=At.keep Z3h hS;replace A2:=At.keep Z3j hS;replace A3:=At.keep Z3m hS;clear hS;obtain ⟨l0,c0_0,c0_1⟩:=At.two A0;obtain ⟨l1,c1_0,c1_1⟩:=At.two A1;obtain ⟨l2,c2_0,c2_1,c2_2,c2_3,c2_4,c2_5,c2_6,c2_7⟩:=At.bx1 A2;obtain ⟨l3,c3_0,c3_1,c3_2,c3_3,c3_4,c3_5⟩:=At.six A3
     go_wp2
     go_ret
     refine ⟨ret_int ?_,?_⟩
     · unfold Fw.wth Fw.fxd;rw [if_neg (fun q=>q rfl),if_pos HF.out];rfl
     · exact Z6
 · have hne:(t1 != -1)=true:=by simpa using ht
   go_enter Tryz.func74,Tryz.ntmps74
   go_upto_region 1 with (fail)
   generalize hW:World.alloc _ _=W0
   have A0:At W0 w.heap.size (.cells #[.int .i64 r0,.int .i64 r1] 88):=hW ▸ At.alloc (At.new _ _) _
   have A1:At W0 (w.heap.size + 1) (.cells #[.int .i64 t0,.int .i64 t1] 88):=by rw [← hW];exact At.new' _ Z3s
   have A2:BxAt W0 b s fl ap ib:=hW ▸ BxAt.alloc (BxAt.alloc h _) _
   have hB:Below w.heap.size w W0:=hW ▸ Below.alloc' (Below.alloc' (Below.refl _ _) _) _
   clear hW h
   obtain ⟨l0,c0_0,c0_1⟩:=A0.two
   obtain ⟨l1,c1_0,c1_1⟩:=A1.two
   obtain ⟨l2,c2_0,c2_1,c2_2,c2_3,c2_4,c2_5,c2_6,c2_7⟩:=At.bx1 A2
   refine sbtT [0,1,2,3,4,5,6,7,8,9,10,11,12] 13 14 ?_ (norm:=[⟨_,_,_,_,_,_⟩,⟨_,_,_,_,_,_⟩,⟨_,_,_,_,_,_⟩,⟨_,_,_,_,_,_⟩,⟨_,_,_,_,_,_⟩,⟨_,_,_,_,_,_⟩,⟨_,_,_,_,_,_⟩,⟨_,_,_,_,_,_⟩,⟨_,_,_,_,_,_⟩,⟨_,_,_,_,_,_⟩,⟨_,_,_,_,_,_⟩,⟨_,_,_,_,_,_⟩,⟨_,_,_,_,_,_⟩]) (tail:=[⟨_,_,_,_,_,_⟩,⟨_,_,_,_,_,_⟩]) (x:= .cells #[.int .i64 0,.int .i64 0,.int .i64 0,.int .i64 0,.int .i64 0,.int .i64 0] 136) (so:=⟨_,_,_,_,_,_⟩)
   (repeat (first | refine sbk ?_ | refine sbc ?_ (hc:=by intro w2 hS;first | with_reducible exact (fall_any _ _ _)) | refine sbv ?_))
   refine Drawn.bseq_end ?_;intro n0 w2 hn hA hS;(try simp only [tkp,tka,tkz,tks])
   ((have hB0:=hB);have ne0:=Nat.ne_of_lt (Nat.lt_of_lt_of_le A0.lt hn);have ne1:=Nat.ne_of_lt (Nat.lt_of_lt_of_le A1.lt hn);have ne2:=Nat.ne_of_lt (Nat.lt_of_lt_of_le A2.lt hn);(clear l0 c0_0 c0_1 l1 c1_0 c1_1 l2 c2_0 c2_1 c2_2 c2_3 c2_4 c2_5 c2_6 c2_7);(replace hB:=Below.after2 Z3g (Nat.le_refl _) hS);replace A0:=At.keep Z3k hS;replace A1:=At.keep Z3h hS;replace A2:=At.keep Z3j hS;clear hS;obtain ⟨l0,c0_0,c0_1⟩:=At.two A0;obtain ⟨l1,c1_0,c1_1⟩:=At.two A1;obtain ⟨l2,c2_0,c2_1,c2_2,c2_3,c2_4,c2_5,c2_6,c2_7⟩:=At.bx1 A2;have A3:=hA;clear hA;obtain ⟨l3,c3_0,c3_1,c3_2,c3_3,c3_4,c3_5⟩:=At.six A3;have z3_0:=A3.thaw 0;have z3_1:=A3.thaw 1;have z3_2:=A3.thaw 2;have z3_3:=A3.thaw 3;have z3_4:=A3.thaw 4;have z3_5:=A3.thaw 5;have g0:=Nat.le_trans Z3z hn;clear hB0)
   (refine Drawn.text_cons Z3n ?_;intro K hK;go_simp;refine hK _ _ ?_;clear hK K)
   refine tkT ?_;intro K hK;go_simp;refine hK _ _ (Drawn.text_nil ?_);clear hK K
   (generalize hW:World.setCell (World.setCell (World.setCell (World.setCell (World.setCell (World.setCell _ _ _) _ _) _ _) _ _) _ _) _ _=W1;clear l0 c0_0 c0_1 l1 c1_0 c1_1 l2 c2_0 c2_1 c2_2 c2_3 c2_4 c2_5 c2_6 c2_7 l3 c3_0 c3_1 c3_2 c3_3 c3_4 c3_5 z3_0 z3_1 z3_2 z3_3 z3_4 z3_5;replace A3:At W1 _ _:=hW ▸ (At.put6 A3 _ _ _ _ _ _);replace A0:At W1 _ _:=hW ▸ (At.off (At.off (At.off (At.off (At.off (At.off A0 ne0 _ _) ne0 _ _) ne0 _ _) ne0 _ _) ne0 _ _) ne0 _ _);replace A1:At W1 _ _:=hW ▸ (At.off (At.off (At.off (At.off (At.off (At.off A1 ne1 _ _) ne1 _ _) ne1 _ _) ne1 _ _) ne1 _ _) ne1 _ _);replace A2:At W1 _ _:=hW ▸ (At.off (At.off (At.off (At.off (At.off (At.off A2 ne2 _ _) ne2 _ _) ne2 _ _) ne2 _ _) ne2 _ _) ne2 _ _);replace hB:Below w.heap.size w W1:=hW ▸ (Below.setCell (Below.setCell (Below.setCell (Below.setCell (Below.setCell (Below.setCell hB g0 _) g0 _) g0 _) g0 _) g0 _) g0 _);clear hW ne0 ne1 ne2;obtain ⟨l0,c0_0,c0_1⟩:=At.two A0;obtain ⟨l1,c1_0,c1_1⟩:=At.two A1;obtain ⟨l2,c2_0,c2_1,c2_2,c2_3,c2_4,c2_5,c2_6,c2_7⟩:=At.bx1 A2;obtain ⟨l3,c3_0,c3_1,c3_2,c3_3,c3_4,c3_5⟩:=At.six A3)
   go_wp2
   go_ret
   refine ⟨ret_int ?_,?_⟩
   · unfold Fw.wth;rw [if_pos ht];(try simp only [wr64,wri]);rfl
   · exact Z6
end Go.Proofs.YteggipnplbkijaaGreat.Fix
