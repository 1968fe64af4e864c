/- The document's example of painting. -/
import Derived.Test.YtbmidmpooooheaaPaModel
import Derived.Test.YtbmidmpooooheaaMarStackR
namespace Go.Proofs.Ytbmidmpooooheaa.Fix
open Go.ChangeShapes Go.WideShapes Go.ChangeAt Go.RowKit Go.Deep Go.Joins
set_option linter.unusedVariables false
set_option linter.unusedSimpArgs false
set_option maxRecDepth 100000

theorem wpList_pvalue {P : Program} {ops : Array Oper} {rest : List Oper} {o : Oper} {a : Act} {w w' : World} {Q : Exit → Act → World → Prop} {v : Value} (hw : Region.wanted o (yielded ops a.tmps) = true) (hrun : (execOp a.eval o).run P w = .ok (.value v) w') (h : wpList P ops Q rest (a.put o.dst v) w') : wpList P ops Q (o :: rest) a w := by
  unfold wpList
  rw [if_pos hw]
  refine .inl ?_
  unfold Oper.wp
  rw [hrun]
  exact h
theorem wpList_pbuild {ops : Array Oper} {rest : List Oper} {o : Oper} {a : Act} {w : World} {Q : Exit → Act → World → Prop} (hw : Region.wanted o (yielded ops a.tmps) = true) (ps : Array (Nat × Operand)) (ho : o.op = .build 39 ps) {v : Value} (qs : Array (Nat × Value)) (hq : (ps.map fun p => (p.1, a.eval p.2)) = qs)
    (hrun : (Instr.build 39 qs).run Try.prog w = .ok v w) (h : wpList Try.prog ops Q rest (a.put o.dst v) w) : wpList Try.prog ops Q (o :: rest) a w :=
  wpList_pvalue hw (by unfold execOp; simp only [ho, hq, Sem.run_bind, hrun, Result.andThen_ok, Sem.run_pure]) h
theorem wpList_pslice {ops : Array Oper} {rest : List Oper} {o : Oper} {a : Act} {w w' : World} {Q : Exit → Act → World → Prop} (hw : Region.wanted o (yielded ops a.tmps) = true) (n : Nat) (ps : Array (Nat × Operand)) (ho : o.op = .buildSlice 22 n ps) {v : Value} (qs : Array (Nat × Value)) (hq : (ps.map fun p => (p.1, a.eval p.2)) = qs)
    (hrun : (Instr.buildSlice 22 n qs).run Try.prog w = .ok v w') (h : wpList Try.prog ops Q rest (a.put o.dst v) w') : wpList Try.prog ops Q (o :: rest) a w :=
  wpList_pvalue hw (by unfold execOp; simp only [ho, hq, Sem.run_bind, hrun, Result.andThen_ok, Sem.run_pure]) h

set_option maxHeartbeats 4000000 in
theorem paworks_any (C : PaintCode) (w : World) : Calls Try.prog 10 #[] w fun e w' => e = .returned (.bool true) ∧ Below w.heap.size w w' := by
  have hS := plw_nodes w
  have hB : Below w.heap.size w (w.alloc (.cells plwCells 39)) := Below.alloc' (Below.refl _ _) _
  have HV := Lib.hid plw_vB
  have HR := Lib.hid (pslice4 w)
  have HO := Lib.hid plw_ord
  have HL := Lib.hid plw_lay
  have H1 := Lib.hid plw_b1
  have H2 := Lib.hid plw_b2
  generalize hW : w.alloc (.cells plwCells 39) = w1 at *
  have keyO := C.order w1 _ plw 4 4 hS (by omega)
  rw [HO.out] at keyO
  have HS := Lib.hid hS
  have HB := Lib.hid hB
  clear hS hB hW
  go_enter Try.func10, Try.ntmps10
  go_upto_region 3 with (first | (refine wpList_pbuild (by rfl) _ rfl _ (by simp only [List.map_toArray, List.map_cons, List.map_nil]; rfl) (pbuild0 _ _) ?_) | (refine wpList_pbuild (by rfl) _ rfl _ (by simp only [List.map_toArray, List.map_cons, List.map_nil]; rfl) (pbuild3 _ _ _ _) ?_) | (refine wpList_pslice (by rfl) 4 _ rfl _ (by simp only [List.map_toArray, List.map_cons, List.map_nil]; rfl) HR.out ?_) | (go_at_call 16; (with_reducible refine keyO.mono ?_); rintro e w2 ⟨⟨B, d, rfl, hI⟩, hb2⟩))
  obtain ⟨b, o, rfl, hc⟩ := hI.2 (by simp [pints])
  have d0 : w2.cell? ⟨b, o, none⟩ = some (.int .i64 0) := hc 0 (by simp [pints])
  have d1 : w2.cell? ⟨b, o + 1, none⟩ = some (.int .i64 3) := hc 1 (by simp [pints])
  have d2 : w2.cell? ⟨b, o + 2, none⟩ = some (.int .i64 2) := hc 2 (by simp [pints])
  have d3 : w2.cell? ⟨b, o + 3, none⟩ = some (.int .i64 1) := hc 3 (by simp [pints])
  have HB2 := Lib.hid (HB.out.trans (hb2.mono HB.out.size))
  have k1 := C.before w2 _ plw 4 4 3 2 (HS.out.after hb2) (by omega)
  rw [H1.out] at k1
  have HS2 := Lib.hid (HS.out.after hb2)
  clear hI hc hb2 HS HB HO HR keyO
  go_wp2_with (first | (go_at_call 20; first | ((with_reducible refine k1.mono ?_); rintro e w3 ⟨rfl, hb3⟩; have HB3 := Lib.hid (HB2.out.trans (hb3.mono HB2.out.size)); have HS3 := Lib.hid (HS2.out.after hb3); have k2 := C.before w3 _ plw 4 4 2 3 HS3.out (by omega); rw [H2.out] at k2; clear hb3) | ((with_reducible refine k2.mono ?_); rintro e w4 ⟨rfl, hb4⟩; have HB4 := Lib.hid (HB3.out.trans (hb4.mono HB3.out.size)); have HS4 := Lib.hid (HS3.out.after hb4); have k3 := C.layer w4 _ plw 4 4 2 HS4.out (by omega); rw [HL.out] at k3; clear hb4)) | (go_at_call 18; (with_reducible refine k3.mono ?_); rintro e w5 ⟨rfl, hb5⟩; have HB5 := Lib.hid (HB4.out.trans (hb5.mono HB4.out.size)); have HS5 := Lib.hid (HS4.out.after hb5); have k4 := C.valid w5 _ plw 4 4 HS5.out (by omega); rw [HV.out] at k4; clear hb5) | (go_at_call 17; (with_reducible refine k4.mono ?_); rintro e w6 ⟨rfl, hb6⟩))
  go_ret
  exact ⟨rfl, HB5.out.trans (hb6.mono HB5.out.size)⟩

end Go.Proofs.Ytbmidmpooooheaa.Fix
