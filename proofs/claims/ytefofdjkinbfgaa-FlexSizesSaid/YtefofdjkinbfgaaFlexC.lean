/- The contracts of Clamp of the layer flex, and of the document's own answer for it. -/
import Derived.Test.YtefofdjkinbfgaaFlex
namespace Go.Proofs.Ytefofdjkinbfgaa.Fix
open Go.ChangeShapes Go.WideShapes Go.ChangeAt Go.RowKit
set_option linter.unusedVariables false

theorem At.five {W : World} {b : Nat} {x y z u v : Value} {T : TypeId} (h : At W b (.cells #[x, y, z, u, v] T)) : b < W.heap.size ∧ W.cell? ⟨b, 0, none⟩ = some x ∧ W.cell? ⟨b, 1, none⟩ = some y ∧ W.cell? ⟨b, 2, none⟩ = some z ∧ W.cell? ⟨b, 3, none⟩ = some u ∧ W.cell? ⟨b, 4, none⟩ = some v := ⟨h.lt, h.cell 0, h.cell 1, h.cell 2, h.cell 3, h.cell 4⟩

theorem finn_any (n lo hi : Int) (w : World) (h : (0 ≤ lo ∧ lo ≤ 1048576) ∧ 0 ≤ hi ∧ hi ≤ 1048576) : Calls Try.prog 20 #[.int .i64 n, .int .i64 lo, .int .i64 hi] w fun e w' => e = .returned (.int .i64 (Fe.inn lo hi n)) ∧ w = w' := by
  rw [← Fe.fix_inn h.1.1 h.1.2 h.2.1 h.2.2]
  exact clamp_any n lo hi w

theorem counted5 (b lo hi g s : Int) (w : World) : Calls Try.prog 19 #[.agg #[.int .i64 b, .int .i64 lo, .int .i64 hi, .int .i64 g, .int .i64 s]] w fun e w' => e = .returned (enc (Fe.cnt ⟨b, lo, hi, g, s⟩)) ∧ Below w.heap.size w w' := counted_any ⟨b, lo, hi, g, s⟩ w
theorem sound5 (b lo hi g s : Int) (w : World) : Calls Try.prog 21 #[.agg #[.int .i64 b, .int .i64 lo, .int .i64 hi, .int .i64 g, .int .i64 s]] w fun e w' => e = .returned (enc (Fe.cnt ⟨b, lo, hi, g, s⟩)) ∧ Below w.heap.size w w' := sound_any ⟨b, lo, hi, g, s⟩ w

set_option maxHeartbeats 4000000 in
theorem xclamp_any (x : Fe.It) (n : Int) (w : World) : Calls Try.prog 12 #[enc x, .int .i64 n] w fun e w' => e = .returned (.int .i64 (Fe.clamp x n)) ∧ Below w.heap.size w w' := by
  obtain ⟨b, lo, hi, g, s⟩ := x
  obtain ⟨d1, d2, d3, d4, d5, d6, d7, d8, d9, d10⟩ := Fe.cnt_bd ⟨b, lo, hi, g, s⟩
  unfold Fe.clamp
  have HC : Hid (Fe.cnt ⟨b, lo, hi, g, s⟩ = Fe.cnt ⟨b, lo, hi, g, s⟩) := Lib.hid rfl
  generalize hc : Fe.cnt ⟨b, lo, hi, g, s⟩ = c at *
  obtain ⟨b', lo', hi', g', s'⟩ := c
  simp only at d1 d2 d3 d4 d5 d6
  have HE := Lib.hid hc
  clear hc HC d7 d8 d9 d10
  simp only [enc]
  go_enter Try.func12, Try.ntmps12
  go_upto_region 1 with (fail)
  generalize hW : World.alloc _ _ = W0
  have A0 : At W0 w.heap.size (.cells #[.int .i64 b, .int .i64 lo, .int .i64 hi, .int .i64 g, .int .i64 s] 28) := hW ▸ At.new _ _
  have hB : Below w.heap.size w W0 := hW ▸ Below.alloc' (Below.refl _ _) _
  clear hW
  obtain ⟨l0, c0, c1, c2, c3, c4⟩ := A0.five
  go_upto_region 2 with (go_at_call 19; (with_reducible refine (counted5 _ _ _ _ _ _).mono ?_); rintro e w' ⟨rfl, hb⟩; rw [HE.out]; simp only [enc]; clear l0 c0 c1 c2 c3 c4; replace A0 := A0.keep hb; replace hB := Below.after2 hB (Nat.le_refl _) hb; clear hb; obtain ⟨l0, c0, c1, c2, c3, c4⟩ := A0.five; have z0 := A0.thaw 0; have z1 := A0.thaw 1; have z2 := A0.thaw 2; have z3 := A0.thaw 3; have z4 := A0.thaw 4)
  go_wp2_with (first | (go_at_call 20; (with_reducible refine (finn_any _ _ _ _ ⟨by omega, by omega⟩).mono ?_); rintro e w' ⟨rfl, rfl⟩))
  go_ret
  exact ⟨ret_int (by unfold Fe.inn; (repeat' split) <;> omega), by (repeat (first | exact Below.refl _ _ | assumption | refine Below.drew ?_ | refine Below.drewN ?_ _ | refine Below.alloc' ?_ _ | refine Below.setCell ?_ (by first | (simp; done) | (simp; omega)) _ | refine Below.after2 ?_ (Nat.le_refl _) (by assumption)))⟩

set_option maxHeartbeats 4000000 in
theorem rxclamp_any (x : Fe.It) (n : Int) (w : World) : Calls Try.prog 13 #[enc x, .int .i64 n] w fun e w' => e = .returned (.int .i64 (Fe.clamp x n)) ∧ Below w.heap.size w w' := by
  obtain ⟨b, lo, hi, g, s⟩ := x
  obtain ⟨d1, d2, d3, d4, d5, d6, d7, d8, d9, d10⟩ := Fe.cnt_bd ⟨b, lo, hi, g, s⟩
  unfold Fe.clamp
  have HC : Hid (Fe.cnt ⟨b, lo, hi, g, s⟩ = Fe.cnt ⟨b, lo, hi, g, s⟩) := Lib.hid rfl
  generalize hc : Fe.cnt ⟨b, lo, hi, g, s⟩ = c at *
  obtain ⟨b', lo', hi', g', s'⟩ := c
  simp only at d1 d2 d3 d4 d5 d6
  have HE := Lib.hid hc
  clear hc HC d7 d8 d9 d10
  simp only [enc]
  go_enter Try.func13, Try.ntmps13
  go_upto_region 1 with (fail)
  generalize hW : World.alloc _ _ = W0
  have A0 : At W0 w.heap.size (.cells #[.int .i64 b, .int .i64 lo, .int .i64 hi, .int .i64 g, .int .i64 s] 30) := hW ▸ At.new _ _
  have hB : Below w.heap.size w W0 := hW ▸ Below.alloc' (Below.refl _ _) _
  clear hW
  obtain ⟨l0, c0, c1, c2, c3, c4⟩ := A0.five
  go_upto_region 2 with (go_at_call 21; (with_reducible refine (sound5 _ _ _ _ _ _).mono ?_); rintro e w' ⟨rfl, hb⟩; rw [HE.out]; simp only [enc]; clear l0 c0 c1 c2 c3 c4; replace A0 := A0.keep hb; replace hB := Below.after2 hB (Nat.le_refl _) hb; clear hb; obtain ⟨l0, c0, c1, c2, c3, c4⟩ := A0.five; have z0 := A0.thaw 0; have z1 := A0.thaw 1; have z2 := A0.thaw 2; have z3 := A0.thaw 3; have z4 := A0.thaw 4)
  go_wp2_with (first | (go_at_call 20; (with_reducible refine (finn_any _ _ _ _ ⟨by omega, by omega⟩).mono ?_); rintro e w' ⟨rfl, rfl⟩))
  go_ret
  exact ⟨ret_int (by unfold Fe.inn; (repeat' split) <;> omega), by (repeat (first | exact Below.refl _ _ | assumption | refine Below.drew ?_ | refine Below.drewN ?_ _ | refine Below.alloc' ?_ _ | refine Below.setCell ?_ (by first | (simp; done) | (simp; omega)) _ | refine Below.after2 ?_ (Nat.le_refl _) (by assumption)))⟩

end Go.Proofs.Ytefofdjkinbfgaa.Fix
