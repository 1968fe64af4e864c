/- The document's example of the layer flex (works). -/
import Derived.Test.YtefofdjkinbfgaaFlexSizes
namespace Go.Proofs.Ytefofdjkinbfgaa.Fix
open Go.ChangeShapes Go.WideShapes Go.ChangeAt Go.RowKit
set_option linter.unusedVariables false

def exItems (i : Nat) : Fe.It := if i = 0 then ⟨10, 0, 1000, 1, 0⟩ else ⟨10, 0, 1000, 2, 0⟩
theorem ex_sizes : sizesOf exItems 2 35 = [15, 20] := by decide
theorem ex_share : Fe.share 10 [1, 1, 1] = [3, 3, 4] := by decide
theorem ex_clamp : Fe.clamp ⟨0, 5, 9, 0, 0⟩ 11 = 9 := by decide

theorem ex_items (w : World) : Items (w.alloc (.cells #[.int .i64 10, .int .i64 0, .int .i64 1000, .int .i64 1, .int .i64 0, .int .i64 10, .int .i64 0, .int .i64 1000, .int .i64 2, .int .i64 0] 28)) (some ⟨w.heap.size, 0, none⟩) exItems 2 := fun _ => by
  have h := At.new w (.cells #[.int .i64 10, .int .i64 0, .int .i64 1000, .int .i64 1, .int .i64 0, .int .i64 10, .int .i64 0, .int .i64 1000, .int .i64 2, .int .i64 0] 28)
  refine ⟨w.heap.size, 0, rfl, by simp, fun k hk => ?_⟩
  rcases (show k = 0 ∨ k = 1 by omega) with rfl | rfl
  · exact ⟨h.cell 0, h.cell 1, h.cell 2, h.cell 3, h.cell 4⟩
  · exact ⟨h.cell 5, h.cell 6, h.cell 7, h.cell 8, h.cell 9⟩

theorem ints_cells {w : World} {b : Nat} {l : List Int} (h : Ints w (some ⟨b, 0, none⟩) l) {k : Nat} (hk : k < l.length) : b < w.heap.size ∧ w.cell? ⟨b, k, none⟩ = some (.int .i64 (l.getD k 0)) := by
  obtain ⟨b', o', e, hl, hc⟩ := h.at_ hk
  injection e with e
  injection e with e1 e2
  subst e1; subst e2
  rw [Nat.zero_add] at hc
  exact ⟨hl, hc⟩

set_option maxHeartbeats 4000000 in
theorem fworks_any (w : World) : Calls Try.prog 10 #[] w fun e w' => e = .returned (.bool true) ∧ Below w.heap.size w w' := by
  go_enter Try.func10, Try.ntmps10
  go_upto_region 2 with (go_at_call 15; refine (xsizes_any (some ⟨w.heap.size, 0, none⟩) exItems 2 2 35 _ (ex_items w) (by omega)).mono ?_; rintro e w1 ⟨⟨b, rfl, hbb, hI1⟩, hb1⟩)
  rw [ex_sizes] at hI1
  have hB1 : Below w.heap.size w w1 := Below.after2 (Below.alloc' (Below.refl _ _) _) (Nat.le_refl _) hb1
  clear hb1 hbb
  go_upto_region 3 with (go_at_call 17; refine (share_any (some ⟨w1.heap.size, 0, none⟩) [1, 1, 1] 3 3 10 _ (ints_new w1 [1, 1, 1] _ (by simp)) rfl (by omega)).mono ?_; rintro e w2 ⟨⟨b2, rfl, hbb, hI2⟩, hb2⟩)
  rw [ex_share] at hI2
  have hb3 : Below w1.heap.size w1 w2 := Below.after2 (Below.alloc' (Below.refl _ _) _) (Nat.le_refl _) hb2
  replace hB1 := Below.after2 hB1 (Nat.le_refl _) hb3
  replace hI1 := hI1.after hb3
  obtain ⟨l0, c0⟩ := ints_cells hI1 (k := 0) (by simp)
  obtain ⟨l1, c1⟩ := ints_cells hI1 (k := 1) (by simp)
  obtain ⟨l2, d0⟩ := ints_cells hI2 (k := 0) (by simp)
  obtain ⟨l3, d2⟩ := ints_cells hI2 (k := 2) (by simp)
  have HE := Lib.hid ex_clamp
  clear hb2 hb3 hbb hI1 hI2
  simp at c0 c1 d0 d2
  go_wp2_with (go_at_call 12; refine (xclamp5 0 5 9 0 0 11 _).mono ?_; rintro e w3 ⟨rfl, hb⟩; rw [HE.out])
  go_ret
  exact ⟨rfl, Below.after2 hB1 (Nat.le_refl _) hb⟩

end Go.Proofs.Ytefofdjkinbfgaa.Fix
