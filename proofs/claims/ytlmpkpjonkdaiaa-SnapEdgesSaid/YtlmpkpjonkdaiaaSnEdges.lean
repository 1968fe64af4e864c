/- SnapEdges: it returns true, and leaves all that was there as it was. Written by wip/tools/gensnlaws.py. -/
import Derived.Test.YtlmpkpjonkdaiaaSnapLaw0
import Derived.Test.YtlmpkpjonkdaiaaSnapMore
namespace Go.Proofs.Ytlmpkpjonkdaiaa.Fix
open Go.ChangeShapes Go.WideShapes Go.ChangeAt Go.RowKit Go.Deep Go.Joins
set_option linter.unusedVariables false
set_option linter.unusedSimpArgs false

theorem snedges_out (lo hi p : Int) (w : World) (h : lo < -1073741824 ∨ 1073741824 < hi ∨ hi < lo ∨ p < 0 ∨ 1073741824 < p) :
    Calls Try.prog 7 #[.agg #[.int .i64 lo, .int .i64 hi], .int .i64 p] w fun e w' => e = .returned (.bool true) ∧ Below w.heap.size w w' := by
  by_cases h0 : lo < -1073741824
  · have e0 : decide (lo < -1073741824) = true := by simp; omega
    go_enter Try.func7, Try.ntmps7
    go_wp2_with ((go_at_call 10; with_reducible refine (snworks_any _).mono ?_; rintro e w1 ⟨rfl, hb⟩; have hB := Below.after (Below.alloc' (Below.refl _ _) _) hb; obtain ⟨hc, hf⟩ := bcell hb))
    go_ret
    exact ⟨rfl, hB⟩
  · have e0 : decide (lo < -1073741824) = false := by simp; omega
    by_cases h1 : 1073741824 < hi
    · have e1 : decide (1073741824 < hi) = true := by simp; omega
      go_enter Try.func7, Try.ntmps7
      go_wp2_with ((go_at_call 10; with_reducible refine (snworks_any _).mono ?_; rintro e w1 ⟨rfl, hb⟩; have hB := Below.after (Below.alloc' (Below.refl _ _) _) hb; obtain ⟨hc, hf⟩ := bcell hb))
      go_ret
      exact ⟨rfl, hB⟩
    · have e1 : decide (1073741824 < hi) = false := by simp; omega
      by_cases h2 : hi < lo
      · have e2 : decide (hi < lo) = true := by simp; omega
        go_enter Try.func7, Try.ntmps7
        go_wp2_with ((go_at_call 10; with_reducible refine (snworks_any _).mono ?_; rintro e w1 ⟨rfl, hb⟩; have hB := Below.after (Below.alloc' (Below.refl _ _) _) hb; obtain ⟨hc, hf⟩ := bcell hb))
        go_ret
        exact ⟨rfl, hB⟩
      · have e2 : decide (hi < lo) = false := by simp; omega
        by_cases h3 : p < 0
        · have e3 : decide (p < 0) = true := by simp; omega
          go_enter Try.func7, Try.ntmps7
          go_wp2_with ((go_at_call 10; with_reducible refine (snworks_any _).mono ?_; rintro e w1 ⟨rfl, hb⟩; have hB := Below.after (Below.alloc' (Below.refl _ _) _) hb; obtain ⟨hc, hf⟩ := bcell hb))
          go_ret
          exact ⟨rfl, hB⟩
        · have e3 : decide (p < 0) = false := by simp; omega
          have h4 : 1073741824 < p := by omega
          have e4 : decide (1073741824 < p) = true := by simp; omega
          go_enter Try.func7, Try.ntmps7
          go_wp2_with ((go_at_call 10; with_reducible refine (snworks_any _).mono ?_; rintro e w1 ⟨rfl, hb⟩; have hB := Below.after (Below.alloc' (Below.refl _ _) _) hb; obtain ⟨hc, hf⟩ := bcell hb))
          go_ret
          exact ⟨rfl, hB⟩

set_option maxHeartbeats 4000000 in
theorem snedges_core (lo hi p : Int) (w : World) (h0 : -1073741824 ≤ lo) (h1 : hi ≤ 1073741824) (h2 : lo ≤ hi) (h3 : 0 ≤ p) (h4 : p ≤ 1073741824) :
    Calls Try.prog 7 #[.agg #[.int .i64 lo, .int .i64 hi], .int .i64 p] w fun e w' => e = .returned (.bool true) ∧ Below w.heap.size w w' := by
  have e0 : decide (lo < -1073741824) = false := by simp; omega
  have e1 : decide (1073741824 < hi) = false := by simp; omega
  have e2 : decide (hi < lo) = false := by simp; omega
  have e3 : decide (p < 0) = false := by simp; omega
  have e4 : decide (1073741824 < p) = false := by simp; omega
  have hp1 : p ≤ 9223372036854775807 := by omega
  obtain ⟨b, hb1, hb2⟩ : ∃ b, b ≤ hi - p ∧ hi - p ≤ b := ⟨hi - p, by omega, by omega⟩
  obtain ⟨m, hm⟩ : ∃ m, m = (lo + hi - p) / 2 := ⟨_, rfl⟩
  obtain ⟨d, hd1, hd2⟩ : ∃ d, d ≤ lo + hi - (m + m + p) ∧ lo + hi - (m + m + p) ≤ d := ⟨lo + hi - (m + m + p), by omega, by omega⟩
  have f1 : decide (0 ≤ d) = true := by simp; omega
  have f2 : decide (d ≤ 1) = true := by simp; omega
  have H1 : Hid (lo = Sn.at_ lo hi 1 p) := Lib.hid (Sn.edge_start (by omega) (by omega)).symm
  have H3 : Hid (b = Sn.at_ lo hi 3 p) := Lib.hid (by rw [Sn.edge_end (by omega) (by omega) (by omega) (by omega)]; omega)
  have H2 : Hid (m = Sn.at_ lo hi 2 p) := Lib.hid (by rw [Sn.edge_mid (by omega) (by omega) (by omega) (by omega) (by omega) (by omega)]; exact hm)
  have H0 : Hid (0 = Sn.at_ lo hi 0 p) := Lib.hid rfl
  obtain ⟨x1, hx1, hx1'⟩ : ∃ x, x ≤ lo + hi ∧ lo + hi ≤ x := ⟨lo + hi, by omega, by omega⟩
  obtain ⟨x2, hx2, hx2'⟩ : ∃ x, x ≤ m + m ∧ m + m ≤ x := ⟨m + m, by omega, by omega⟩
  obtain ⟨x3, hx3, hx3'⟩ : ∃ x, x ≤ x2 + p ∧ x2 + p ≤ x := ⟨x2 + p, by omega, by omega⟩
  have w1 : IntKind.i64.wrap (lo + hi) = x1 := by rw [IntWalk.i64_in _ (by omega)]; omega
  have w2 : IntKind.i64.wrap (m + m) = x2 := by rw [IntWalk.i64_in _ (by omega)]; omega
  have w3 : IntKind.i64.wrap (x2 + p) = x3 := by rw [IntWalk.i64_in _ (by omega)]; omega
  have w4 : IntKind.i64.wrap (x1 - x3) = d := by rw [IntWalk.i64_in _ (by omega)]; omega
  have w5 : IntKind.i64.wrap (b + p) = hi := by rw [IntWalk.i64_in _ (by omega)]; omega
  clear hm
  go_enter Try.func7, Try.ntmps7
  go_wp2_with (first | (go_at_call 10; with_reducible refine (snworks_any _).mono ?_; rintro e w1 ⟨rfl, hS⟩; have hB := Below.after (Below.alloc' (Below.refl _ _) _) hS; obtain ⟨hc, hf⟩ := bcell hS) | (go_at_call 12; with_reducible refine (snat_at (e := 1) (z := lo) (s := true) _ hp1 H1.out (by decide)).mono ?_; rintro e w3 ⟨rfl, hb⟩; replace hB := Below.after hB hb; replace hS := Below.after hS hb; obtain ⟨hc, hf⟩ := bcell hS) | (go_at_call 12; with_reducible refine (snat_at (e := 3) (z := b) (s := true) _ hp1 H3.out (by decide)).mono ?_; rintro e w4 ⟨rfl, hb⟩; replace hB := Below.after hB hb; replace hS := Below.after hS hb; obtain ⟨hc, hf⟩ := bcell hS) | (go_at_call 12; with_reducible refine (snat_at (e := 2) (z := m) (s := true) _ hp1 H2.out (by decide)).mono ?_; rintro e w5 ⟨rfl, hb⟩; replace hB := Below.after hB hb; replace hS := Below.after hS hb; obtain ⟨hc, hf⟩ := bcell hS) | (go_at_call 12; with_reducible refine (snat_at (e := 0) (z := 0) (s := false) _ hp1 H0.out (by decide)).mono ?_; rintro e w6 ⟨rfl, hb⟩; replace hB := Below.after hB hb; replace hS := Below.after hS hb; obtain ⟨hc, hf⟩ := bcell hS))
  go_ret
  exact ⟨rfl, hB⟩

theorem snedges_walk (lo hi p : Int) (w : World) : Calls Try.prog 7 #[.agg #[.int .i64 lo, .int .i64 hi], .int .i64 p] w fun e w' => e = .returned (.bool true) ∧ Below w.heap.size w w' := by
  by_cases h : lo < -1073741824 ∨ 1073741824 < hi ∨ hi < lo ∨ p < 0 ∨ 1073741824 < p
  · exact snedges_out lo hi p w h
  · exact snedges_core lo hi p w (by omega) (by omega) (by omega) (by omega) (by omega)

end Go.Proofs.Ytlmpkpjonkdaiaa.Fix
