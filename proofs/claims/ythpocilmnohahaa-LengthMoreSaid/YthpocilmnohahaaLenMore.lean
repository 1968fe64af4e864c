/- LengthMore: it returns true, and leaves all that was there as it was. -/
import Derived.Test.YthpocilmnohahaaLenLaws
import Derived.IntWalk
namespace Go.Proofs.Ythpocilmnohahaa.Fix
open Go.ChangeShapes Go.WideShapes Go.ChangeAt Go.RowKit
set_option linter.unusedVariables false

set_option maxHeartbeats 8000000 in
theorem lmore_walk (n low high more base : Int) (w : World) : Calls Try.prog 9 #[.int .i64 n, .int .i64 low, .int .i64 high, .int .i64 more, .int .i64 base] w fun e w' => e = .returned (.bool true) ∧ Below w.heap.size w w' := by
  by_cases h : (-1073741824 ≤ n ∧ n ≤ 1073741824) ∧ (-1073741824 ≤ low ∧ low ≤ 1073741824) ∧ (-1073741824 ≤ high ∧ high ≤ 1073741824) ∧ (0 ≤ more ∧ more ≤ 1073741824)
  · obtain ⟨⟨n1, n2⟩, ⟨l1, l2⟩, ⟨h1, h2⟩, ⟨m1, m2⟩⟩ := h
    have e1 := @Fx.limit_px n low high base (by omega) (by omega) (by omega) (by omega) (by omega) (by omega)
    have e2 := @Fx.limit_px n (low + more) high base (by omega) (by omega) (by omega) (by omega) (by omega) (by omega)
    have e3 := @Fx.limit_px n low (high + more) base (by omega) (by omega) (by omega) (by omega) (by omega) (by omega)
    have f1 : Fx.limit n 1 low 1 high base ≤ Fx.limit n 1 (low + more) 1 high base := by
      rw [e1, e2]; unfold Fx.mx; (repeat' split) <;> omega
    have f2 : Fx.limit n 1 low 1 high base ≤ Fx.limit n 1 low 1 (high + more) base := by
      rw [e1, e3]; unfold Fx.mx; (repeat' split) <;> omega
    clear e1 e2 e3
    have f3 := @Fx.limit_none n base (by omega) (by omega)
    have w1 : IntKind.i64.wrap (low + more) = low + more := IntWalk.i64_in _ (by omega)
    have w2 : IntKind.i64.wrap (high + more) = high + more := IntWalk.i64_in _ (by omega)
    have d1 : decide (n < -1073741824) = false := by simp; omega
    have d2 : decide (1073741824 < n) = false := by simp; omega
    have d3 : decide (low < -1073741824) = false := by simp; omega
    have d4 : decide (1073741824 < low) = false := by simp; omega
    have d5 : decide (high < -1073741824) = false := by simp; omega
    have d6 : decide (1073741824 < high) = false := by simp; omega
    have d7 : decide (more < 0) = false := by simp; omega
    have d8 : decide (1073741824 < more) = false := by simp; omega
    by_cases h0 : n < 0
    · have f4 : Fx.mx n 0 = 0 := by unfold Fx.mx; rw [if_pos h0]
      rw [f4] at f3
      go_enter Try.func9, Try.ntmps9
      go_wp2_with (first | (go_at_call 10; (with_reducible refine (lworks_any _).mono ?_); rintro e w' ⟨rfl, hb⟩; (try replace hb := Below.after (by assumption) hb); obtain ⟨hc, hf⟩ := bcell hb; have hz := hb.size; (try simp at hz)) | (go_at_call 19; (with_reducible refine (limit_any _ _ _ _ _ _ _).mono ?_); rintro e w' ⟨rfl, hb⟩; (try replace hb := Below.after (by assumption) hb); obtain ⟨hc, hf⟩ := bcell hb; have hz := hb.size; (try simp at hz)))
      go_ret
      refine ⟨rfl, ?_⟩
      (repeat (first | exact Below.refl _ _ | assumption | refine Below.drew ?_ | refine Below.drewN ?_ _ | refine Below.alloc' ?_ _ | refine Below.setCell ?_ (by first | (simp; done) | (simp; omega)) _ | refine Below.after2 ?_ (Nat.le_refl _) (by assumption)))
    · have h0' := Int.not_lt.1 h0
      have f4 : Fx.mx n 0 = n := by unfold Fx.mx; rw [if_neg h0]
      rw [f4] at f3
      go_enter Try.func9, Try.ntmps9
      go_wp2_with (first | (go_at_call 10; (with_reducible refine (lworks_any _).mono ?_); rintro e w' ⟨rfl, hb⟩; (try replace hb := Below.after (by assumption) hb); obtain ⟨hc, hf⟩ := bcell hb; have hz := hb.size; (try simp at hz)) | (go_at_call 19; (with_reducible refine (limit_any _ _ _ _ _ _ _).mono ?_); rintro e w' ⟨rfl, hb⟩; (try replace hb := Below.after (by assumption) hb); obtain ⟨hc, hf⟩ := bcell hb; have hz := hb.size; (try simp at hz)))
      go_ret
      refine ⟨rfl, ?_⟩
      (repeat (first | exact Below.refl _ _ | assumption | refine Below.drew ?_ | refine Below.drewN ?_ _ | refine Below.alloc' ?_ _ | refine Below.setCell ?_ (by first | (simp; done) | (simp; omega)) _ | refine Below.after2 ?_ (Nat.le_refl _) (by assumption)))
  · have H := Lib.hid h
    clear h
    go_enter Try.func9, Try.ntmps9
    go_upto_region 6 with (first | (go_at_call 10; (with_reducible refine (lworks_any _).mono ?_); rintro e w' ⟨rfl, hb⟩; (try replace hb := Below.after (by assumption) hb); obtain ⟨hc, hf⟩ := bcell hb; have hz := hb.size; (try simp at hz)))
    all_goals first
      | (go_ret; exact ⟨rfl, hb⟩)
      | (exfalso; exact H.out ⟨⟨by omega, by omega⟩, ⟨by omega, by omega⟩, ⟨by omega, by omega⟩, ⟨by omega, by omega⟩⟩)

end Go.Proofs.Ythpocilmnohahaa.Fix
