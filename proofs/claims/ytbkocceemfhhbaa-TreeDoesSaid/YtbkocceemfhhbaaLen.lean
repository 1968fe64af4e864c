/- The contracts of the calls of the layer length (and of the document's own answers for it): for all integers each call returns what the plain function of XLenMath says, and leaves all that was there as it was. -/
import Derived.Test.YtbkocceemfhhbaaFix
import Derived.Test.YtbkocceemfhhbaaLenMath
import Derived.Test.YtbkocceemfhhbaaMem
import Derived.Test.YtbkocceemfhhbaaDrawn
import Derived.Deep.QuietTactic
import Derived.Deep.Cut
import Derived.BigQuiet
import Derived.WalkMore
namespace Go.Proofs.Ytbkocceemfhhbaa.Fix
open Go.ChangeShapes Go.WideShapes Go.ChangeAt Go.RowKit
set_option linter.unusedVariables false


theorem valid_any (k n : Int) (w : World) : Calls Try.prog 85 #[.agg #[.int .i64 k, .int .i64 n]] w fun e w' => e = .returned (.bool (Fx.valid k n)) ∧ Below w.heap.size w w' := by
  by_cases h0 : k = 0
  · subst h0
    go_enter Try.func85, Try.ntmps85
    go_wp2
    go_ret
    refine ⟨ret_bool (by unfold Fx.valid; rw [if_pos rfl]; rfl), ?_⟩
    (repeat (first | exact Below.refl _ _ | assumption | refine Below.drew ?_ | refine Below.drewN ?_ _ | refine Below.alloc' ?_ _ | refine Below.setCell ?_ (by first | (simp; done) | (simp; omega)) _ | refine Below.after2 ?_ (Nat.le_refl _) (by assumption)))
  · by_cases h1 : k = 1
    · subst h1
      go_enter Try.func85, Try.ntmps85
      go_wp2
      refine Drawn.wp_region_from (by first | assumption | exact Below.refl _ _) (by kernel_rfl) (by kernel_rfl) (by kernel_rfl) ?_
      (repeat (first | (refine Drawn.seq_skip (by rfl) ?_; (try simp only [Act.put, List.setIfInBounds_toArray, List.set_cons_zero, List.set_cons_succ])) | (refine Drawn.seq_call (o := ⟨_, .call ⟨.value _, _, _⟩, _, _, _, _⟩) (by rfl) (by intro w2 hS; go_simp; first | done | with_reducible rfl | exact ⟨rfl, rfl⟩) (by intro w2 hS; first | ((with_reducible refine (cut_any _ _).mono ?_); rintro e w' ⟨rfl, rfl⟩; exact ⟨rfl, hS⟩)) ?_; (try simp only [Act.put, List.setIfInBounds_toArray, List.set_cons_zero, List.set_cons_succ])) | (refine Drawn.seq_value (by rfl) (by intro w2 hS; obtain ⟨hc, hf⟩ := bcell hS; go_simp; first | done | with_reducible rfl | exact ⟨rfl, rfl⟩) ?_; (try simp only [Act.put, List.setIfInBounds_toArray, List.set_cons_zero, List.set_cons_succ]))))
      refine Drawn.seq_end ?_; intro w2 hS
      go_wp2
      go_ret
      refine ⟨ret_bool (by unfold Fx.valid; rw [if_neg (by omega), if_pos rfl]; rfl), ?_⟩
      (repeat (first | exact Below.refl _ _ | assumption | refine Below.drew ?_ | refine Below.drewN ?_ _ | refine Below.alloc' ?_ _ | refine Below.setCell ?_ (by first | (simp; done) | (simp; omega)) _ | refine Below.after2 ?_ (Nat.le_refl _) (by assumption)))
    · by_cases h2 : k = 2
      · subst h2
        go_enter Try.func85, Try.ntmps85
        go_wp2
        all_goals
          go_ret
          refine ⟨ret_bool (by unfold Fx.valid; rw [if_neg (by omega), if_neg (by omega), if_pos rfl]; simp [*] <;> omega), ?_⟩
          (repeat (first | exact Below.refl _ _ | assumption | refine Below.drew ?_ | refine Below.drewN ?_ _ | refine Below.alloc' ?_ _ | refine Below.setCell ?_ (by first | (simp; done) | (simp; omega)) _ | refine Below.after2 ?_ (Nat.le_refl _) (by assumption)))
      · have g0 : (k == 0) = false := by simp [h0]
        have g1 : (k == 1) = false := by simp [h1]
        have g2 : (k == 2) = false := by simp [h2]
        go_enter Try.func85, Try.ntmps85
        go_wp2
        go_ret
        refine ⟨ret_bool (by unfold Fx.valid; rw [if_neg h0, if_neg h1, if_neg h2]), ?_⟩
        (repeat (first | exact Below.refl _ _ | assumption | refine Below.drew ?_ | refine Below.drewN ?_ _ | refine Below.alloc' ?_ _ | refine Below.setCell ?_ (by first | (simp; done) | (simp; omega)) _ | refine Below.after2 ?_ (Nat.le_refl _) (by assumption)))

theorem rvalid_any (k n : Int) (w : World) : Calls Try.prog 61 #[.agg #[.int .i64 k, .int .i64 n]] w fun e w' => e = .returned (.bool (Fx.valid k n)) ∧ Below w.heap.size w w' := by
  by_cases h0 : k = 0
  · subst h0
    go_enter Try.func61, Try.ntmps61
    go_wp2
    go_ret
    refine ⟨ret_bool (by unfold Fx.valid; rw [if_pos rfl]; rfl), ?_⟩
    (repeat (first | exact Below.refl _ _ | assumption | refine Below.drew ?_ | refine Below.drewN ?_ _ | refine Below.alloc' ?_ _ | refine Below.setCell ?_ (by first | (simp; done) | (simp; omega)) _ | refine Below.after2 ?_ (Nat.le_refl _) (by assumption)))
  · by_cases h1 : k = 1
    · subst h1
      go_enter Try.func61, Try.ntmps61
      go_wp2
      all_goals
        go_ret
        refine ⟨ret_bool (by unfold Fx.valid Fx.cut; rw [if_neg (by omega), if_pos rfl]; (repeat' split) <;> rw [Bool.eq_iff_iff] <;> simp <;> omega), ?_⟩
        (repeat (first | exact Below.refl _ _ | assumption | refine Below.drew ?_ | refine Below.drewN ?_ _ | refine Below.alloc' ?_ _ | refine Below.setCell ?_ (by first | (simp; done) | (simp; omega)) _ | refine Below.after2 ?_ (Nat.le_refl _) (by assumption)))
    · by_cases h2 : k = 2
      · subst h2
        go_enter Try.func61, Try.ntmps61
        go_wp2
        all_goals
          go_ret
          refine ⟨ret_bool (by unfold Fx.valid; rw [if_neg (by omega), if_neg (by omega), if_pos rfl]; simp [*] <;> omega), ?_⟩
          (repeat (first | exact Below.refl _ _ | assumption | refine Below.drew ?_ | refine Below.drewN ?_ _ | refine Below.alloc' ?_ _ | refine Below.setCell ?_ (by first | (simp; done) | (simp; omega)) _ | refine Below.after2 ?_ (Nat.le_refl _) (by assumption)))
      · have g0 : (k == 0) = false := by simp [h0]
        have g1 : (k == 1) = false := by simp [h1]
        have g2 : (k == 2) = false := by simp [h2]
        go_enter Try.func61, Try.ntmps61
        go_wp2
        go_ret
        refine ⟨ret_bool (by unfold Fx.valid; rw [if_neg h0, if_neg h1, if_neg h2]), ?_⟩
        (repeat (first | exact Below.refl _ _ | assumption | refine Below.drew ?_ | refine Below.drewN ?_ _ | refine Below.alloc' ?_ _ | refine Below.setCell ?_ (by first | (simp; done) | (simp; omega)) _ | refine Below.after2 ?_ (Nat.le_refl _) (by assumption)))

end Go.Proofs.Ytbkocceemfhhbaa.Fix
