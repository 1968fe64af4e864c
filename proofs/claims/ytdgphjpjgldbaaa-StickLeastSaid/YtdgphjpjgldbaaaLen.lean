/- The contracts of the calls of the layer length (and of the document's own answers for it): for all integers each call returns what the plain function of XLenMath says, and leaves all that was there as it was. -/
import Derived.Test.YtdgphjpjgldbaaaFix
import Derived.Test.YtdgphjpjgldbaaaLenMath
import Derived.Test.YtdgphjpjgldbaaaMem
import Derived.Test.YtdgphjpjgldbaaaDrawn
import Derived.Deep.QuietTactic
import Derived.Deep.Cut
import Derived.BigQuiet
import Derived.WalkMore
namespace Go.Proofs.Ytdgphjpjgldbaaa.Fix
open Go.ChangeShapes Go.WideShapes Go.ChangeAt Go.RowKit
set_option linter.unusedVariables false


theorem fixed_any (k n base : Int) (w : World) : Calls Try.prog 25 #[.agg #[.int .i64 k, .int .i64 n], .int .i64 base] w fun e w' => e = .returned (.bool (Fx.fixd k base)) ∧ Below w.heap.size w w' := by
  go_enter Try.func25, Try.ntmps25
  go_wp2
  all_goals go_ret
  all_goals
    refine ⟨ret_bool (by unfold Fx.fixd; simp [*]), ?_⟩
    (repeat (first | exact Below.refl _ _ | assumption | refine Below.drew ?_ | refine Below.drewN ?_ _ | refine Below.alloc' ?_ _ | refine Below.setCell ?_ (by first | (simp; done) | (simp; omega)) _ | refine Below.after2 ?_ (Nat.le_refl _) (by assumption)))

theorem rfixed_any (k n base : Int) (w : World) : Calls Try.prog 27 #[.agg #[.int .i64 k, .int .i64 n], .int .i64 base] w fun e w' => e = .returned (.bool (Fx.fixd k base)) ∧ Below w.heap.size w w' := by
  go_enter Try.func27, Try.ntmps27
  go_wp2
  all_goals go_ret
  all_goals
    refine ⟨ret_bool (by unfold Fx.fixd; simp [*]), ?_⟩
    (repeat (first | exact Below.refl _ _ | assumption | refine Below.drew ?_ | refine Below.drewN ?_ _ | refine Below.alloc' ?_ _ | refine Below.setCell ?_ (by first | (simp; done) | (simp; omega)) _ | refine Below.after2 ?_ (Nat.le_refl _) (by assumption)))

theorem len_any (k n base none : Int) (w : World) : Calls Try.prog 26 #[.agg #[.int .i64 k, .int .i64 n], .int .i64 base, .int .i64 none] w fun e w' => e = .returned (.int .i64 (Fx.len k n base none)) ∧ Below w.heap.size w w' := by
  cases hF : Fx.fixd k base with
  | false =>
    have Hr := Lib.hid (Fx.len_not (n := n) (none := none) hF)
    go_enter Try.func26, Try.ntmps26
    go_wp2_with (first | (go_at_call 35; (with_reducible refine (cut_any _ _).mono ?_); rintro e w' ⟨rfl, rfl⟩) | (go_at_call 25; (with_reducible refine (fixed_any _ _ _ _).mono ?_); rintro e w' ⟨rfl, hb⟩; (try replace hb := Below.after (by assumption) hb); obtain ⟨hc, hf⟩ := bcell hb; have hz := hb.size; (try simp at hz)))
    all_goals go_ret
    all_goals
      refine ⟨ret_int Hr.out.symm, ?_⟩
      (repeat (first | exact Below.refl _ _ | assumption | refine Below.drew ?_ | refine Below.drewN ?_ _ | refine Below.alloc' ?_ _ | refine Below.setCell ?_ (by first | (simp; done) | (simp; omega)) _ | refine Below.after2 ?_ (Nat.le_refl _) (by assumption)))
  | true =>
    have h := Fx.fixd_iff.1 hF
    by_cases h1 : k = 1
    · clear h
      subst h1
      have Hr := Lib.hid (Fx.len_px (k := 1) (n := n) (base := base) (none := none) rfl)
      go_enter Try.func26, Try.ntmps26
      go_wp2_with (first | (go_at_call 35; (with_reducible refine (cut_any _ _).mono ?_); rintro e w' ⟨rfl, rfl⟩) | (go_at_call 25; (with_reducible refine (fixed_any _ _ _ _).mono ?_); rintro e w' ⟨rfl, hb⟩; (try replace hb := Below.after (by assumption) hb); obtain ⟨hc, hf⟩ := bcell hb; have hz := hb.size; (try simp at hz)) | (go_at_call 39; (with_reducible refine (part_any _ _ _).mono ?_); rintro e w' ⟨rfl, rfl⟩))
      all_goals go_ret
      all_goals
        refine ⟨ret_int Hr.out.symm, ?_⟩
        (repeat (first | exact Below.refl _ _ | assumption | refine Below.drew ?_ | refine Below.drewN ?_ _ | refine Below.alloc' ?_ _ | refine Below.setCell ?_ (by first | (simp; done) | (simp; omega)) _ | refine Below.after2 ?_ (Nat.le_refl _) (by assumption)))
    · obtain ⟨h2, h3⟩ : k = 2 ∧ 0 ≤ base := by omega
      clear h
      subst h2
      have Hr := Lib.hid (Fx.len_per (k := 2) (n := n) (none := none) rfl h3)
      go_enter Try.func26, Try.ntmps26
      go_wp2_with (first | (go_at_call 35; (with_reducible refine (cut_any _ _).mono ?_); rintro e w' ⟨rfl, rfl⟩) | (go_at_call 25; (with_reducible refine (fixed_any _ _ _ _).mono ?_); rintro e w' ⟨rfl, hb⟩; (try replace hb := Below.after (by assumption) hb); obtain ⟨hc, hf⟩ := bcell hb; have hz := hb.size; (try simp at hz)) | (go_at_call 39; (with_reducible refine (part_any _ _ _).mono ?_); rintro e w' ⟨rfl, rfl⟩))
      all_goals go_ret
      all_goals
        refine ⟨ret_int Hr.out.symm, ?_⟩
        (repeat (first | exact Below.refl _ _ | assumption | refine Below.drew ?_ | refine Below.drewN ?_ _ | refine Below.alloc' ?_ _ | refine Below.setCell ?_ (by first | (simp; done) | (simp; omega)) _ | refine Below.after2 ?_ (Nat.le_refl _) (by assumption)))

theorem rlen_any (k n base none : Int) (w : World) : Calls Try.prog 28 #[.agg #[.int .i64 k, .int .i64 n], .int .i64 base, .int .i64 none] w fun e w' => e = .returned (.int .i64 (Fx.len k n base none)) ∧ Below w.heap.size w w' := by
  go_enter Try.func28, Try.ntmps28
  go_wp2_with (first | (go_at_call 38; (with_reducible refine (rcut_any _ _).mono ?_); rintro e w' ⟨rfl, rfl⟩) | (go_at_call 40; (with_reducible refine (rpart_any _ _ _).mono ?_); rintro e w' ⟨rfl, rfl⟩))
  all_goals go_ret
  all_goals
    refine ⟨ret_int (by unfold Fx.len; (repeat' split) <;> first | rfl | omega | (exfalso; simp_all; done) | (exfalso; simp_all; omega)), ?_⟩
    (repeat (first | exact Below.refl _ _ | assumption | refine Below.drew ?_ | refine Below.drewN ?_ _ | refine Below.alloc' ?_ _ | refine Below.setCell ?_ (by first | (simp; done) | (simp; omega)) _ | refine Below.after2 ?_ (Nat.le_refl _) (by assumption)))

end Go.Proofs.Ytdgphjpjgldbaaa.Fix
