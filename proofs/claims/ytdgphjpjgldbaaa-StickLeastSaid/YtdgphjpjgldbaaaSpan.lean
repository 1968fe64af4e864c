/- The contracts of the calls of the layer span (and of the document's own answers for it): for all integers each call returns what the plain function of XSpanMath says, and leaves all that was there as it was. -/
import Derived.Test.YtdgphjpjgldbaaaFix
import Derived.Test.YtdgphjpjgldbaaaSpanMath
import Derived.Test.YtdgphjpjgldbaaaMem
import Derived.Test.YtdgphjpjgldbaaaDrawn
import Derived.Deep.QuietTactic
import Derived.BigQuiet
import Derived.ScopeJumps
import Derived.WalkMore
namespace Go.Proofs.Ytdgphjpjgldbaaa.Fix
open Go.ChangeShapes Go.WideShapes Go.ChangeAt Go.RowKit
set_option linter.unusedVariables false



theorem ret_span {a b c d : Int} (h1 : a = c) (h2 : b = d) : Ending.returned (.agg #[.int .i64 a, .int .i64 b]) = .returned (.agg #[.int .i64 c, .int .i64 d]) := by rw [h1, h2]

theorem run_eql_span (a b c d : Int) (w : World) : (binOp .eql 23 (.agg #[.int .i64 a, .int .i64 b]) (.agg #[.int .i64 c, .int .i64 d])).run Try.prog w = .ok (.bool (decide (a = c) && decide (b = d))) w := by
  rw [run_eql_struct]
  by_cases h1 : a = c <;> by_cases h2 : b = d <;> go_simp <;> simp [h1, h2]

theorem of_span (n m : Int) (w : World) : Calls Try.prog 41 #[.int .i64 n, .int .i64 m] w fun e w' => e = .returned (.agg #[.int .i64 (Fx.cut n), .int .i64 (Fx.add n (Fx.mx m 0))]) ∧ Below w.heap.size w w' := by
  go_enter Try.func41, Try.ntmps41
  go_wp2_with (first | (go_at_call 35; (with_reducible refine (cut_any _ _).mono ?_); rintro e w' ⟨rfl, rfl⟩) | (go_at_call 38; (with_reducible refine (rcut_any _ _).mono ?_); rintro e w' ⟨rfl, rfl⟩) | (go_at_call 43; (with_reducible refine (add_any _ _ _).mono ?_); rintro e w' ⟨rfl, rfl⟩) | (go_at_call 23; (with_reducible refine (radd_any _ _ _).mono ?_); rintro e w' ⟨rfl, rfl⟩))
  all_goals
    refine bodyPost_ret (by simp [results, Try.results41, go_sem]; first | done | exact ⟨rfl, rfl⟩ | rfl) rfl ⟨ret_span rfl (by unfold Fx.mx; first | rw [if_pos (by omega)] | rw [if_neg (by omega)]), ?_⟩
    (repeat (first | exact Below.refl _ _ | assumption | refine Below.drew ?_ | refine Below.drewN ?_ _ | refine Below.alloc' ?_ _ | refine Below.setCell ?_ (by first | (simp; done) | (simp; omega)) _ | refine Below.after2 ?_ (Nat.le_refl _) (by assumption)))

theorem rof_span (n m : Int) (w : World) : Calls Try.prog 42 #[.int .i64 n, .int .i64 m] w fun e w' => e = .returned (.agg #[.int .i64 (Fx.cut n), .int .i64 (Fx.add n (Fx.mx m 0))]) ∧ Below w.heap.size w w' := by
  go_enter Try.func42, Try.ntmps42
  go_wp2_with (first | (go_at_call 35; (with_reducible refine (cut_any _ _).mono ?_); rintro e w' ⟨rfl, rfl⟩) | (go_at_call 38; (with_reducible refine (rcut_any _ _).mono ?_); rintro e w' ⟨rfl, rfl⟩) | (go_at_call 43; (with_reducible refine (add_any _ _ _).mono ?_); rintro e w' ⟨rfl, rfl⟩) | (go_at_call 23; (with_reducible refine (radd_any _ _ _).mono ?_); rintro e w' ⟨rfl, rfl⟩))
  all_goals
    refine bodyPost_ret (by simp [results, Try.results42, go_sem]; first | done | exact ⟨rfl, rfl⟩ | rfl) rfl ⟨ret_span rfl (by unfold Fx.mx; first | rw [if_pos (by omega)] | rw [if_neg (by omega)]), ?_⟩
    (repeat (first | exact Below.refl _ _ | assumption | refine Below.drew ?_ | refine Below.drewN ?_ _ | refine Below.alloc' ?_ _ | refine Below.setCell ?_ (by first | (simp; done) | (simp; omega)) _ | refine Below.after2 ?_ (Nat.le_refl _) (by assumption)))

theorem fit_ends {a b c d : Int} (h : Fx.ends a b c d = true) : Fx.fit a b c d = 0 := by unfold Fx.fit; rw [if_pos h]

theorem fit_lo {a b c d : Int} (h : Fx.ends a b c d = false) (h1 : a < c ∨ Fx.size c d < Fx.size a b) : Fx.fit a b c d = Fx.sub c a := by unfold Fx.fit; rw [if_neg (by simp [h]), if_pos h1]

theorem fit_hi {a b c d : Int} (h : Fx.ends a b c d = false) (h1 : ¬ a < c) (h2 : ¬ Fx.size c d < Fx.size a b) : Fx.fit a b c d = Fx.sub d b := by unfold Fx.fit; rw [if_neg (by simp [h]), if_neg (by omega)]

theorem jump_ret {l : Nat} {J : Act → World → Prop} {Q : Exit → Act → World → Prop} {a : Act} {w : World} : Exit.jump l J Q .ret a w = Q .ret a w := rfl

theorem fit_jump {l : Nat} {J : Act → World → Prop} {K : Act → World → Prop} {Q : Exit → Act → World → Prop} {a : Act} {w : World} (h : J a w) : Exit.then K (Exit.jump l J Q) (.goto l) a w := ⟨rfl, h⟩

theorem wp_scope_forward {P : Program} {a : Act} {w : World} {Q : Exit → Act → World → Prop} {c rest : Code} (l : Nat) (J : Act → World → Prop) (hf : findLabel c l = some rest)
    (first : c.wp P (Exit.jump l J Q) a w) (pass : ∀ a w, J a w → rest.wp P (Exit.noGoto Q) a w) : (Code.scope c).wp P Q a w :=
  wp_scope_jumps l J (fun _ _ => 0) hf first fun a w h => Code.wp_mono (fun e a w h => by cases e <;> first | exact h | exact (h : False).elim) (pass a w h)

/-- what holds at the jumps of Fit: the one slot that is read behind the label -/
def FitJ (x : Int) (v0 v1 v2 v3 : Value) (w : World) (a' : Act) (w' : World) : Prop := ∃ (y : Int) (u6 u7 u8 u9 u10 u11 u12 u13 u14 u15 u16 u17 u18 u19 u20 u21 u22 u23 u24 u25 u26 u27 u28 u29 u30 u31 : Value), a' = { tmps := #[v0, v1, v2, v3, .int .i64 0, .int .i64 y, u6, u7, u8, u9, u10, u11, u12, u13, u14, u15, u16, u17, u18, u19, u20, u21, u22, u23, u24, u25, u26, u27, u28, u29, u30, u31], defers := [] } ∧ y = x ∧ Below w.heap.size w w'

end Go.Proofs.Ytdgphjpjgldbaaa.Fix
