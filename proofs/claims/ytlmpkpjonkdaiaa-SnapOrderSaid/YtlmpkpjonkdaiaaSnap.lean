/- The contracts of At of the layer snap, of how far a stop is off, and of the document's own answers for both. -/
import Derived.Test.YtlmpkpjonkdaiaaMarStackR
import Derived.Test.YtlmpkpjonkdaiaaSnapMath
import Derived.Test.YtlmpkpjonkdaiaaDrawnFast
import Derived.Test.YtlmpkpjonkdaiaaCut
import Derived.Lib.MinMax
namespace Go.Proofs.Ytlmpkpjonkdaiaa.Fix
open Go.ChangeShapes Go.WideShapes Go.ChangeAt Go.RowKit
set_option linter.unusedVariables false


theorem ret_ib {a b : Int} {c d : Bool} (h : a = b) (h2 : c = d) : Ending.returned (.tuple #[.int .i64 a, .bool c]) = .returned (.tuple #[.int .i64 b, .bool d]) := by rw [h, h2]

theorem sum3b (w : World) (o : Obj) (T : TypeId) (a b c : Int) :
    Calls Try.prog 23 #[.slice (some ⟨w.heap.size + 1, 0, none⟩) 3 3] ((w.alloc o).alloc (.cells #[.int .i64 a, .int .i64 b, .int .i64 c] T)) fun e w' => e = .returned (.int .i64 (Fx.sum [a, b, c])) ∧ (w.alloc o).alloc (.cells #[.int .i64 a, .int .i64 b, .int .i64 c] T) = w' :=
  sum_any (some ⟨w.heap.size + 1, 0, none⟩) [a, b, c] 3 _ (ints_new2 w o [a, b, c] T (by simp))

theorem off_any (a b : Int) (w : World) :
    Calls Try.prog 30 #[.int .i64 a, .int .i64 b] w fun e w' => e = .returned (.int .i64 (Sn.far a b)) ∧ w = w' := by
  have h1 := Sn.sub_le a b
  have h2 := Sn.sub_ge a b
  have hw : IntKind.i64.wrap (-(Fx.sub a b)) = -(Fx.sub a b) := IntWalk.i64_in _ (by omega)
  go_enter Try.func30, Try.ntmps30
  go_wp2_with (first | (go_at_call 24; (with_reducible refine (sub_any _ _ _).mono ?_); rintro e w' ⟨rfl, rfl⟩))
  go_ret
  exact ⟨ret_int (Sn.far_max a b), rfl⟩

theorem rfar_any (a b : Int) (w : World) :
    Calls Try.prog 32 #[.int .i64 a, .int .i64 b] w fun e w' => e = .returned (.int .i64 (Sn.far a b)) ∧ w = w' := by
  have h1 := Sn.sub_le a b
  have h2 := Sn.sub_ge a b
  have hw : IntKind.i64.wrap (-(Fx.sub a b)) = -(Fx.sub a b) := IntWalk.i64_in _ (by omega)
  by_cases h : Fx.sub a b < 0
  · go_enter Try.func32, Try.ntmps32
    go_wp2_with (first | (go_at_call 26; (with_reducible refine (rsub_any _ _ _).mono ?_); rintro e w' ⟨rfl, rfl⟩))
    go_ret
    exact ⟨ret_int (by unfold Sn.far; rw [if_pos (by omega)]), rfl⟩
  · have h0 : decide (Fx.sub a b < 0) = false := by simp; omega
    go_enter Try.func32, Try.ntmps32
    go_wp2_with (first | (go_at_call 26; (with_reducible refine (rsub_any _ _ _).mono ?_); rintro e w' ⟨rfl, rfl⟩))
    go_ret
    exact ⟨ret_int (by unfold Sn.far; rw [if_neg (by omega)]), rfl⟩

theorem snat_any (lo hi e p : Int) (w : World) (hp : p ≤ 9223372036854775807) :
    Calls Try.prog 12 #[.agg #[.int .i64 lo, .int .i64 hi, .int .i64 e], .int .i64 p] w fun x w' => x = .returned (.tuple #[.int .i64 (Sn.at_ lo hi e p), .bool (Sn.snaps e)]) ∧ Below w.heap.size w w' := by
  have hw : IntKind.i64.wrap (-(max p 0)) = -(max p 0) := IntWalk.i64_in _ (by omega)
  by_cases e1 : e = 1
  · subst e1
    go_enter Try.func12, Try.ntmps12
    go_wp2_with (first | (go_at_call 21; (with_reducible refine (cut_any _ _).mono ?_); rintro e w' ⟨rfl, rfl⟩))
    go_ret2
    exact ⟨ret_ib Sn.at_one.symm rfl, Below.alloc' (Below.refl _ _) _⟩
  · by_cases e2 : e = 2
    · subst e2
      go_enter Try.func12, Try.ntmps12
      go_wp2_with (first | (go_at_call 23; with_reducible refine (sum3b _ _ _ _ _ _).mono ?_; rintro e w' ⟨rfl, rfl⟩) | (first | (go_at_call 22; (with_reducible refine (div_any _ _ _).mono ?_); rintro e w' ⟨rfl, rfl⟩)))
      go_ret2
      exact ⟨ret_ib Sn.at_two.symm rfl, Below.alloc' (Below.alloc' (Below.refl _ _) _) _⟩
    · by_cases e3 : e = 3
      · subst e3
        go_enter Try.func12, Try.ntmps12
        go_wp2_with (first | (go_at_call 24; (with_reducible refine (sub_any _ _ _).mono ?_); rintro e w' ⟨rfl, rfl⟩))
        go_ret2
        exact ⟨ret_ib Sn.at_three.symm rfl, Below.alloc' (Below.refl _ _) _⟩
      · have d1 : (e == 1) = false := by simp [e1]
        have d2 : (e == 2) = false := by simp [e2]
        have d3 : (e == 3) = false := by simp [e3]
        go_enter Try.func12, Try.ntmps12
        go_wp2_with (fail)
        go_ret2
        exact ⟨ret_ib (by unfold Sn.at_; rw [if_neg e1, if_neg e2, if_neg e3]) (Sn.snaps_no e1 e2 e3).symm, Below.alloc' (Below.refl _ _) _⟩

theorem rsnat_any (lo hi e p : Int) (w : World) :
    Calls Try.prog 13 #[.agg #[.int .i64 lo, .int .i64 hi, .int .i64 e], .int .i64 p] w fun x w' => x = .returned (.tuple #[.int .i64 (Sn.at_ lo hi e p), .bool (Sn.snaps e)]) ∧ Below w.heap.size w w' := by
  have hc1 := Fx.cut_ge (max p 0)
  have hc2 := Fx.cut_le (max p 0)
  have hw : IntKind.i64.wrap (-(Fx.cut (max p 0))) = -(Fx.cut (max p 0)) := IntWalk.i64_in _ (by omega)
  rw [← Sn.rat_eq]
  by_cases e1 : e = 1
  · subst e1
    go_enter Try.func13, Try.ntmps13
    go_wp2_with (first | (go_at_call 25; (with_reducible refine (rcut_any _ _).mono ?_); rintro e w' ⟨rfl, rfl⟩))
    go_ret2
    exact ⟨ret_ib Sn.rat_one.symm rfl, Below.alloc' (Below.refl _ _) _⟩
  · by_cases e2 : e = 2
    · subst e2
      go_enter Try.func13, Try.ntmps13
      go_wp2_with (first | (go_at_call 25; (with_reducible refine (rcut_any _ _).mono ?_); rintro e w' ⟨rfl, rfl⟩) | (go_at_call 28; (with_reducible refine (radd_any _ _ _).mono ?_); rintro e w' ⟨rfl, rfl⟩) | (go_at_call 27; (with_reducible refine (rdiv_any _ _ _).mono ?_); rintro e w' ⟨rfl, rfl⟩))
      go_ret2
      exact ⟨ret_ib Sn.rat_two.symm rfl, Below.alloc' (Below.refl _ _) _⟩
    · by_cases e3 : e = 3
      · subst e3
        go_enter Try.func13, Try.ntmps13
        go_wp2_with (first | (go_at_call 25; (with_reducible refine (rcut_any _ _).mono ?_); rintro e w' ⟨rfl, rfl⟩) | (go_at_call 26; (with_reducible refine (rsub_any _ _ _).mono ?_); rintro e w' ⟨rfl, rfl⟩))
        go_ret2
        exact ⟨ret_ib Sn.rat_three.symm rfl, Below.alloc' (Below.refl _ _) _⟩
      · have d1 : (e == 1) = false := by simp [e1]
        have d2 : (e == 2) = false := by simp [e2]
        have d3 : (e == 3) = false := by simp [e3]
        go_enter Try.func13, Try.ntmps13
        go_wp2_with (first | (go_at_call 25; (with_reducible refine (rcut_any _ _).mono ?_); rintro e w' ⟨rfl, rfl⟩))
        go_ret2
        exact ⟨ret_ib (by unfold Sn.rat_; rw [if_neg e1, if_neg e3, if_neg e2]) (Sn.snaps_no e1 e2 e3).symm, Below.alloc' (Below.refl _ _) _⟩

end Go.Proofs.Ytlmpkpjonkdaiaa.Fix
