/- The contracts of the calls of the layer fix (and of the document's own answers for it): for all integers each call returns what the plain function of XMath says, and leaves the world as it was. -/
import Derived.Test.YtnoofdojbgkmkaaRows
import Derived.Test.YtnoofdojbgkmkaaMath
import Derived.WalkKit
import Derived.ProofKit
import Derived.OpenShut
import Derived.Lib.Hide
import Derived.WalkLawsBesides
namespace Go.Proofs.Ytnoofdojbgkmkaa.Fix
open Go.ChangeShapes Go.WideShapes Go.ChangeAt Go.RowKit
set_option linter.unusedVariables false


theorem ret_int {k : IntKind} {a b : Int} (h : a = b) : Ending.returned (.int k a) = .returned (.int k b) := by rw [h]

theorem cut_any (n : Int) (w : World) : Calls Try.prog 35 #[.int .i64 n] w fun e w' => e = .returned (.int .i64 (Fx.cut n)) ∧ w = w' := by
  go_enter Try.func35, Try.ntmps35
  go_wp2
  all_goals
    go_ret
    exact ⟨ret_int (by unfold Fx.cut; repeat' split <;> (try split at *) <;> omega), rfl⟩

theorem rcut_any (n : Int) (w : World) : Calls Try.prog 36 #[.int .i64 n] w fun e w' => e = .returned (.int .i64 (Fx.cut n)) ∧ w = w' := by
  go_enter Try.func36, Try.ntmps36
  go_wp2
  all_goals
    go_ret
    exact ⟨ret_int (by unfold Fx.cut; repeat' split <;> omega), rfl⟩

theorem add_any (a b : Int) (w : World) : Calls Try.prog 28 #[.int .i64 a, .int .i64 b] w fun e w' => e = .returned (.int .i64 (Fx.add a b)) ∧ w = w' := by
  have ha := Fx.cut_le a
  have ha' := Fx.cut_ge a
  have hb := Fx.cut_le b
  have hb' := Fx.cut_ge b
  go_enter Try.func28, Try.ntmps28
  go_wp2_with (go_at_call 35; refine (cut_any _ _).mono ?_; rintro e w' ⟨rfl, rfl⟩)
  go_ret
  exact ⟨rfl, rfl⟩

theorem radd_any (a b : Int) (w : World) : Calls Try.prog 31 #[.int .i64 a, .int .i64 b] w fun e w' => e = .returned (.int .i64 (Fx.add a b)) ∧ w = w' := by
  have ha := Fx.cut_le a
  have ha' := Fx.cut_ge a
  have hb := Fx.cut_le b
  have hb' := Fx.cut_ge b
  go_enter Try.func31, Try.ntmps31
  go_wp2_with (go_at_call 36; refine (rcut_any _ _).mono ?_; rintro e w' ⟨rfl, rfl⟩)
  go_ret
  exact ⟨rfl, rfl⟩

theorem sub_any (a b : Int) (w : World) : Calls Try.prog 29 #[.int .i64 a, .int .i64 b] w fun e w' => e = .returned (.int .i64 (Fx.sub a b)) ∧ w = w' := by
  have ha := Fx.cut_le a
  have ha' := Fx.cut_ge a
  have hb := Fx.cut_le b
  have hb' := Fx.cut_ge b
  go_enter Try.func29, Try.ntmps29
  go_wp2_with (go_at_call 35; refine (cut_any _ _).mono ?_; rintro e w' ⟨rfl, rfl⟩)
  go_ret
  exact ⟨rfl, rfl⟩

theorem rsub_any (a b : Int) (w : World) : Calls Try.prog 32 #[.int .i64 a, .int .i64 b] w fun e w' => e = .returned (.int .i64 (Fx.sub a b)) ∧ w = w' := by
  have ha := Fx.cut_le a
  have ha' := Fx.cut_ge a
  have hb := Fx.cut_le b
  have hb' := Fx.cut_ge b
  go_enter Try.func32, Try.ntmps32
  go_wp2_with (go_at_call 36; refine (rcut_any _ _).mono ?_; rintro e w' ⟨rfl, rfl⟩)
  go_ret
  exact ⟨rfl, rfl⟩

theorem clamp_any (n lo hi : Int) (w : World) : Calls Try.prog 27 #[.int .i64 n, .int .i64 lo, .int .i64 hi] w fun e w' => e = .returned (.int .i64 (Fx.clamp n lo hi)) ∧ w = w' := by
  go_enter Try.func27, Try.ntmps27
  go_wp2_with (go_at_call 35; refine (cut_any _ _).mono ?_; rintro e w' ⟨rfl, rfl⟩)
  all_goals
    go_ret
    exact ⟨ret_int (by unfold Fx.clamp; repeat' split <;> (try split at *) <;> omega), rfl⟩

theorem rclamp_any (n lo hi : Int) (w : World) : Calls Try.prog 30 #[.int .i64 n, .int .i64 lo, .int .i64 hi] w fun e w' => e = .returned (.int .i64 (Fx.clamp n lo hi)) ∧ w = w' := by
  have hc := Fx.cut_cut n
  have HC := Lib.hid hc; clear hc
  go_enter Try.func30, Try.ntmps30
  go_wp2_with (go_at_call 36; refine (rcut_any _ _).mono ?_; rintro e w' ⟨rfl, rfl⟩)
  all_goals
    go_ret
    exact ⟨ret_int (by unfold Fx.clamp; repeat' split <;> omega), rfl⟩

theorem or_words (x y : Int) (hx : 0 ≤ x) (hy : 0 ≤ y) (hy2 : y < 4294967296) : bits .or .u64 (IntKind.u64.wrap (x * 4294967296)) y = x % 4294967296 * 4294967296 + y := by
  obtain ⟨X, hX⟩ := Int.eq_ofNat_of_zero_le (show 0 ≤ x % 4294967296 by omega)
  obtain ⟨Y, rfl⟩ := Int.eq_ofNat_of_zero_le hy
  have e : IntKind.u64.wrap (x * 4294967296) = ((X * 4294967296 : Nat) : Int) := by rw [IntKind.wrap_u64]; omega
  rw [e, u64_or_nat _ _ (by omega) (by omega), Fx.or_nat _ _ (by omega), hX]
  omega

theorem ret_two {k : IntKind} {a b c d : Int} (h : a = c) (h2 : b = d) : Ending.returned (.tuple #[.int k a, .int k b]) = .returned (.tuple #[.int k c, .int k d]) := by rw [h, h2]

end Go.Proofs.Ytnoofdojbgkmkaa.Fix
