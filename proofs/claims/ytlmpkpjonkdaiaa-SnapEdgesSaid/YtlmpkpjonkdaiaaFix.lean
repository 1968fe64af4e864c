/- The contracts of the calls of the layer fix (and of the document's own answers for it): for all integers each call returns what the plain function of XMath says, and leaves the world as it was. -/
import Derived.Test.YtlmpkpjonkdaiaaRows
import Derived.Test.YtlmpkpjonkdaiaaMath
import Derived.WalkKit
import Derived.ProofKit
import Derived.OpenShut
import Derived.Lib.Hide
import Derived.WalkLawsBesides
namespace Go.Proofs.Ytlmpkpjonkdaiaa.Fix
open Go.ChangeShapes Go.WideShapes Go.ChangeAt Go.RowKit
set_option linter.unusedVariables false


theorem ret_int {k : IntKind} {a b : Int} (h : a = b) : Ending.returned (.int k a) = .returned (.int k b) := by rw [h]

theorem cut_any (n : Int) (w : World) : Calls Try.prog 21 #[.int .i64 n] w fun e w' => e = .returned (.int .i64 (Fx.cut n)) ∧ w = w' := by
  go_enter Try.func21, Try.ntmps21
  go_wp2
  all_goals
    go_ret
    exact ⟨ret_int (by unfold Fx.cut; repeat' split <;> (try split at *) <;> omega), rfl⟩

theorem rcut_any (n : Int) (w : World) : Calls Try.prog 25 #[.int .i64 n] w fun e w' => e = .returned (.int .i64 (Fx.cut n)) ∧ w = w' := by
  go_enter Try.func25, Try.ntmps25
  go_wp2
  all_goals
    go_ret
    exact ⟨ret_int (by unfold Fx.cut; repeat' split <;> omega), rfl⟩

theorem add_any (a b : Int) (w : World) : Calls Try.prog 36 #[.int .i64 a, .int .i64 b] w fun e w' => e = .returned (.int .i64 (Fx.add a b)) ∧ w = w' := by
  have ha := Fx.cut_le a
  have ha' := Fx.cut_ge a
  have hb := Fx.cut_le b
  have hb' := Fx.cut_ge b
  go_enter Try.func36, Try.ntmps36
  go_wp2_with (go_at_call 21; refine (cut_any _ _).mono ?_; rintro e w' ⟨rfl, rfl⟩)
  go_ret
  exact ⟨rfl, rfl⟩

theorem radd_any (a b : Int) (w : World) : Calls Try.prog 28 #[.int .i64 a, .int .i64 b] w fun e w' => e = .returned (.int .i64 (Fx.add a b)) ∧ w = w' := by
  have ha := Fx.cut_le a
  have ha' := Fx.cut_ge a
  have hb := Fx.cut_le b
  have hb' := Fx.cut_ge b
  go_enter Try.func28, Try.ntmps28
  go_wp2_with (go_at_call 25; refine (rcut_any _ _).mono ?_; rintro e w' ⟨rfl, rfl⟩)
  go_ret
  exact ⟨rfl, rfl⟩

theorem sub_any (a b : Int) (w : World) : Calls Try.prog 24 #[.int .i64 a, .int .i64 b] w fun e w' => e = .returned (.int .i64 (Fx.sub a b)) ∧ w = w' := by
  have ha := Fx.cut_le a
  have ha' := Fx.cut_ge a
  have hb := Fx.cut_le b
  have hb' := Fx.cut_ge b
  go_enter Try.func24, Try.ntmps24
  go_wp2_with (go_at_call 21; refine (cut_any _ _).mono ?_; rintro e w' ⟨rfl, rfl⟩)
  go_ret
  exact ⟨rfl, rfl⟩

theorem rsub_any (a b : Int) (w : World) : Calls Try.prog 26 #[.int .i64 a, .int .i64 b] w fun e w' => e = .returned (.int .i64 (Fx.sub a b)) ∧ w = w' := by
  have ha := Fx.cut_le a
  have ha' := Fx.cut_ge a
  have hb := Fx.cut_le b
  have hb' := Fx.cut_ge b
  go_enter Try.func26, Try.ntmps26
  go_wp2_with (go_at_call 25; refine (rcut_any _ _).mono ?_; rintro e w' ⟨rfl, rfl⟩)
  go_ret
  exact ⟨rfl, rfl⟩

theorem down_any (a b : Int) (w : World) (h1 : 1 ≤ b) (h2 : b ≤ 1099511627776) (h3 : -1152921504606846976 ≤ a) (h4 : a ≤ 1152921504606846976) :
    Calls Try.prog 35 #[.int .i64 a, .int .i64 b] w fun e w' => e = .returned (.int .i64 (a / b)) ∧ w = w' := by
  have g1 := Fx.tdiv_ge h1 h3
  have g2 := Fx.tdiv_le h1 h4
  go_enter Try.func35, Try.ntmps35
  go_wp2
  · have h : a.tmod b < 0 := by assumption
    go_ret
    exact ⟨ret_int (Fx.tdiv_down h1 h), rfl⟩
  · have h : 0 ≤ a.tmod b := by assumption
    go_ret
    exact ⟨ret_int (Fx.tdiv_same h1 h), rfl⟩

theorem rdown_any (a b : Int) (w : World) (h1 : 1 ≤ b) (h2 : b ≤ 1099511627776) (h3 : -1152921504606846976 ≤ a) (h4 : a ≤ 1152921504606846976) :
    Calls Try.prog 37 #[.int .i64 a, .int .i64 b] w fun e w' => e = .returned (.int .i64 (a / b)) ∧ w = w' := by
  have g1 := Fx.tdiv_ge h1 h3
  have g2 := Fx.tdiv_le h1 h4
  go_enter Try.func37, Try.ntmps37
  go_wp2
  · have h : a.tmod b < 0 := by assumption
    go_ret
    exact ⟨ret_int (Fx.tdiv_down h1 h), rfl⟩
  · have h : 0 ≤ a.tmod b := by assumption
    go_ret
    exact ⟨ret_int (Fx.tdiv_same h1 h), rfl⟩

theorem div_any (a b : Int) (w : World) : Calls Try.prog 22 #[.int .i64 a, .int .i64 b] w fun e w' => e = .returned (.int .i64 (Fx.div a b)) ∧ w = w' := by
  have ha := Fx.cut_le a
  have ha' := Fx.cut_ge a
  have hb := Fx.cut_le b
  by_cases h : b ≤ 0
  · have h0 : Fx.cut b ≤ 0 := by unfold Fx.cut; repeat' split <;> omega
    have hr : Fx.div a b = 0 := by unfold Fx.div; rw [if_pos h]
    have Hr := Lib.hid hr; clear hr
    go_enter Try.func22, Try.ntmps22
    go_wp2_with (go_at_call 21; refine (cut_any _ _).mono ?_; rintro e w' ⟨rfl, rfl⟩)
    go_ret
    exact ⟨ret_int Hr.out.symm, rfl⟩
  · have h0 : 1 ≤ Fx.cut b := Fx.cut_pos (by omega)
    have hr : Fx.div a b = Fx.cut a / Fx.cut b := by unfold Fx.div; rw [if_neg h]
    have Hr := Lib.hid hr; clear hr
    go_enter Try.func22, Try.ntmps22
    go_wp2_with (first | (go_at_call 21; refine (cut_any _ _).mono ?_; rintro e w' ⟨rfl, rfl⟩) | (go_at_call 35; refine (down_any _ _ _ (by omega) (by omega) (by omega) (by omega)).mono ?_; rintro e w' ⟨rfl, rfl⟩))
    go_ret
    exact ⟨ret_int Hr.out.symm, rfl⟩

theorem rdiv_any (a b : Int) (w : World) : Calls Try.prog 27 #[.int .i64 a, .int .i64 b] w fun e w' => e = .returned (.int .i64 (Fx.div a b)) ∧ w = w' := by
  have ha := Fx.cut_le a
  have ha' := Fx.cut_ge a
  have hb := Fx.cut_le b
  by_cases h : b ≤ 0
  · have hr : Fx.div a b = 0 := by unfold Fx.div; rw [if_pos h]
    have Hr := Lib.hid hr; clear hr
    go_enter Try.func27, Try.ntmps27
    go_wp2
    go_ret
    exact ⟨ret_int Hr.out.symm, rfl⟩
  · have h0 : 1 ≤ Fx.cut b := Fx.cut_pos (by omega)
    have hr : Fx.div a b = Fx.cut a / Fx.cut b := by unfold Fx.div; rw [if_neg h]
    have Hr := Lib.hid hr; clear hr
    go_enter Try.func27, Try.ntmps27
    go_wp2_with (first | (go_at_call 25; refine (rcut_any _ _).mono ?_; rintro e w' ⟨rfl, rfl⟩) | (go_at_call 37; refine (rdown_any _ _ _ (by omega) (by omega) (by omega) (by omega)).mono ?_; rintro e w' ⟨rfl, rfl⟩))
    go_ret
    exact ⟨ret_int Hr.out.symm, rfl⟩

theorem clamp_any (n lo hi : Int) (w : World) : Calls Try.prog 29 #[.int .i64 n, .int .i64 lo, .int .i64 hi] w fun e w' => e = .returned (.int .i64 (Fx.clamp n lo hi)) ∧ w = w' := by
  go_enter Try.func29, Try.ntmps29
  go_wp2_with (go_at_call 21; refine (cut_any _ _).mono ?_; rintro e w' ⟨rfl, rfl⟩)
  all_goals
    go_ret
    exact ⟨ret_int (by unfold Fx.clamp; repeat' split <;> (try split at *) <;> omega), rfl⟩

theorem rclamp_any (n lo hi : Int) (w : World) : Calls Try.prog 31 #[.int .i64 n, .int .i64 lo, .int .i64 hi] w fun e w' => e = .returned (.int .i64 (Fx.clamp n lo hi)) ∧ w = w' := by
  have hc := Fx.cut_cut n
  have HC := Lib.hid hc; clear hc
  go_enter Try.func31, Try.ntmps31
  go_wp2_with (go_at_call 25; refine (rcut_any _ _).mono ?_; rintro e w' ⟨rfl, rfl⟩)
  all_goals
    go_ret
    exact ⟨ret_int (by unfold Fx.clamp; repeat' split <;> omega), rfl⟩

theorem or_words (x y : Int) (hx : 0 ≤ x) (hy : 0 ≤ y) (hy2 : y < 4294967296) : bits .or .u64 (IntKind.u64.wrap (x * 4294967296)) y = x % 4294967296 * 4294967296 + y := by
  obtain ⟨X, hX⟩ := Int.eq_ofNat_of_zero_le (show 0 ≤ x % 4294967296 by omega)
  obtain ⟨Y, rfl⟩ := Int.eq_ofNat_of_zero_le hy
  have e : IntKind.u64.wrap (x * 4294967296) = ((X * 4294967296 : Nat) : Int) := by rw [IntKind.wrap_u64]; omega
  rw [e, u64_or_nat _ _ (by omega) (by omega), Fx.or_nat _ _ (by omega), hX]
  omega

theorem ret_two {k : IntKind} {a b c d : Int} (h : a = c) (h2 : b = d) : Ending.returned (.tuple #[.int k a, .int k b]) = .returned (.tuple #[.int k c, .int k d]) := by rw [h, h2]

end Go.Proofs.Ytlmpkpjonkdaiaa.Fix
