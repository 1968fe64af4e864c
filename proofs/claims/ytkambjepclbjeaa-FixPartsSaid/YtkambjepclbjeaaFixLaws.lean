/- The statements of the layer fix that take integers alone: each returns true, and makes at most new memory. -/
import Derived.Test.YtkambjepclbjeaaWorks
namespace Go.Proofs.Ytkambjepclbjeaa.Fix
open Go.ChangeShapes Go.WideShapes Go.ChangeAt Go.RowKit
set_option linter.unusedVariables false

theorem reckons_walk (a b c : Int) (w : World) : Calls Try.prog 3 #[.int .i64 a, .int .i64 b, .int .i64 c] w fun e w' => e = .returned (.bool true) ∧ Grown w w' := by
  go_enter Try.func3, Try.ntmps3
  go_wp2_with (first
    | (go_at_call 10; refine (works_any _).mono ?_; rintro e w1 ⟨rfl, hb, hg⟩)
    | (go_at_call 11; refine (cut_any _ _ ).mono ?_; rintro e w' ⟨rfl, rfl⟩)
    | (go_at_call 13; refine (add_any _ _ _ ).mono ?_; rintro e w' ⟨rfl, rfl⟩)
    | (go_at_call 15; refine (sub_any _ _ _ ).mono ?_; rintro e w' ⟨rfl, rfl⟩)
    | (go_at_call 17; refine (mul_any _ _ _ ).mono ?_; rintro e w' ⟨rfl, rfl⟩)
    | (go_at_call 19; refine (div_any _ _ _ ).mono ?_; rintro e w' ⟨rfl, rfl⟩)
    | (go_at_call 21; refine (part_any _ _ _ ).mono ?_; rintro e w' ⟨rfl, rfl⟩)
    | (go_at_call 23; refine (clamp_any _ _ _ _ ).mono ?_; rintro e w' ⟨rfl, rfl⟩)
    | (go_at_call 12; refine (rcut_any _ _ ).mono ?_; rintro e w' ⟨rfl, rfl⟩)
    | (go_at_call 14; refine (radd_any _ _ _ ).mono ?_; rintro e w' ⟨rfl, rfl⟩)
    | (go_at_call 16; refine (rsub_any _ _ _ ).mono ?_; rintro e w' ⟨rfl, rfl⟩)
    | (go_at_call 18; refine (rmul_any _ _ _ ).mono ?_; rintro e w' ⟨rfl, rfl⟩)
    | (go_at_call 20; refine (rdiv_any _ _ _ ).mono ?_; rintro e w' ⟨rfl, rfl⟩)
    | (go_at_call 22; refine (rpart_any _ _ _ ).mono ?_; rintro e w' ⟨rfl, rfl⟩)
    | (go_at_call 24; refine (rclamp_any _ _ _ _ ).mono ?_; rintro e w' ⟨rfl, rfl⟩))
  go_ret
  exact ⟨rfl, hg⟩

set_option maxHeartbeats 4000000 in
theorem order_walk (a b c n : Int) (w : World) : Calls Try.prog 6 #[.int .i64 a, .int .i64 b, .int .i64 c, .int .i64 n] w fun e w' => e = .returned (.bool true) ∧ Grown w w' := by
  by_cases h : b < a
  · go_enter Try.func6, Try.ntmps6
    go_wp2_with (first
    | (go_at_call 10; refine (works_any _).mono ?_; rintro e w1 ⟨rfl, hb, hg⟩))
    go_ret
    exact ⟨rfl, hg⟩
  · have h1 := Fx.add_mono (c := c) (show a ≤ b by omega)
    have h2 := Fx.sub_mono (c := c) (show a ≤ b by omega)
    have h3 := Fx.part_mono (n := n) (show a ≤ b by omega)
    have h4 := Fx.div_mono (n := n) (show a ≤ b by omega)
    have h5 := Fx.clamp_ge (n := n) (show a ≤ b by omega)
    have h6 := Fx.clamp_le (n := n) (show a ≤ b by omega)
    have h7 := Fx.clamp_again (n := n) (show a ≤ b by omega)
    have h8 := Fx.add_comm b a
    have h9 := Fx.mul_comm b a
    go_enter Try.func6, Try.ntmps6
    go_wp2_with (first
    | (go_at_call 10; refine (works_any _).mono ?_; rintro e w1 ⟨rfl, hb, hg⟩)
    | (go_at_call 11; refine (cut_any _ _ ).mono ?_; rintro e w' ⟨rfl, rfl⟩)
    | (go_at_call 13; refine (add_any _ _ _ ).mono ?_; rintro e w' ⟨rfl, rfl⟩)
    | (go_at_call 15; refine (sub_any _ _ _ ).mono ?_; rintro e w' ⟨rfl, rfl⟩)
    | (go_at_call 17; refine (mul_any _ _ _ ).mono ?_; rintro e w' ⟨rfl, rfl⟩)
    | (go_at_call 19; refine (div_any _ _ _ ).mono ?_; rintro e w' ⟨rfl, rfl⟩)
    | (go_at_call 21; refine (part_any _ _ _ ).mono ?_; rintro e w' ⟨rfl, rfl⟩)
    | (go_at_call 23; refine (clamp_any _ _ _ _ ).mono ?_; rintro e w' ⟨rfl, rfl⟩))
    go_ret
    exact ⟨rfl, hg⟩

theorem parts_walk (a b : Int) (w : World) : Calls Try.prog 7 #[.int .i64 a, .int .i64 b] w fun e w' => e = .returned (.bool true) ∧ Grown w w' := by
  by_cases h1 : a < 0
  · go_enter Try.func7, Try.ntmps7
    go_wp2_with (go_at_call 10; refine (works_any _).mono ?_; rintro e w1 ⟨rfl, hb, hg⟩)
    go_ret
    exact ⟨rfl, hg⟩
  by_cases h2 : 549755813888 < a
  · go_enter Try.func7, Try.ntmps7
    go_wp2_with (go_at_call 10; refine (works_any _).mono ?_; rintro e w1 ⟨rfl, hb, hg⟩)
    go_ret
    exact ⟨rfl, hg⟩
  by_cases h3 : b < 1
  · go_enter Try.func7, Try.ntmps7
    go_wp2_with (go_at_call 10; refine (works_any _).mono ?_; rintro e w1 ⟨rfl, hb, hg⟩)
    go_ret
    exact ⟨rfl, hg⟩
  by_cases h4 : 1073741824 < b
  · go_enter Try.func7, Try.ntmps7
    go_wp2_with (go_at_call 10; refine (works_any _).mono ?_; rintro e w1 ⟨rfl, hb, hg⟩)
    go_ret
    exact ⟨rfl, hg⟩
  have f1 := Fx.div_mul_le (a := a) (b := b) (by omega) (by omega) (by omega) (by omega)
  have f2 := Fx.div_mul_gt (a := a) (b := b) (by omega) (by omega) (by omega) (by omega)
  have f0 := Fx.div_mul_ge (a := a) (b := b) (by omega) (by omega) (by omega) (by omega)
  obtain ⟨g1, g2⟩ := Fx.part_half (a := a) (by omega) (by omega)
  have g3 := Fx.part_whole (a := a) (by omega) (by omega)
  have g4 := Fx.part_none (a := a)
  have g5 := Fx.div_one (a := a) (by omega) (by omega)
  go_enter Try.func7, Try.ntmps7
  go_wp2_with (first
    | (go_at_call 10; refine (works_any _).mono ?_; rintro e w1 ⟨rfl, hb, hg⟩)
    | (go_at_call 19; refine (div_any _ _ _).mono ?_; rintro e w' ⟨rfl, rfl⟩)
    | (go_at_call 21; refine (part_any _ _ _).mono ?_; rintro e w' ⟨rfl, rfl⟩))
  go_ret
  exact ⟨rfl, hg⟩

theorem signs_walk (a b : Int) (w : World) (u1 : a ≤ 9223372036854775807) (u2 : b ≤ 9223372036854775807) : Calls Try.prog 8 #[.int .i64 a, .int .i64 b] w fun e w' => e = .returned (.bool true) ∧ Grown w w' := by
  by_cases h1 : a < -1099511627776
  · go_enter Try.func8, Try.ntmps8
    go_wp2_with (go_at_call 10; refine (works_any _).mono ?_; rintro e w1 ⟨rfl, hb, hg⟩)
    go_ret
    exact ⟨rfl, hg⟩
  by_cases h2 : b < -1099511627776
  · go_enter Try.func8, Try.ntmps8
    go_wp2_with (go_at_call 10; refine (works_any _).mono ?_; rintro e w1 ⟨rfl, hb, hg⟩)
    go_ret
    exact ⟨rfl, hg⟩
  have b1 := Fx.cut_le (Fx.cut a * Fx.cut b)
  have b2 := Fx.cut_ge (Fx.cut a * Fx.cut b)
  have b3 := Fx.cut_le (Fx.cut b - Fx.cut a)
  have b4 := Fx.cut_ge (Fx.cut b - Fx.cut a)
  have b5 := Fx.cut_le (Fx.cut a + Fx.cut b)
  have b6 := Fx.cut_ge (Fx.cut a + Fx.cut b)
  have e1 : Fx.mul (-a) b = -Fx.mul a b := Fx.mul_neg a b
  have e2 : Fx.sub a b = -Fx.sub b a := Fx.sub_neg a b
  have e3 : Fx.add (-a) (-b) = -Fx.add a b := Fx.add_neg a b
  have e4 : Fx.mul a 0 = 0 := Fx.mul_zero a
  have e5 : Fx.mul a 1 = Fx.cut a := Fx.mul_one a
  change Fx.mul a b ≤ _ at b1
  change _ ≤ Fx.mul a b at b2
  change Fx.sub b a ≤ _ at b3
  change _ ≤ Fx.sub b a at b4
  change Fx.add a b ≤ _ at b5
  change _ ≤ Fx.add a b at b6
  go_enter Try.func8, Try.ntmps8
  go_wp2_with (first
    | (go_at_call 10; refine (works_any _).mono ?_; rintro e w1 ⟨rfl, hb, hg⟩)
    | (go_at_call 11; refine (cut_any _ _).mono ?_; rintro e w' ⟨rfl, rfl⟩)
    | (go_at_call 13; refine (add_any _ _ _).mono ?_; rintro e w' ⟨rfl, rfl⟩)
    | (go_at_call 15; refine (sub_any _ _ _).mono ?_; rintro e w' ⟨rfl, rfl⟩)
    | (go_at_call 17; refine (mul_any _ _ _).mono ?_; rintro e w' ⟨rfl, rfl⟩))
  go_ret
  exact ⟨rfl, hg⟩
end Go.Proofs.Ytkambjepclbjeaa.Fix
