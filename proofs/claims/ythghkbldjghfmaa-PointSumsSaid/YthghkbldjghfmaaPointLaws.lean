/- The statements of the layer point that take integers: each returns true, and leaves the world as it was. -/
import Derived.Test.YthghkbldjghfmaaPoint
namespace Go.Proofs.Ythghkbldjghfmaa.Fix
open Go.ChangeShapes Go.WideShapes Go.ChangeAt Go.RowKit Fl
set_option linter.unusedVariables false

theorem half_part (w : World) : Calls Try.prog 22 #[.float .f64 4602678819172646912] w fun e w' => e = .returned (.bool false) ∧ w = w' := by
  have o1 : (FloatKind.f64.format.order 14010698440749613056 4602678819172646912 == some .lt || FloatKind.f64.format.order 14010698440749613056 4602678819172646912 == some .eq) = true := by decide
  have o2 : (FloatKind.f64.format.order 4602678819172646912 4787326403894837248 == some .lt || FloatKind.f64.format.order 4602678819172646912 4787326403894837248 == some .eq) = true := by decide
  have o3 : (FloatKind.f64.format.order 4602678819172646912 (floatOfInt .f64 0) == some .eq) = false := by decide
  have hc : floatToIntVal .f64 4602678819172646912 .i64 = some 0 := by decide
  have hop : ∀ w, (convert 32 3 (.float .f64 4602678819172646912)).run Try.prog w = .ok (.int .i64 0) w := fun w => run_convert_float_int w 32 3 .f64 .i64 4602678819172646912 0 (by rw [Try.underlying32]; rfl) Try.underlying3 hc
  clear hc
  go_enter Try.func22, Try.ntmps22
  go_wp2_with (simp only [hop])
  all_goals
    go_ret
    exact ⟨rfl, rfl⟩

theorem half_any (w : World) : Calls Try.prog 14 #[.complex .f64 4602678819172646912 0] w fun e w' => e = .returned (.bool false) ∧ w = w' := by
  go_enter Try.func14, Try.ntmps14
  go_wp2_with (go_at_call 22; refine (half_part _).mono ?_; rintro e w' ⟨rfl, rfl⟩)
  go_ret
  exact ⟨rfl, rfl⟩

theorem within0_any (a b x y : Int) (w : World) : Calls Try.prog 15 #[pt a b, .complex .f64 0 0, pt x y] w fun e w' => e = .returned (pt (Fx.clamp a 0 x) (Fx.clamp b 0 y)) ∧ w = w' := by
  rw [pt_zero]; exact within_any _ _ _ _ _ _ _

theorem padd0_any (a b : Int) (w : World) : Calls Try.prog 10 #[pt a b, .complex .f64 0 0] w fun e w' => e = .returned (pt (Fx.add a 0) (Fx.add b 0)) ∧ w = w' := by
  rw [pt_zero]; exact padd_any _ _ _ _ _

theorem pworks_any (w : World) : Calls Try.prog 6 #[] w fun e w' => e = .returned (.bool true) ∧ w = w' := by
  have e1 : Fx.add 3 3 = 6 := by decide
  have e2 : Fx.add 4 4 = 8 := by decide
  have e3 : Fx.sub 3 3 = 0 := by decide
  have e4 : Fx.sub 4 4 = 0 := by decide
  have e5 : Fx.cut 3 = 3 := by decide
  have e6 : Fx.cut 4 = 4 := by decide
  have e7 : Fx.clamp 3 0 2 = 2 := by decide
  have e8 : Fx.clamp 4 0 9 = 4 := by decide
  have e9 : Fx.cut 0 = 0 := by decide
  have q0 := guard_pt
  have q1 := @run_eql_pt Try.prog
  have q2 := @run_eql_pt0 Try.prog
  go_enter Try.func6, Try.ntmps6
  go_wp2_with (first | (go_at_call 7; (with_reducible refine (of_any _ _ _).mono ?_); rintro e w' ⟨rfl, rfl⟩) | (go_at_call 8; (with_reducible refine (turn_any _ _ _).mono ?_); rintro e w' ⟨rfl, rfl⟩) | (go_at_call 9; (with_reducible refine (flip_any _ _ _).mono ?_); rintro e w' ⟨rfl, rfl⟩) | (go_at_call 12; (with_reducible refine (x_any _ _ _).mono ?_); rintro e w' ⟨rfl, rfl⟩) | (go_at_call 13; (with_reducible refine (y_any _ _ _).mono ?_); rintro e w' ⟨rfl, rfl⟩) | (go_at_call 10; (with_reducible refine (padd_any _ _ _ _ _).mono ?_); rintro e w' ⟨rfl, rfl⟩) | (go_at_call 11; (with_reducible refine (psub_any _ _ _ _ _).mono ?_); rintro e w' ⟨rfl, rfl⟩) | (go_at_call 14; (with_reducible refine (half_any _).mono ?_); rintro e w' ⟨rfl, rfl⟩) | (go_at_call 14; (with_reducible refine (whole_any _ _ _).mono ?_); rintro e w' ⟨rfl, rfl⟩) | (go_at_call 15; (with_reducible refine (within0_any _ _ _ _ _).mono ?_); rintro e w' ⟨rfl, rfl⟩))
  go_ret
  exact ⟨rfl, rfl⟩

theorem turns_walk (a b c d : Int) (w : World) : Calls Try.prog 3 #[.int .i64 a, .int .i64 b, .int .i64 c, .int .i64 d] w fun e w' => e = .returned (.bool true) ∧ Grown w w' := by
  have e1 : Fx.sub (-a) (-c) = -Fx.sub a c := by
    unfold Fx.sub
    rw [Fx.cut_neg a, Fx.cut_neg c, show -Fx.cut a - -Fx.cut c = -(Fx.cut a - Fx.cut c) by omega, Fx.cut_neg]
  have e2 : - -a = a := by omega
  have q0 := guard_pt
  have q1 := @run_eql_pt Try.prog
  go_enter Try.func3, Try.ntmps3
  go_wp2_with (first | (go_at_call 6; (with_reducible refine (pworks_any _).mono ?_); rintro e w' ⟨rfl, rfl⟩) | (go_at_call 7; (with_reducible refine (of_any _ _ _).mono ?_); rintro e w' ⟨rfl, rfl⟩) | (go_at_call 8; (with_reducible refine (turn_any _ _ _).mono ?_); rintro e w' ⟨rfl, rfl⟩) | (go_at_call 9; (with_reducible refine (flip_any _ _ _).mono ?_); rintro e w' ⟨rfl, rfl⟩) | (go_at_call 10; (with_reducible refine (padd_any _ _ _ _ _).mono ?_); rintro e w' ⟨rfl, rfl⟩) | (go_at_call 11; (with_reducible refine (psub_any _ _ _ _ _).mono ?_); rintro e w' ⟨rfl, rfl⟩))
  go_ret
  exact ⟨rfl, Grown.refl _⟩

theorem axes_walk (x y : Int) (w : World) : Calls Try.prog 5 #[.int .i64 x, .int .i64 y] w fun e w' => e = .returned (.bool true) ∧ Grown w w' := by
  have b1 := Fx.cut_le x
  have b2 := Fx.cut_ge x
  have b3 := Fx.cut_le y
  have b4 := Fx.cut_ge y
  have e1 := Fx.cut_neg x
  have e2 := Fx.cut_neg y
  have e3 := Fx.cut_neg (Fx.cut y)
  have e4 := Fx.cut_cut x
  have e5 := Fx.cut_cut y
  have q0 := guard_pt
  have q1 := @run_eql_pt Try.prog
  go_enter Try.func5, Try.ntmps5
  go_wp2_with (first | (go_at_call 6; (with_reducible refine (pworks_any _).mono ?_); rintro e w' ⟨rfl, rfl⟩) | (go_at_call 7; (with_reducible refine (of_any _ _ _).mono ?_); rintro e w' ⟨rfl, rfl⟩) | (go_at_call 8; (with_reducible refine (turn_any _ _ _).mono ?_); rintro e w' ⟨rfl, rfl⟩) | (go_at_call 9; (with_reducible refine (flip_any _ _ _).mono ?_); rintro e w' ⟨rfl, rfl⟩) | (go_at_call 12; (with_reducible refine (x_any _ _ _).mono ?_); rintro e w' ⟨rfl, rfl⟩) | (go_at_call 13; (with_reducible refine (y_any _ _ _).mono ?_); rintro e w' ⟨rfl, rfl⟩))
  go_ret
  exact ⟨rfl, Grown.refl _⟩

theorem run_add_pt {P : Program} (t : TypeId) {a b c d : Int} (h1 : -1099511627776 ≤ Fx.cut a + Fx.cut c) (h2 : Fx.cut a + Fx.cut c ≤ 1099511627776) (h3 : -1099511627776 ≤ Fx.cut b + Fx.cut d) (h4 : Fx.cut b + Fx.cut d ≤ 1099511627776) (w : World) : (binOp .add t (pt a b) (pt c d)).run P w = .ok (pt (Fx.add a c) (Fx.add b d)) w := by
  unfold pt
  refine run_complex_sum w .add (Or.inl rfl) t .f64 _ _ _ _ _ _ ?_
  unfold cSumBits
  rw [add_fb h1 h2, add_fb h3 h4]; rfl

theorem sub_self (a : Int) : Fx.sub a a = 0 := by unfold Fx.sub; rw [Int.sub_self]; rfl

theorem add_zero (a : Int) : Fx.add a 0 = Fx.cut a := by unfold Fx.add; rw [show Fx.cut 0 = 0 from rfl, Int.add_zero, Fx.cut_cut]

theorem add_sub {a c : Int} (h1 : -1073741824 ≤ a) (h2 : a ≤ 1073741824) (h3 : -1073741824 ≤ c) (h4 : c ≤ 1073741824) : Fx.sub (Fx.add a c) c = a := by
  unfold Fx.sub Fx.add
  rw [Fx.cut_id (n := a) (by omega) (by omega), Fx.cut_id (n := c) (by omega) (by omega), Fx.cut_id (n := a + c) (by omega) (by omega), Fx.cut_id (n := a + c) (by omega) (by omega), Fx.cut_id (by omega) (by omega)]; omega

set_option maxHeartbeats 4000000 in
theorem psums_walk (a b c d : Int) (w : World) : Calls Try.prog 4 #[.int .i64 a, .int .i64 b, .int .i64 c, .int .i64 d] w fun e w' => e = .returned (.bool true) ∧ Grown w w' := by
  have e1 := Fx.add_comm c a
  have e2 := Fx.add_comm d b
  have e3 := sub_self a
  have e4 := sub_self b
  have e5 := add_zero a
  have e6 := add_zero b
  have e7 := Fx.cut_cut a
  have e8 := Fx.cut_cut b
  have e9 : Fx.cut 0 = 0 := rfl
  have q0 := guard_pt
  have q1 := @run_eql_pt Try.prog
  have q2 := @run_eql_pt0 Try.prog
  by_cases h : (-1073741824 ≤ a ∧ a ≤ 1073741824) ∧ (-1073741824 ≤ b ∧ b ≤ 1073741824) ∧ (-1073741824 ≤ c ∧ c ≤ 1073741824) ∧ (-1073741824 ≤ d ∧ d ≤ 1073741824)
  · obtain ⟨⟨a1, a2⟩, ⟨b1, b2⟩, ⟨c1, c2⟩, ⟨d1, d2⟩⟩ := h
    have f1 := add_sub a1 a2 c1 c2
    have f2 := add_sub b1 b2 d1 d2
    have k1 : Fx.cut a = a := Fx.cut_id (by omega) (by omega)
    have k2 : Fx.cut b = b := Fx.cut_id (by omega) (by omega)
    have k3 : Fx.cut c = c := Fx.cut_id (by omega) (by omega)
    have k4 : Fx.cut d = d := Fx.cut_id (by omega) (by omega)
    have q3 := fun t => run_add_pt (P := Try.prog) t (a := a) (b := b) (c := c) (d := d) (by rw [k1, k3]; omega) (by rw [k1, k3]; omega) (by rw [k2, k4]; omega) (by rw [k2, k4]; omega)
    clear k1 k2 k3 k4
    go_enter Try.func4, Try.ntmps4
    go_wp2_with (first | (go_at_call 6; (with_reducible refine (pworks_any _).mono ?_); rintro e w' ⟨rfl, rfl⟩) | (go_at_call 7; (with_reducible refine (of_any _ _ _).mono ?_); rintro e w' ⟨rfl, rfl⟩) | (go_at_call 10; (with_reducible refine (padd0_any _ _ _).mono ?_); rintro e w' ⟨rfl, rfl⟩) | (go_at_call 10; (with_reducible refine (padd_any _ _ _ _ _).mono ?_); rintro e w' ⟨rfl, rfl⟩) | (go_at_call 11; (with_reducible refine (psub_any _ _ _ _ _).mono ?_); rintro e w' ⟨rfl, rfl⟩))
    go_ret
    exact ⟨rfl, Grown.refl _⟩
  · have H := Lib.hid h
    clear h
    go_enter Try.func4, Try.ntmps4
    go_wp2_with (first | (go_at_call 6; (with_reducible refine (pworks_any _).mono ?_); rintro e w' ⟨rfl, rfl⟩) | (go_at_call 7; (with_reducible refine (of_any _ _ _).mono ?_); rintro e w' ⟨rfl, rfl⟩) | (go_at_call 10; (with_reducible refine (padd0_any _ _ _).mono ?_); rintro e w' ⟨rfl, rfl⟩) | (go_at_call 10; (with_reducible refine (padd_any _ _ _ _ _).mono ?_); rintro e w' ⟨rfl, rfl⟩) | (go_at_call 11; (with_reducible refine (psub_any _ _ _ _ _).mono ?_); rintro e w' ⟨rfl, rfl⟩))
    all_goals first
      | (go_ret; exact ⟨rfl, Grown.refl _⟩)
      | (exfalso; exact H.out ⟨⟨by omega, by omega⟩, ⟨by omega, by omega⟩, ⟨by omega, by omega⟩, ⟨by omega, by omega⟩⟩)
end Go.Proofs.Ythghkbldjghfmaa.Fix
