/- The contracts of the calls of the layer point: points are two words that are whole numbers; each call returns the words of the numbers that the plain functions say, and leaves the world as it was. -/
import Derived.Test.YthghkbldjghfmaaFix
import Derived.Test.YthghkbldjghfmaaFloat
namespace Go.Proofs.Ythghkbldjghfmaa.Fix
open Go.ChangeShapes Go.WideShapes Go.ChangeAt Go.RowKit Fl
set_option linter.unusedVariables false

/-- the point of two numbers, cut -/
def pt (x y : Int) : Value := .complex .f64 (fb x) (fb y)

theorem pt_cut (x y : Int) : pt (Fx.cut x) (Fx.cut y) = pt x y := by unfold pt; rw [fb_cut, fb_cut]

theorem pt_zero : (Value.complex .f64 0 0) = pt 0 0 := by
  unfold pt
  rw [show fb 0 = 0 from by decide]

theorem guard_pt (op : BinOp) (t : TypeId) (x y : Operand) (a b : Int) (v : Value) : eqGuard op t x y (pt a b) v = pure () := by cases op <;> rfl

theorem run_eql_pt {P : Program} (t : TypeId) (a b c d : Int) (w : World) : (binOp .eql t (pt a b) (pt c d)).run P w = .ok (.bool (decide (Fx.cut a = Fx.cut c) && decide (Fx.cut b = Fx.cut d))) w := by
  unfold pt
  rw [run_eql_complex, eq_fb, eq_fb]

theorem run_eql_pt0 {P : Program} (t : TypeId) (a b : Int) (w : World) : (binOp .eql t (pt a b) (.complex .f64 0 0)).run P w = .ok (.bool (decide (Fx.cut a = 0) && decide (Fx.cut b = 0))) w := by
  rw [pt_zero, run_eql_pt]; rfl

theorem wholePart_any {b : Nat} {x : Int} (w : World) (h : Has b x) (h1 : -1099511627776 ≤ x) (h2 : x ≤ 1099511627776) :
    Calls Try.prog 22 #[.float .f64 b] w fun e w' => e = .returned (.bool true) ∧ w = w' := by
  have hlo : Has 14010698440749613056 (-1099511627776) := ⟨true, 1099511627776, by decide, by decide, by decide⟩
  have hhi : Has 4787326403894837248 1099511627776 := ⟨false, 1099511627776, by decide, by decide, by decide⟩
  have o1 : (FloatKind.f64.format.order 14010698440749613056 b == some .lt || FloatKind.f64.format.order 14010698440749613056 b == some .eq) = true := by
    rw [has_order hlo h]
    rcases Int.lt_or_eq_of_le h1 with g | g
    · rw [Int.compare_eq_lt.2 g]; rfl
    · subst g; rfl
  have o2 : (FloatKind.f64.format.order b 4787326403894837248 == some .lt || FloatKind.f64.format.order b 4787326403894837248 == some .eq) = true := by
    rw [has_order h hhi]
    rcases Int.lt_or_eq_of_le h2 with g | g
    · rw [Int.compare_eq_lt.2 g]; rfl
    · subst g; rfl
  have o3 : (FloatKind.f64.format.order b (floatOfInt .f64 x) == some .eq) = true := by
    rw [show FloatKind.f64.format.order b (floatOfInt .f64 x) = some (compare x x) from has_order h (has_near (by omega) (by omega))]
    simp
  have hc := has_int h
  have hop : ∀ w, (convert 32 3 (.float .f64 b)).run Try.prog w = .ok (.int .i64 x) w := fun w => run_convert_float_int w 32 3 .f64 .i64 b x (by rw [Try.underlying32]; rfl) Try.underlying3 hc
  clear hc hlo hhi
  go_enter Try.func22, Try.ntmps22
  go_wp2_with (simp only [hop])
  all_goals
    go_ret
    exact ⟨rfl, rfl⟩

theorem whole_has {b c : Nat} {x y : Int} (w : World) (hb : Has b x) (hc : Has c y) (x1 : -1099511627776 ≤ x) (x2 : x ≤ 1099511627776) (y1 : -1099511627776 ≤ y) (y2 : y ≤ 1099511627776) :
    Calls Try.prog 14 #[.complex .f64 b c] w fun e w' => e = .returned (.bool true) ∧ w = w' := by
  go_enter Try.func14, Try.ntmps14
  go_wp2_with (first | (go_at_call 22; (with_reducible refine (wholePart_any _ (by assumption) (by assumption) (by assumption)).mono ?_); rintro e w' ⟨rfl, rfl⟩))
  go_ret
  exact ⟨rfl, rfl⟩

theorem counted_has {b c : Nat} {x y : Int} (w : World) (hb : Has b x) (hc : Has c y) (x1 : -1099511627776 ≤ x) (x2 : x ≤ 1099511627776) (y1 : -1099511627776 ≤ y) (y2 : y ≤ 1099511627776) :
    Calls Try.prog 19 #[.complex .f64 b c] w fun e w' => e = .returned (.complex .f64 b c) ∧ w = w' := by
  go_enter Try.func19, Try.ntmps19
  go_wp2_with (go_at_call 14; refine (whole_has _ hb hc x1 x2 y1 y2).mono ?_; rintro e w' ⟨rfl, rfl⟩)
  go_ret
  exact ⟨rfl, rfl⟩

theorem x_has {b c : Nat} {x y : Int} (w : World) (hb : Has b x) (hc : Has c y) (x1 : -1099511627776 ≤ x) (x2 : x ≤ 1099511627776) (y1 : -1099511627776 ≤ y) (y2 : y ≤ 1099511627776) :
    Calls Try.prog 12 #[.complex .f64 b c] w fun e w' => e = .returned (.int .i64 x) ∧ w = w' := by
  have hi := has_int hb
  have hop : ∀ w, (convert 32 3 (.float .f64 b)).run Try.prog w = .ok (.int .i64 x) w := fun w => run_convert_float_int w 32 3 .f64 .i64 b x (by rw [Try.underlying32]; rfl) Try.underlying3 hi
  clear hi
  go_enter Try.func12, Try.ntmps12
  go_wp2_with (go_at_call 19; refine (counted_has _ hb hc x1 x2 y1 y2).mono ?_; rintro e w' ⟨rfl, rfl⟩)
  go_ret
  exact ⟨rfl, rfl⟩

theorem y_has {b c : Nat} {x y : Int} (w : World) (hb : Has b x) (hc : Has c y) (x1 : -1099511627776 ≤ x) (x2 : x ≤ 1099511627776) (y1 : -1099511627776 ≤ y) (y2 : y ≤ 1099511627776) :
    Calls Try.prog 13 #[.complex .f64 b c] w fun e w' => e = .returned (.int .i64 y) ∧ w = w' := by
  have hi := has_int hc
  have hop : ∀ w, (convert 32 3 (.float .f64 c)).run Try.prog w = .ok (.int .i64 y) w := fun w => run_convert_float_int w 32 3 .f64 .i64 c y (by rw [Try.underlying32]; rfl) Try.underlying3 hi
  clear hi
  go_enter Try.func13, Try.ntmps13
  go_wp2_with (go_at_call 19; refine (counted_has _ hb hc x1 x2 y1 y2).mono ?_; rintro e w' ⟨rfl, rfl⟩)
  go_ret
  exact ⟨rfl, rfl⟩

theorem of_any (x y : Int) (w : World) :
    Calls Try.prog 7 #[.int .i64 x, .int .i64 y] w fun e w' => e = .returned (pt x y) ∧ w = w' := by
  go_enter Try.func7, Try.ntmps7
  go_wp2_with (first | (go_at_call 16; (with_reducible refine (cut_any _ _).mono ?_); rintro e w' ⟨rfl, rfl⟩))
  go_ret
  exact ⟨rfl, rfl⟩

theorem conj_any (b c : Nat) (w : World) :
    Calls Try.prog 18 #[.complex .f64 b c] w fun e w' => e = .returned (.complex .f64 b (Op.negFloat .f64 c)) ∧ w = w' := by
  have hop : ∀ w, (Op.unary UnOp.neg (.float .f64 c)).run Try.prog w = .ok (.float .f64 (Op.negFloat .f64 c)) w := fun _ => rfl
  go_enter Try.func18, Try.ntmps18
  go_wp2
  go_ret
  exact ⟨rfl, rfl⟩

theorem plain_has {b c : Nat} {x y : Int} (w : World) (hb : Has b x) (hc : Has c y) (x1 : -1099511627776 ≤ x) (x2 : x ≤ 1099511627776) (y1 : -1099511627776 ≤ y) (y2 : y ≤ 1099511627776) :
    Calls Try.prog 17 #[.complex .f64 b c] w fun e w' => e = .returned (pt x y) ∧ w = w' := by
  go_enter Try.func17, Try.ntmps17
  go_wp2_with (first | (go_at_call 12; refine (x_has _ hb hc x1 x2 y1 y2).mono ?_; rintro e w' ⟨rfl, rfl⟩) | (go_at_call 13; refine (y_has _ hb hc x1 x2 y1 y2).mono ?_; rintro e w' ⟨rfl, rfl⟩) | (go_at_call 7; refine (of_any _ _ _).mono ?_; rintro e w' ⟨rfl, rfl⟩))
  go_ret
  exact ⟨rfl, rfl⟩

theorem turn_has {b c : Nat} {x y : Int} (w : World) (hb : Has b x) (hc : Has c y) (x1 : -1099511627776 ≤ x) (x2 : x ≤ 1099511627776) (y1 : -1099511627776 ≤ y) (y2 : y ≤ 1099511627776) :
    Calls Try.prog 8 #[.complex .f64 b c] w fun e w' => e = .returned (pt y x) ∧ w = w' := by
  obtain ⟨re, im, hm, hre, him⟩ := has_turn hb hc x1 x2 y1 y2
  have hop := fun t w => run_complex_mul (P := Try.prog) w t 0 4607182418800017408 b (Op.negFloat .f64 c) re im hm
  clear hm
  go_enter Try.func8, Try.ntmps8
  go_wp2_with (first | (go_at_call 19; refine (counted_has _ hb hc x1 x2 y1 y2).mono ?_; rintro e w' ⟨rfl, rfl⟩) | (go_at_call 18; refine (conj_any _ _ _).mono ?_; rintro e w' ⟨rfl, rfl⟩) | (go_at_call 17; refine (plain_has _ hre him y1 y2 x1 x2).mono ?_; rintro e w' ⟨rfl, rfl⟩))
  go_ret
  exact ⟨rfl, rfl⟩

theorem flip_has {b c : Nat} {x y : Int} (w : World) (hb : Has b x) (hc : Has c y) (x1 : -1099511627776 ≤ x) (x2 : x ≤ 1099511627776) (y1 : -1099511627776 ≤ y) (y2 : y ≤ 1099511627776) :
    Calls Try.prog 9 #[.complex .f64 b c] w fun e w' => e = .returned (pt (-x) y) ∧ w = w' := by
  obtain ⟨re, im, hm, hre, him⟩ := has_flip hb hc x1 x2 y1 y2
  have hop := fun t w => run_complex_mul (P := Try.prog) w t 13830554455654793216 0 b (Op.negFloat .f64 c) re im hm
  clear hm
  have z1 : -1099511627776 ≤ -x := by omega
  have z2 : -x ≤ 1099511627776 := by omega
  go_enter Try.func9, Try.ntmps9
  go_wp2_with (first | (go_at_call 19; refine (counted_has _ hb hc x1 x2 y1 y2).mono ?_; rintro e w' ⟨rfl, rfl⟩) | (go_at_call 18; refine (conj_any _ _ _).mono ?_; rintro e w' ⟨rfl, rfl⟩) | (go_at_call 17; refine (plain_has _ hre him z1 z2 y1 y2).mono ?_; rintro e w' ⟨rfl, rfl⟩))
  go_ret
  exact ⟨rfl, rfl⟩

theorem x_any (x y : Int) (w : World) : Calls Try.prog 12 #[pt x y] w fun e w' => e = .returned (.int .i64 (Fx.cut x)) ∧ w = w' :=
  x_has w (has_fb x) (has_fb y) (Fx.cut_ge x) (Fx.cut_le x) (Fx.cut_ge y) (Fx.cut_le y)

theorem y_any (x y : Int) (w : World) : Calls Try.prog 13 #[pt x y] w fun e w' => e = .returned (.int .i64 (Fx.cut y)) ∧ w = w' :=
  y_has w (has_fb x) (has_fb y) (Fx.cut_ge x) (Fx.cut_le x) (Fx.cut_ge y) (Fx.cut_le y)

theorem whole_any (x y : Int) (w : World) : Calls Try.prog 14 #[pt x y] w fun e w' => e = .returned (.bool true) ∧ w = w' :=
  whole_has w (has_fb x) (has_fb y) (Fx.cut_ge x) (Fx.cut_le x) (Fx.cut_ge y) (Fx.cut_le y)

theorem turn_any (x y : Int) (w : World) : Calls Try.prog 8 #[pt x y] w fun e w' => e = .returned (pt y x) ∧ w = w' := by
  have h := turn_has w (has_fb x) (has_fb y) (Fx.cut_ge x) (Fx.cut_le x) (Fx.cut_ge y) (Fx.cut_le y)
  rw [pt_cut] at h
  exact h

theorem flip_any (x y : Int) (w : World) : Calls Try.prog 9 #[pt x y] w fun e w' => e = .returned (pt (-x) y) ∧ w = w' := by
  have h := flip_has w (has_fb x) (has_fb y) (Fx.cut_ge x) (Fx.cut_le x) (Fx.cut_ge y) (Fx.cut_le y)
  rw [← Fx.cut_neg, pt_cut] at h
  exact h

theorem add_cuts (a b : Int) : Fx.add (Fx.cut a) (Fx.cut b) = Fx.add a b := by unfold Fx.add; rw [Fx.cut_cut, Fx.cut_cut]

theorem sub_cuts (a b : Int) : Fx.sub (Fx.cut a) (Fx.cut b) = Fx.sub a b := by unfold Fx.sub; rw [Fx.cut_cut, Fx.cut_cut]

theorem clamp_cuts (a b c : Int) : Fx.clamp (Fx.cut a) (Fx.cut b) (Fx.cut c) = Fx.clamp a b c := by unfold Fx.clamp; rw [Fx.cut_cut, Fx.cut_cut, Fx.cut_cut]

theorem padd_any (a b c d : Int) (w : World) : Calls Try.prog 10 #[pt a b, pt c d] w fun e w' => e = .returned (pt (Fx.add a c) (Fx.add b d)) ∧ w = w' := by
  rw [← add_cuts a c, ← add_cuts b d]
  go_enter Try.func10, Try.ntmps10
  go_wp2_with (first | (go_at_call 12; (with_reducible refine (x_any _ _ _).mono ?_); rintro e w' ⟨rfl, rfl⟩) | (go_at_call 13; (with_reducible refine (y_any _ _ _).mono ?_); rintro e w' ⟨rfl, rfl⟩) | (go_at_call 20; (with_reducible refine (add_any _ _ _).mono ?_); rintro e w' ⟨rfl, rfl⟩) | (go_at_call 7; (with_reducible refine (of_any _ _ _).mono ?_); rintro e w' ⟨rfl, rfl⟩))
  go_ret
  exact ⟨rfl, rfl⟩

theorem psub_any (a b c d : Int) (w : World) : Calls Try.prog 11 #[pt a b, pt c d] w fun e w' => e = .returned (pt (Fx.sub a c) (Fx.sub b d)) ∧ w = w' := by
  rw [← sub_cuts a c, ← sub_cuts b d]
  go_enter Try.func11, Try.ntmps11
  go_wp2_with (first | (go_at_call 12; (with_reducible refine (x_any _ _ _).mono ?_); rintro e w' ⟨rfl, rfl⟩) | (go_at_call 13; (with_reducible refine (y_any _ _ _).mono ?_); rintro e w' ⟨rfl, rfl⟩) | (go_at_call 21; (with_reducible refine (sub_any _ _ _).mono ?_); rintro e w' ⟨rfl, rfl⟩) | (go_at_call 7; (with_reducible refine (of_any _ _ _).mono ?_); rintro e w' ⟨rfl, rfl⟩))
  go_ret
  exact ⟨rfl, rfl⟩

theorem within_any (a b c d x y : Int) (w : World) : Calls Try.prog 15 #[pt a b, pt c d, pt x y] w fun e w' => e = .returned (pt (Fx.clamp a c x) (Fx.clamp b d y)) ∧ w = w' := by
  rw [← clamp_cuts a c x, ← clamp_cuts b d y]
  go_enter Try.func15, Try.ntmps15
  go_wp2_with (first | (go_at_call 12; (with_reducible refine (x_any _ _ _).mono ?_); rintro e w' ⟨rfl, rfl⟩) | (go_at_call 13; (with_reducible refine (y_any _ _ _).mono ?_); rintro e w' ⟨rfl, rfl⟩) | (go_at_call 23; (with_reducible refine (clamp_any _ _ _ _).mono ?_); rintro e w' ⟨rfl, rfl⟩) | (go_at_call 7; (with_reducible refine (of_any _ _ _).mono ?_); rintro e w' ⟨rfl, rfl⟩))
  go_ret
  exact ⟨rfl, rfl⟩

end Go.Proofs.Ythghkbldjghfmaa.Fix
