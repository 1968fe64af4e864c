/- The contracts of the calls of the layer point: points are two words that are whole numbers; each call returns the words of the numbers that the plain functions say, and leaves the world as it was. -/
import Derived.Test.YtfmbmgkckdlhfaaFix
import Derived.Test.YtfmbmgkckdlhfaaFloat
namespace Go.Proofs.Ytfmbmgkckdlhfaa.Fix
open Go.ChangeShapes Go.WideShapes Go.ChangeAt Go.RowKit Fl
set_option linter.unusedVariables false

/-- the point of two numbers, cut -/
def pt (x y : Int) : Value := .complex .f64 (fb x) (fb y)

theorem pt_cut (x y : Int) : pt (Fx.cut x) (Fx.cut y) = pt x y := by unfold pt; rw [fb_cut, fb_cut]

theorem pt_zero : (Value.complex .f64 0 0) = pt 0 0 := by
  unfold pt
  rw [show fb 0 = 0 from by decide]

theorem guard_pt (op : BinOp) (t : TypeId) (x y : Operand) (a b : Int) (v : Value) : eqGuard op t x y (pt a b) v = pure () := by cases op <;> rfl

theorem run_eql_pt {P : Program} (t : TypeId) (a b c d : Int) (w : World) : (binOp .eql t (pt a b) (pt c d)).run P w = .ok (.bool (decide (Fx.cut a = Fx.cut c) && decide (Fx.cut b = Fx.cut d))) w := by
  unfold pt
  rw [run_eql_complex, eq_fb, eq_fb]

theorem run_eql_pt0 {P : Program} (t : TypeId) (a b : Int) (w : World) : (binOp .eql t (pt a b) (.complex .f64 0 0)).run P w = .ok (.bool (decide (Fx.cut a = 0) && decide (Fx.cut b = 0))) w := by
  rw [pt_zero, run_eql_pt]; rfl

theorem wholePart_any {b : Nat} {x : Int} (w : World) (h : Has b x) (h1 : -1099511627776 ≤ x) (h2 : x ≤ 1099511627776) :
    Calls Try.prog 41 #[.float .f64 b] w fun e w' => e = .returned (.bool true) ∧ w = w' := by
  have hlo : Has 14010698440749613056 (-1099511627776) := ⟨true, 1099511627776, by decide, by decide, by decide⟩
  have hhi : Has 4787326403894837248 1099511627776 := ⟨false, 1099511627776, by decide, by decide, by decide⟩
  have o1 : (FloatKind.f64.format.order 14010698440749613056 b == some .lt || FloatKind.f64.format.order 14010698440749613056 b == some .eq) = true := by
    rw [has_order hlo h]
    rcases Int.lt_or_eq_of_le h1 with g | g
    · rw [Int.compare_eq_lt.2 g]; rfl
    · subst g; rfl
  have o2 : (FloatKind.f64.format.order b 4787326403894837248 == some .lt || FloatKind.f64.format.order b 4787326403894837248 == some .eq) = true := by
    rw [has_order h hhi]
    rcases Int.lt_or_eq_of_le h2 with g | g
    · rw [Int.compare_eq_lt.2 g]; rfl
    · subst g; rfl
  have o3 : (FloatKind.f64.format.order b (floatOfInt .f64 x) == some .eq) = true := by
    rw [show FloatKind.f64.format.order b (floatOfInt .f64 x) = some (compare x x) from has_order h (has_near (by omega) (by omega))]
    simp
  have hc := has_int h
  have hop : ∀ w, (convert 44 3 (.float .f64 b)).run Try.prog w = .ok (.int .i64 x) w := fun w => run_convert_float_int w 44 3 .f64 .i64 b x (by rw [Try.underlying44]; rfl) Try.underlying3 hc
  clear hc hlo hhi
  go_enter Try.func41, Try.ntmps41
  go_wp2_with (simp only [hop])
  all_goals
    go_ret
    exact ⟨rfl, rfl⟩

theorem whole_has {b c : Nat} {x y : Int} (w : World) (hb : Has b x) (hc : Has c y) (x1 : -1099511627776 ≤ x) (x2 : x ≤ 1099511627776) (y1 : -1099511627776 ≤ y) (y2 : y ≤ 1099511627776) :
    Calls Try.prog 40 #[.complex .f64 b c] w fun e w' => e = .returned (.bool true) ∧ w = w' := by
  go_enter Try.func40, Try.ntmps40
  go_wp2_with (first | (go_at_call 41; (with_reducible refine (wholePart_any _ (by assumption) (by assumption) (by assumption)).mono ?_); rintro e w' ⟨rfl, rfl⟩))
  go_ret
  exact ⟨rfl, rfl⟩

theorem counted_has {b c : Nat} {x y : Int} (w : World) (hb : Has b x) (hc : Has c y) (x1 : -1099511627776 ≤ x) (x2 : x ≤ 1099511627776) (y1 : -1099511627776 ≤ y) (y2 : y ≤ 1099511627776) :
    Calls Try.prog 36 #[.complex .f64 b c] w fun e w' => e = .returned (.complex .f64 b c) ∧ w = w' := by
  go_enter Try.func36, Try.ntmps36
  go_wp2_with (go_at_call 40; refine (whole_has _ hb hc x1 x2 y1 y2).mono ?_; rintro e w' ⟨rfl, rfl⟩)
  go_ret
  exact ⟨rfl, rfl⟩

theorem x_has {b c : Nat} {x y : Int} (w : World) (hb : Has b x) (hc : Has c y) (x1 : -1099511627776 ≤ x) (x2 : x ≤ 1099511627776) (y1 : -1099511627776 ≤ y) (y2 : y ≤ 1099511627776) :
    Calls Try.prog 23 #[.complex .f64 b c] w fun e w' => e = .returned (.int .i64 x) ∧ w = w' := by
  have hi := has_int hb
  have hop : ∀ w, (convert 44 3 (.float .f64 b)).run Try.prog w = .ok (.int .i64 x) w := fun w => run_convert_float_int w 44 3 .f64 .i64 b x (by rw [Try.underlying44]; rfl) Try.underlying3 hi
  clear hi
  go_enter Try.func23, Try.ntmps23
  go_wp2_with (go_at_call 36; refine (counted_has _ hb hc x1 x2 y1 y2).mono ?_; rintro e w' ⟨rfl, rfl⟩)
  go_ret
  exact ⟨rfl, rfl⟩

theorem y_has {b c : Nat} {x y : Int} (w : World) (hb : Has b x) (hc : Has c y) (x1 : -1099511627776 ≤ x) (x2 : x ≤ 1099511627776) (y1 : -1099511627776 ≤ y) (y2 : y ≤ 1099511627776) :
    Calls Try.prog 24 #[.complex .f64 b c] w fun e w' => e = .returned (.int .i64 y) ∧ w = w' := by
  have hi := has_int hc
  have hop : ∀ w, (convert 44 3 (.float .f64 c)).run Try.prog w = .ok (.int .i64 y) w := fun w => run_convert_float_int w 44 3 .f64 .i64 c y (by rw [Try.underlying44]; rfl) Try.underlying3 hi
  clear hi
  go_enter Try.func24, Try.ntmps24
  go_wp2_with (go_at_call 36; refine (counted_has _ hb hc x1 x2 y1 y2).mono ?_; rintro e w' ⟨rfl, rfl⟩)
  go_ret
  exact ⟨rfl, rfl⟩

theorem of_any (x y : Int) (w : World) :
    Calls Try.prog 9 #[.int .i64 x, .int .i64 y] w fun e w' => e = .returned (pt x y) ∧ w = w' := by
  go_enter Try.func9, Try.ntmps9
  go_wp2_with (first | (go_at_call 22; (with_reducible refine (cut_any _ _).mono ?_); rintro e w' ⟨rfl, rfl⟩))
  go_ret
  exact ⟨rfl, rfl⟩

theorem x_any (x y : Int) (w : World) : Calls Try.prog 23 #[pt x y] w fun e w' => e = .returned (.int .i64 (Fx.cut x)) ∧ w = w' :=
  x_has w (has_fb x) (has_fb y) (Fx.cut_ge x) (Fx.cut_le x) (Fx.cut_ge y) (Fx.cut_le y)

theorem y_any (x y : Int) (w : World) : Calls Try.prog 24 #[pt x y] w fun e w' => e = .returned (.int .i64 (Fx.cut y)) ∧ w = w' :=
  y_has w (has_fb x) (has_fb y) (Fx.cut_ge x) (Fx.cut_le x) (Fx.cut_ge y) (Fx.cut_le y)

theorem whole_any (x y : Int) (w : World) : Calls Try.prog 40 #[pt x y] w fun e w' => e = .returned (.bool true) ∧ w = w' :=
  whole_has w (has_fb x) (has_fb y) (Fx.cut_ge x) (Fx.cut_le x) (Fx.cut_ge y) (Fx.cut_le y)

theorem add_cuts (a b : Int) : Fx.add (Fx.cut a) (Fx.cut b) = Fx.add a b := by unfold Fx.add; rw [Fx.cut_cut, Fx.cut_cut]

theorem sub_cuts (a b : Int) : Fx.sub (Fx.cut a) (Fx.cut b) = Fx.sub a b := by unfold Fx.sub; rw [Fx.cut_cut, Fx.cut_cut]

theorem clamp_cuts (a b c : Int) : Fx.clamp (Fx.cut a) (Fx.cut b) (Fx.cut c) = Fx.clamp a b c := by unfold Fx.clamp; rw [Fx.cut_cut, Fx.cut_cut, Fx.cut_cut]

theorem padd_any (a b c d : Int) (w : World) : Calls Try.prog 13 #[pt a b, pt c d] w fun e w' => e = .returned (pt (Fx.add a c) (Fx.add b d)) ∧ w = w' := by
  rw [← add_cuts a c, ← add_cuts b d]
  go_enter Try.func13, Try.ntmps13
  go_wp2_with (first | (go_at_call 23; (with_reducible refine (x_any _ _ _).mono ?_); rintro e w' ⟨rfl, rfl⟩) | (go_at_call 24; (with_reducible refine (y_any _ _ _).mono ?_); rintro e w' ⟨rfl, rfl⟩) | (go_at_call 27; (with_reducible refine (add_any _ _ _).mono ?_); rintro e w' ⟨rfl, rfl⟩) | (go_at_call 9; (with_reducible refine (of_any _ _ _).mono ?_); rintro e w' ⟨rfl, rfl⟩))
  go_ret
  exact ⟨rfl, rfl⟩

end Go.Proofs.Ytfmbmgkckdlhfaa.Fix
