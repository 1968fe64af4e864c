/- The contracts of the calls of the layer point: points are two words that are whole numbers; each call returns the words of the numbers that the plain functions say, and leaves the world as it was. -/
import Derived.Test.YtdgphjpjgldbaaaFix
import Derived.Test.YtdgphjpjgldbaaaFloat
namespace Go.Proofs.Ytdgphjpjgldbaaa.Fix
open Go.ChangeShapes Go.WideShapes Go.ChangeAt Go.RowKit Fl
set_option linter.unusedVariables false

/-- the point of two numbers, cut -/
def pt (x y : Int) : Value := .complex .f64 (fb x) (fb y)

theorem pt_cut (x y : Int) : pt (Fx.cut x) (Fx.cut y) = pt x y := by unfold pt; rw [fb_cut, fb_cut]

theorem pt_zero : (Value.complex .f64 0 0) = pt 0 0 := by
  unfold pt
  rw [show fb 0 = 0 from by decide]

theorem guard_pt (op : BinOp) (t : TypeId) (x y : Operand) (a b : Int) (v : Value) : eqGuard op t x y (pt a b) v = pure () := by cases op <;> rfl

theorem run_eql_pt {P : Program} (t : TypeId) (a b c d : Int) (w : World) : (binOp .eql t (pt a b) (pt c d)).run P w = .ok (.bool (decide (Fx.cut a = Fx.cut c) && decide (Fx.cut b = Fx.cut d))) w := by
  unfold pt
  rw [run_eql_complex, eq_fb, eq_fb]

theorem run_eql_pt0 {P : Program} (t : TypeId) (a b : Int) (w : World) : (binOp .eql t (pt a b) (.complex .f64 0 0)).run P w = .ok (.bool (decide (Fx.cut a = 0) && decide (Fx.cut b = 0))) w := by
  rw [pt_zero, run_eql_pt]; rfl

theorem of_any (x y : Int) (w : World) :
    Calls Try.prog 18 #[.int .i64 x, .int .i64 y] w fun e w' => e = .returned (pt x y) ∧ w = w' := by
  go_enter Try.func18, Try.ntmps18
  go_wp2_with (first | (go_at_call 35; (with_reducible refine (cut_any _ _).mono ?_); rintro e w' ⟨rfl, rfl⟩))
  go_ret
  exact ⟨rfl, rfl⟩

theorem add_cuts (a b : Int) : Fx.add (Fx.cut a) (Fx.cut b) = Fx.add a b := by unfold Fx.add; rw [Fx.cut_cut, Fx.cut_cut]

theorem sub_cuts (a b : Int) : Fx.sub (Fx.cut a) (Fx.cut b) = Fx.sub a b := by unfold Fx.sub; rw [Fx.cut_cut, Fx.cut_cut]

theorem clamp_cuts (a b c : Int) : Fx.clamp (Fx.cut a) (Fx.cut b) (Fx.cut c) = Fx.clamp a b c := by unfold Fx.clamp; rw [Fx.cut_cut, Fx.cut_cut, Fx.cut_cut]

end Go.Proofs.Ytdgphjpjgldbaaa.Fix
