/- The document's examples of the layer fix hold in the program: the call works() of the statements returns true, and makes at most new memory. -/
import Derived.Test.YtkambjepclbjeaaFixSum
namespace Go.Proofs.Ytkambjepclbjeaa.Fix
open Go.ChangeShapes Go.WideShapes Go.ChangeAt Go.RowKit
set_option linter.unusedVariables false

theorem works_any (w : World) : Calls Try.prog 10 #[] w fun e w' => e = .returned (.bool true) ∧ Below w.heap.size w w' ∧ Grown w w' := by
  have e1 : Fx.part 640 2500 = 160 := by decide
  have e2 : Fx.div (-1) 2 = -1 := by decide
  have e3 : Fx.clamp 5 7 3 = 7 := by decide
  have e4 : Fx.cut 1125899906842624 = 1099511627776 := by decide
  have e5 : Fx.add 3 4 = 7 := by decide
  have e6 : Fx.sub 3 4 = -1 := by decide
  have e7 : Fx.mul (-3) 4 = -12 := by decide
  have e8 : Fx.sum [1, 2, 3] = 6 := by decide
  go_enter Try.func10, Try.ntmps10
  go_wp2_with (first
    | (go_at_call 11; refine (cut_any _ _).mono ?_; rintro e w' ⟨rfl, rfl⟩)
    | (go_at_call 13; refine (add_any _ _ _).mono ?_; rintro e w' ⟨rfl, rfl⟩)
    | (go_at_call 15; refine (sub_any _ _ _).mono ?_; rintro e w' ⟨rfl, rfl⟩)
    | (go_at_call 17; refine (mul_any _ _ _).mono ?_; rintro e w' ⟨rfl, rfl⟩)
    | (go_at_call 19; refine (div_any _ _ _).mono ?_; rintro e w' ⟨rfl, rfl⟩)
    | (go_at_call 21; refine (part_any _ _ _).mono ?_; rintro e w' ⟨rfl, rfl⟩)
    | (go_at_call 23; refine (clamp_any _ _ _ _).mono ?_; rintro e w' ⟨rfl, rfl⟩)
    | (go_at_call 25; refine (sum3 _ _ _ _ _).mono ?_; rintro e w' ⟨rfl, rfl⟩))
  go_ret
  exact ⟨rfl, (Below.refl _ _).alloc (Nat.le_refl _) _, by apply Grown.alloc; exact Grown.refl _⟩
end Go.Proofs.Ytkambjepclbjeaa.Fix
