/- What the frame hands on of a slice of integers (as in layer 6), and rows of a content by the index. -/
import Derived.Test.YtabmlohobbbnbaaLinLaws
namespace Go.Proofs.Ytabmlohobbbnbaa.Fix
open Go.ChangeShapes Go.WideShapes Go.ChangeAt Go.RowKit
set_option linter.unusedVariables false

/-- What the frame hands on of a slice of integers. -/
def Row (w : World) (a : Option Addr) (len cap : Nat) (zs : List Int) : Prop :=
  (a = none ∧ len = 0 ∧ cap = 0 ∧ zs = []) ∨ ∃ x, a = some x ∧ len ≤ cap ∧ cap ≤ maxLen ∧ zs.length = cap ∧ (∀ i, i < zs.length → w.cell? (x.add i) = some (.int .i64 (zs.getD i 0))) ∧ ∀ n ∈ zs, (Lit.int .i64 n).wf = true

theorem Row.cap {w : World} {a : Option Addr} {len cap : Nat} {zs : List Int} (h : Row w a len cap zs) : len ≤ cap := by
  rcases h with ⟨_, rfl, rfl, _⟩ | ⟨_, _, h, _⟩ <;> omega

/-- A row of bools. -/
def bRow (F : Nat → Bool) (n : Nat) : Array Value := ((List.range n).map fun j => Value.bool (F j)).toArray

theorem bRow_get (F : Nat → Bool) {n j : Nat} (h : j < n) : (bRow F n)[j]? = some (.bool (F j)) := by simp [bRow, h]

theorem bRow_size (F : Nat → Bool) (n : Nat) : (bRow F n).size = n := by simp [bRow]

theorem bRow_made (n : Nat) : madeCells #[.bool false] n = bRow (fun _ => false) n := by
  apply Array.ext
  · simp [bRow, size_madeCells]
  · intro i h1 h2
    simp [madeCells, bRow, Nat.mod_one]

theorem bRow_set (F : Nat → Bool) {n : Nat} (k : Nat) (b : Bool) : (bRow F n).setIfInBounds k (.bool b) = bRow (fun j => if j = k then b else F j) n := by
  apply Array.ext_getElem?
  intro i
  rw [Array.getElem?_setIfInBounds, bRow_size]
  by_cases hin : i < n
  · rw [bRow_get F hin, bRow_get _ hin]
    by_cases hik : k = i
    · subst hik; simp [hin]
    · simp only [hik, if_false]
      simp [Ne.symm hik]
  · have h1 : (bRow F n)[i]? = none := Array.getElem?_eq_none (by rw [bRow_size]; omega)
    have h2 : (bRow (fun j => if j = k then b else F j) n)[i]? = none := Array.getElem?_eq_none (by rw [bRow_size]; omega)
    rw [h1, h2]
    split
    · rw [if_neg (by omega)]
    · rfl

theorem boolZero : (Try.prog.info? 4).map (fun i => (i.zero, i.size, i.bytes)) = some (some (.bool false), 1, 1) := by kernel_rfl

end Go.Proofs.Ytabmlohobbbnbaa.Fix
