/- The contracts of Stack of the layer margin (and of the document's own answer for it, and of its comparison of two rows). -/
import Derived.Test.YtbmidmpooooheaaMar
import Derived.Test.YtbmidmpooooheaaDrawnAt
import Derived.Deep.OwnRows
import Derived.Maps.AppendAt
set_option maxRecDepth 100000
namespace Go.Proofs.Ytbmidmpooooheaa.Fix
open Go.ChangeShapes Go.WideShapes Go.ChangeAt Go.RowKit
set_option linter.unusedVariables false

theorem Ints.lt {w : World} {A : Option Addr} {zs : List Int} (h : Ints w A zs) (h0 : 0 < zs.length) : ∀ x, A = some x → x.block < w.heap.size := by
  intro x hx
  obtain ⟨b, off, rfl, hc⟩ := h.2 h0
  injection hx with hx
  subst hx
  exact World.block_lt_of_cell? _ _ (hc 0 h0)

theorem Ints.after {W w : World} {A : Option Addr} {zs : List Int} (h : Ints W A zs) (hb : Below W.heap.size W w) : Ints w A zs := h.keep hb h.lt

/-- What a round at place k finds: its cell, which lies in old memory. -/
theorem Ints.at_ {w : World} {A : Option Addr} {zs : List Int} (h : Ints w A zs) {k : Nat} (hk : k < zs.length) : ∃ b off, A = some ⟨b, off, none⟩ ∧ b < w.heap.size ∧ w.cell? ⟨b, off + k, none⟩ = some (.int .i64 (zs.getD k 0)) := by
  obtain ⟨b, off, rfl, hc⟩ := h.2 (by omega)
  exact ⟨b, off, rfl, World.block_lt_of_cell? _ _ (hc k hk), hc k hk⟩

def stRow (f : Nat → Int) (n k : Nat) : Array Value := ((List.range n).map fun j => Value.int .i64 (if j < k then f j else 0)).toArray

theorem stRow_get (f : Nat → Int) {n k j : Nat} (h : j < n) : (stRow f n k)[j]? = some (.int .i64 (if j < k then f j else 0)) := by simp [stRow, h]

theorem stRow_size (f : Nat → Int) (n k : Nat) : (stRow f n k).size = n := by simp [stRow]

theorem stRow_made (f : Nat → Int) (n : Nat) : madeCells #[.int .i64 0] n = stRow f n 0 := by
  apply Array.ext
  · simp [stRow, size_madeCells]
  · intro i h1 h2
    simp [madeCells, stRow, Nat.mod_one]

theorem stRow_set (f : Nat → Int) {n k : Nat} (h : k < n) : (stRow f n k).setIfInBounds k (.int .i64 (f k)) = stRow f n (k + 1) := by
  apply Array.ext_getElem?
  intro i
  rw [Array.getElem?_setIfInBounds, stRow_size]
  by_cases hin : i < n
  · rw [stRow_get f hin, stRow_get f hin]
    by_cases hik : k = i
    · subst hik; simp [hin]
    · simp only [hik, if_false]
      have : (i < k) = (i < k + 1) := by simp; omega
      simp only [this]
  · have h1 : (stRow f n k)[i]? = none := Array.getElem?_eq_none (by rw [stRow_size]; omega)
    have h2 : (stRow f n (k + 1))[i]? = none := Array.getElem?_eq_none (by rw [stRow_size]; omega)
    rw [h1, h2]
    rw [if_neg (by omega)]

theorem stRow_skip (f : Nat → Int) (n : Nat) (h : f 0 = 0) : stRow f n 0 = stRow f n 1 := by
  unfold stRow
  congr 1
  apply List.map_congr_left
  intro j hj
  by_cases h0 : j = 0
  · subst h0; simp [h]
  · simp; omega

theorem ints_of_stRow {w : World} {b : Nat} {T : TypeId} (s t u : List Int) (n : Nat) (hn : n ≤ maxLen) (h : At w b (.cells (stRow (Fx.stBeg s t u) n n) T)) : Ints w (some ⟨b, 0, none⟩) (Fx.stBegs s t u n) := by
  refine ⟨by rw [Fx.stBegs_length]; exact hn, fun h0 => ⟨b, 0, rfl, fun k hk => ?_⟩⟩
  rw [Fx.stBegs_length] at hk
  rw [h.cell, Nat.zero_add, stRow_get _ hk, Fx.stBegs_get _ _ _ hk]
  simp [hk]

theorem intZero : (Try.prog.info? 3).map (fun i => (i.zero, i.size, i.bytes)) = some (some (.int .i64 0), 1, 8) := by kernel_rfl

end Go.Proofs.Ytbmidmpooooheaa.Fix
