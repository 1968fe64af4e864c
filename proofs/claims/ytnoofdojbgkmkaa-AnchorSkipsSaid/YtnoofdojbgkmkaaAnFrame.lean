/- What the frame hands on: slices of nodes. -/
import Derived.Test.YtnoofdojbgkmkaaAnRow
import Derived.Test.YtnoofdojbgkmkaaRow
import Derived.Deep.Slices
import Derived.Lib.SmallJoins
import Derived.ProofKit
namespace Go.Proofs.Ytnoofdojbgkmkaa.Fix
open Go.ChangeShapes Go.WideShapes Go.ChangeAt Go.RowKit Go.Deep Go.Joins
set_option linter.unusedVariables false

theorem nodeCells : Try.prog.cellsOf 32 = 4 := by kernel_rfl
theorem spanCells : Try.prog.cellsOf 24 = 2 := by kernel_rfl
theorem intCells : Try.prog.cellsOf 3 = 1 := by kernel_rfl
theorem boolCells : Try.prog.cellsOf 4 = 1 := by kernel_rfl

section
variable {H : Type} {enc : TypeId × Value → H} {w : World} {base : Nat} {spare : Nat → Bool} {held : Bool}

/-- A node, read. -/
theorem trod_item {n : Nat} {cs : List Value} {y : DataW H × List MemPlace} (h : DataW.trod enc Try.prog w base spare held n 32 cs = some y) :
    ∃ q : An.Nd, cs = [.int .i64 q.up, .int .i64 q.lo, .int .i64 q.hi, .bool q.skip] := by
  obtain ⟨xs, k, rfl, _, hl, hxl, hf⟩ := DataW.trod_struct Try.underlying32 h
  rw [nodeCells] at hl
  match xs, hxl, cs, hl with
  | [y0, y1, y2], _, [v0, v1, v2, v3], _ =>
    have g0 := hf 0 _ rfl
    have g1 := hf 1 _ rfl
    have g2 := hf 2 _ rfl
    simp [intCells, spanCells, boolCells] at g0 g1 g2
    obtain ⟨a0, e0, _, _⟩ := DataW.trod_int Try.underlying3 g0
    obtain ⟨a3, e3, _⟩ := DataW.trod_bool Try.underlying4 g2
    obtain ⟨zs, k', hk', _, hl', hzl, hf'⟩ := DataW.trod_struct Try.underlying24 g1
    match zs, hzl with
    | [z0, z1], _ =>
      have f0 := hf' 0 _ rfl
      have f1 := hf' 1 _ rfl
      simp [intCells] at f0 f1
      obtain ⟨a1, e1, _, _⟩ := DataW.trod_int Try.underlying3 f0
      obtain ⟨a2, e2, _, _⟩ := DataW.trod_int Try.underlying3 f1
      simp at e0 e1 e2 e3
      exact ⟨⟨a0, a1, a2, a3⟩, by rw [e0, e1, e2, e3]⟩

/-- What the frame hands on of a slice of nodes. -/
def IRow (w : World) (a : Option Addr) (len cap : Nat) : Prop :=
  (a = none ∧ len = 0 ∧ cap = 0) ∨ ∃ x, a = some x ∧ len ≤ cap ∧ cap ≤ maxLen ∧ ∃ l : Nat → An.Nd, ∀ i, i < len → ∀ j, j < 4 → w.cell? (x.add (i * 4 + j)) = ([Value.int .i64 (l i).up, .int .i64 (l i).lo, .int .i64 (l i).hi, .bool (l i).skip] : List Value)[j]?

theorem open_items {n : Nat} {cs : List Value} {x : DataW H × List MemPlace} (h : DataW.trod enc Try.prog w base spare held n 22 cs = some x) :
    ∃ a len cap, cs = [.slice a len cap] ∧ IRow w a len cap := by
  rcases open_slice Try.underlying22 h with ⟨rfl, _⟩ | ⟨a, len, cap, m, k, D, Pl, rfl, hb, hl, hm, hmm, rfl, hx⟩
  · exact ⟨none, 0, 0, rfl, .inl ⟨rfl, rfl, rfl⟩⟩
  · refine ⟨some a, len, cap, rfl, .inr ⟨a, rfl, hl, hm, ?_⟩⟩
    have each : ∀ i, i < len → ∃ q : An.Nd, ∀ j, j < 4 → w.cell? (a.add (i * 4 + j)) = ([Value.int .i64 q.up, .int .i64 q.lo, .int .i64 q.hi, .bool q.skip] : List Value)[j]? := by
      intro i hi
      obtain ⟨cs', h1, h2⟩ := hx i (by rw [hmm]; split <;> omega)
      rw [nodeCells] at h1
      obtain ⟨_, hlen, hcell⟩ := World.cells?_some h1
      obtain ⟨q, rfl⟩ := trod_item h2
      refine ⟨q, fun j hj => ?_⟩
      rw [← hcell j hj, add_add]
    have : Inhabited An.Nd := ⟨⟨0, 0, 0, false⟩⟩
    obtain ⟨q, hq⟩ := choose_lt each
    exact ⟨q, hq⟩
end

theorem IRow.cap {w : World} {a : Option Addr} {len cap : Nat} (h : IRow w a len cap) : len ≤ cap ∧ len ≤ 9223372036854775807 := by
  rcases h with ⟨_, rfl, rfl⟩ | ⟨_, _, h, h2, _⟩
  · omega
  · simp only [maxLen] at h2; omega

theorem IRow.nodes {w : World} {a : Option Addr} {len cap : Nat} (h : IRow w a len cap) : ∃ l, Nodes w a l len := by
  rcases h with ⟨rfl, rfl, rfl⟩ | ⟨x, rfl, _, _, l, hc⟩
  · exact ⟨fun _ => ⟨0, 0, 0, false⟩, fun h => absurd h (by omega)⟩
  · refine ⟨l, fun h0 => ?_⟩
    obtain ⟨b, off, spot⟩ := x
    have c0 := hc 0 h0 0 (by omega)
    have hspot : spot = none := by
      have := World.cell?_spot c0
      simpa [Addr.add] using this
    subst hspot
    have hb := World.block_lt_of_cell? _ _ c0
    refine ⟨b, off, rfl, by unfold Addr.add at hb; simpa using hb, fun k hk => ?_⟩
    have e := fun j hj => hc k hk j hj
    simp only [addr_add, ← Nat.add_assoc] at e
    exact ⟨e 0 (by omega), e 1 (by omega), e 2 (by omega), e 3 (by omega)⟩

/-- A law's ways out, and its slice's capacity. -/
theorem IRow.none {w : World} {a : Option Addr} {len cap : Nat} (h : IRow w a len cap) (ha : a = none) : cap = 0 := by
  rcases h with ⟨_, _, rfl⟩ | ⟨x, rfl, _⟩
  · rfl
  · cases ha

end Go.Proofs.Ytnoofdojbgkmkaa.Fix
