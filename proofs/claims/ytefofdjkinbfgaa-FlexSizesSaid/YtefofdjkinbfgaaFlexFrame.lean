/- What the frame hands on: slices of integers, slices of items, an item by value; and rows of bools by the index. -/
import Derived.Test.YtefofdjkinbfgaaFlexWorks
import Derived.Test.YtefofdjkinbfgaaRow
import Derived.Deep.Slices
import Derived.Lib.SmallJoins
import Derived.ProofKit
namespace Go.Proofs.Ytefofdjkinbfgaa.Fix
open Go.ChangeShapes Go.WideShapes Go.ChangeAt Go.RowKit Go.Deep Go.Joins
set_option linter.unusedVariables false

/-- What the frame hands on of a slice of integers. -/
def Row (w : World) (a : Option Addr) (len cap : Nat) (zs : List Int) : Prop :=
  (a = none ∧ len = 0 ∧ cap = 0 ∧ zs = []) ∨ ∃ x, a = some x ∧ len ≤ cap ∧ cap ≤ maxLen ∧ zs.length = cap ∧ (∀ i, i < zs.length → w.cell? (x.add i) = some (.int .i64 (zs.getD i 0))) ∧ ∀ n ∈ zs, (Lit.int .i64 n).wf = true

theorem Row.cap {w : World} {a : Option Addr} {len cap : Nat} {zs : List Int} (h : Row w a len cap zs) : len ≤ cap := by
  rcases h with ⟨_, rfl, rfl, _⟩ | ⟨_, _, h, _⟩ <;> omega

theorem itemCells : Try.prog.cellsOf 28 = 5 := by kernel_rfl
theorem intCells : Try.prog.cellsOf 3 = 1 := by kernel_rfl

section
variable {H : Type} {enc : TypeId × Value → H} {w : World} {base : Nat} {spare : Nat → Bool} {held : Bool}

/-- An item, read. -/
theorem trod_item {n : Nat} {cs : List Value} {y : DataW H × List MemPlace} (h : DataW.trod enc Try.prog w base spare held n 28 cs = some y) :
    ∃ q : Fe.It, cs = [.int .i64 q.b, .int .i64 q.lo, .int .i64 q.hi, .int .i64 q.g, .int .i64 q.s] := by
  obtain ⟨xs, k, rfl, _, hl, hxl, hf⟩ := DataW.trod_struct Try.underlying28 h
  rw [itemCells] at hl
  match xs, hxl, cs, hl with
  | [y0, y1, y2, y3, y4], _, [v0, v1, v2, v3, v4], _ =>
    have g0 := hf 0 _ rfl
    have g1 := hf 1 _ rfl
    have g2 := hf 2 _ rfl
    have g3 := hf 3 _ rfl
    have g4 := hf 4 _ rfl
    simp [intCells] at g0 g1 g2 g3 g4
    obtain ⟨a0, e0, _, _⟩ := DataW.trod_int Try.underlying3 g0
    obtain ⟨a1, e1, _, _⟩ := DataW.trod_int Try.underlying3 g1
    obtain ⟨a2, e2, _, _⟩ := DataW.trod_int Try.underlying3 g2
    obtain ⟨a3, e3, _, _⟩ := DataW.trod_int Try.underlying3 g3
    obtain ⟨a4, e4, _, _⟩ := DataW.trod_int Try.underlying3 g4
    simp at e0 e1 e2 e3 e4
    exact ⟨⟨a0, a1, a2, a3, a4⟩, by rw [e0, e1, e2, e3, e4]⟩

/-- What the frame hands on of a slice of items. -/
def IRow (w : World) (a : Option Addr) (len cap : Nat) : Prop :=
  (a = none ∧ len = 0 ∧ cap = 0) ∨ ∃ x, a = some x ∧ len ≤ cap ∧ cap ≤ maxLen ∧ ∃ l : Nat → Fe.It, ∀ i, i < len → ∀ j, j < 5 → w.cell? (x.add (i * 5 + j)) = ([Value.int .i64 (l i).b, .int .i64 (l i).lo, .int .i64 (l i).hi, .int .i64 (l i).g, .int .i64 (l i).s] : List Value)[j]?

theorem open_items {n : Nat} {cs : List Value} {x : DataW H × List MemPlace} (h : DataW.trod enc Try.prog w base spare held n 22 cs = some x) :
    ∃ a len cap, cs = [.slice a len cap] ∧ IRow w a len cap := by
  rcases open_slice Try.underlying22 h with ⟨rfl, _⟩ | ⟨a, len, cap, m, k, D, Pl, rfl, hb, hl, hm, hmm, rfl, hx⟩
  · exact ⟨none, 0, 0, rfl, .inl ⟨rfl, rfl, rfl⟩⟩
  · refine ⟨some a, len, cap, rfl, .inr ⟨a, rfl, hl, hm, ?_⟩⟩
    have each : ∀ i, i < len → ∃ q : Fe.It, ∀ j, j < 5 → w.cell? (a.add (i * 5 + j)) = ([Value.int .i64 q.b, .int .i64 q.lo, .int .i64 q.hi, .int .i64 q.g, .int .i64 q.s] : List Value)[j]? := by
      intro i hi
      obtain ⟨cs', h1, h2⟩ := hx i (by rw [hmm]; split <;> omega)
      rw [itemCells] at h1
      obtain ⟨_, hlen, hcell⟩ := World.cells?_some h1
      obtain ⟨q, rfl⟩ := trod_item h2
      refine ⟨q, fun j hj => ?_⟩
      rw [← hcell j hj, add_add]
    have : Inhabited Fe.It := ⟨⟨0, 0, 0, 0, 0⟩⟩
    obtain ⟨q, hq⟩ := choose_lt each
    exact ⟨q, hq⟩

/-- An item by value. -/
theorem open_item {cs : Array Value} {d : DataW H} {p : List MemPlace} (h : DataW.Trod enc Try.prog w base spare held 28 (.agg cs) d p) : ∃ b lo hi g s : Int, Value.agg cs = .agg #[.int .i64 b, .int .i64 lo, .int .i64 hi, .int .i64 g, .int .i64 s] := by
  obtain ⟨fuel, hf⟩ := h
  obtain ⟨q, hq⟩ := trod_item hf
  refine ⟨q.b, q.lo, q.hi, q.g, q.s, ?_⟩
  simp only [Value.cells] at hq
  congr 1
  exact Array.toList_inj.1 hq
end

theorem IRow.cap {w : World} {a : Option Addr} {len cap : Nat} (h : IRow w a len cap) : len ≤ cap ∧ len ≤ 9223372036854775807 := by
  rcases h with ⟨_, rfl, rfl⟩ | ⟨_, _, h, h2, _⟩
  · omega
  · simp only [maxLen] at h2; omega

theorem IRow.items {w : World} {a : Option Addr} {len cap : Nat} (h : IRow w a len cap) : ∃ l, Items w a l len := by
  rcases h with ⟨rfl, rfl, rfl⟩ | ⟨x, rfl, _, _, l, hc⟩
  · exact ⟨fun _ => zeroSt.x, fun h => absurd h (by omega)⟩
  · refine ⟨l, fun h0 => ?_⟩
    obtain ⟨b, off, spot⟩ := x
    have c0 := hc 0 h0 0 (by omega)
    have hspot : spot = none := by
      have := World.cell?_spot c0
      simpa [Addr.add] using this
    subst hspot
    have hb := World.block_lt_of_cell? _ _ c0
    refine ⟨b, off, rfl, by unfold Addr.add at hb; simpa using hb, fun k hk => ?_⟩
    have e := fun j hj => hc k hk j hj
    simp only [addr_add, ← Nat.add_assoc] at e
    exact ⟨e 0 (by omega), e 1 (by omega), e 2 (by omega), e 3 (by omega), e 4 (by omega)⟩

end Go.Proofs.Ytefofdjkinbfgaa.Fix
