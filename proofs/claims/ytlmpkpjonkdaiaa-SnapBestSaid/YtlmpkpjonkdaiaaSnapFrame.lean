/- What the frame hands on: slices of areas, an area by value, slices of integers. -/
import Derived.Test.YtlmpkpjonkdaiaaSnapRest
import Derived.Test.YtlmpkpjonkdaiaaRow
import Derived.Deep.Slices
import Derived.Lib.SmallJoins
import Derived.ProofKit
namespace Go.Proofs.Ytlmpkpjonkdaiaa.Fix
open Go.ChangeShapes Go.WideShapes Go.ChangeAt Go.RowKit Go.Deep Go.Joins
set_option linter.unusedVariables false

/-- What the frame hands on of a slice of integers. -/
def Row (w : World) (a : Option Addr) (len cap : Nat) (zs : List Int) : Prop :=
  (a = none ∧ len = 0 ∧ cap = 0 ∧ zs = []) ∨ ∃ x, a = some x ∧ len ≤ cap ∧ cap ≤ maxLen ∧ zs.length = cap ∧ (∀ i, i < zs.length → w.cell? (x.add i) = some (.int .i64 (zs.getD i 0))) ∧ ∀ n ∈ zs, (Lit.int .i64 n).wf = true

theorem areaCells : Try.prog.cellsOf 33 = 3 := by kernel_rfl
theorem spanCells : Try.prog.cellsOf 30 = 2 := by kernel_rfl
theorem intCells : Try.prog.cellsOf 3 = 1 := by kernel_rfl
theorem alignCells : Try.prog.cellsOf 31 = 1 := by kernel_rfl

section
variable {H : Type} {enc : TypeId × Value → H} {w : World} {base : Nat} {spare : Nat → Bool} {held : Bool}

/-- An area, read. -/
theorem trod_item {n : Nat} {cs : List Value} {y : DataW H × List MemPlace} (h : DataW.trod enc Try.prog w base spare held n 33 cs = some y) :
    ∃ q : Sn.Ar, cs = [.int .i64 q.lo, .int .i64 q.hi, .int .i64 q.e] := by
  obtain ⟨xs, k, rfl, _, hl, hxl, hf⟩ := DataW.trod_struct Try.underlying33 h
  rw [areaCells] at hl
  match xs, hxl, cs, hl with
  | [y0, y1], _, [v0, v1, v2], _ =>
    have g0 := hf 0 _ rfl
    have g1 := hf 1 _ rfl
    simp [spanCells, alignCells] at g0 g1
    obtain ⟨a2, e2, _, _⟩ := DataW.trod_int Try.underlying31 g1
    obtain ⟨zs, k', hk', _, hl', hzl, hf'⟩ := DataW.trod_struct Try.underlying30 g0
    match zs, hzl with
    | [z0, z1], _ =>
      have f0 := hf' 0 _ rfl
      have f1 := hf' 1 _ rfl
      simp [intCells] at f0 f1
      obtain ⟨a0, e0, _, _⟩ := DataW.trod_int Try.underlying3 f0
      obtain ⟨a1, e1, _, _⟩ := DataW.trod_int Try.underlying3 f1
      simp at e0 e1 e2
      exact ⟨⟨a0, a1, a2⟩, by rw [e0, e1, e2]⟩

/-- What the frame hands on of a slice of areas. -/
def IRow (w : World) (a : Option Addr) (len cap : Nat) : Prop :=
  (a = none ∧ len = 0 ∧ cap = 0) ∨ ∃ x, a = some x ∧ len ≤ cap ∧ cap ≤ maxLen ∧ ∃ l : Nat → Sn.Ar, ∀ i, i < len → ∀ j, j < 3 → w.cell? (x.add (i * 3 + j)) = ([Value.int .i64 (l i).lo, .int .i64 (l i).hi, .int .i64 (l i).e] : List Value)[j]?

theorem open_items {n : Nat} {cs : List Value} {x : DataW H × List MemPlace} (h : DataW.trod enc Try.prog w base spare held n 23 cs = some x) :
    ∃ a len cap, cs = [.slice a len cap] ∧ IRow w a len cap := by
  rcases open_slice Try.underlying23 h with ⟨rfl, _⟩ | ⟨a, len, cap, m, k, D, Pl, rfl, hb, hl, hm, hmm, rfl, hx⟩
  · exact ⟨none, 0, 0, rfl, .inl ⟨rfl, rfl, rfl⟩⟩
  · refine ⟨some a, len, cap, rfl, .inr ⟨a, rfl, hl, hm, ?_⟩⟩
    have each : ∀ i, i < len → ∃ q : Sn.Ar, ∀ j, j < 3 → w.cell? (a.add (i * 3 + j)) = ([Value.int .i64 q.lo, .int .i64 q.hi, .int .i64 q.e] : List Value)[j]? := by
      intro i hi
      obtain ⟨cs', h1, h2⟩ := hx i (by rw [hmm]; split <;> omega)
      rw [areaCells] at h1
      obtain ⟨_, hlen, hcell⟩ := World.cells?_some h1
      obtain ⟨q, rfl⟩ := trod_item h2
      refine ⟨q, fun j hj => ?_⟩
      rw [← hcell j hj, add_add]
    have : Inhabited Sn.Ar := ⟨⟨0, 0, 0⟩⟩
    obtain ⟨q, hq⟩ := choose_lt each
    exact ⟨q, hq⟩

/-- An area by value. -/
theorem open_item {cs : Array Value} {d : DataW H} {p : List MemPlace} (h : DataW.Trod enc Try.prog w base spare held 33 (.agg cs) d p) : ∃ lo hi e : Int, Value.agg cs = .agg #[.int .i64 lo, .int .i64 hi, .int .i64 e] := by
  obtain ⟨fuel, hf⟩ := h
  obtain ⟨q, hq⟩ := trod_item hf
  refine ⟨q.lo, q.hi, q.e, ?_⟩
  simp only [Value.cells] at hq
  congr 1
  exact Array.toList_inj.1 hq
end

theorem IRow.cap {w : World} {a : Option Addr} {len cap : Nat} (h : IRow w a len cap) : len ≤ cap ∧ len ≤ 9223372036854775807 := by
  rcases h with ⟨_, rfl, rfl⟩ | ⟨_, _, h, h2, _⟩
  · omega
  · simp only [maxLen] at h2; omega

theorem IRow.areas {w : World} {a : Option Addr} {len cap : Nat} (h : IRow w a len cap) : ∃ l, Areas w a l len := by
  rcases h with ⟨rfl, rfl, rfl⟩ | ⟨x, rfl, _, _, l, hc⟩
  · exact ⟨fun _ => ⟨0, 0, 0⟩, fun h => absurd h (by omega)⟩
  · refine ⟨l, fun h0 => ?_⟩
    obtain ⟨b, off, spot⟩ := x
    have c0 := hc 0 h0 0 (by omega)
    have hspot : spot = none := by
      have := World.cell?_spot c0
      simpa [Addr.add] using this
    subst hspot
    have hb := World.block_lt_of_cell? _ _ c0
    refine ⟨b, off, rfl, by unfold Addr.add at hb; simpa using hb, fun k hk => ?_⟩
    have e := fun j hj => hc k hk j hj
    simp only [addr_add, ← Nat.add_assoc] at e
    exact ⟨e 0 (by omega), e 1 (by omega), e 2 (by omega)⟩

/-- A law's ways out, and its slice's capacity. -/
theorem IRow.none {w : World} {a : Option Addr} {len cap : Nat} (h : IRow w a len cap) (ha : a = none) : cap = 0 := by
  rcases h with ⟨_, _, rfl⟩ | ⟨x, rfl, _⟩
  · rfl
  · cases ha

end Go.Proofs.Ytlmpkpjonkdaiaa.Fix
