/- What the frame hands on: slices of nodes. -/
import Derived.Test.YtbmidmpooooheaaPaRow
import Derived.Test.YtbmidmpooooheaaRow
import Derived.Deep.Slices
import Derived.Lib.SmallJoins
import Derived.ProofKit
set_option maxRecDepth 100000
namespace Go.Proofs.Ytbmidmpooooheaa.Fix
open Go.ChangeShapes Go.WideShapes Go.ChangeAt Go.RowKit Go.Deep Go.Joins
set_option linter.unusedVariables false

theorem pnodeCells : Try.prog.cellsOf 39 = 3 := by kernel_rfl
theorem intCells : Try.prog.cellsOf 3 = 1 := by kernel_rfl
theorem boolCells : Try.prog.cellsOf 4 = 1 := by kernel_rfl

section
variable {H : Type} {enc : TypeId × Value → H} {w : World} {base : Nat} {spare : Nat → Bool} {held : Bool}

/-- A node, read. -/
theorem trod_pnode {n : Nat} {cs : List Value} {y : DataW H × List MemPlace} (h : DataW.trod enc Try.prog w base spare held n 39 cs = some y) :
    ∃ q : PNd, cs = [.int .i64 q.up, .bool q.ly, .int .i64 q.z] ∧ (Lit.int .i64 q.up).wf = true ∧ (Lit.int .i64 q.z).wf = true := by
  obtain ⟨xs, k, rfl, _, hl, hxl, hf⟩ := DataW.trod_struct Try.underlying39 h
  rw [pnodeCells] at hl
  match xs, hxl, cs, hl with
  | [y0, y1, y2], _, [v0, v1, v2], _ =>
    have g0 := hf 0 _ rfl
    have g1 := hf 1 _ rfl
    have g2 := hf 2 _ rfl
    simp [intCells, boolCells] at g0 g1 g2
    obtain ⟨a0, e0, _, f0⟩ := DataW.trod_int Try.underlying3 g0
    obtain ⟨a1, e1, _⟩ := DataW.trod_bool Try.underlying4 g1
    obtain ⟨a2, e2, _, f2⟩ := DataW.trod_int Try.underlying3 g2
    simp at e0 e1 e2
    exact ⟨⟨a0, a1, a2⟩, by rw [e0, e1, e2], f0, f2⟩

/-- What the frame hands on of a slice of nodes. -/
def PRow (w : World) (a : Option Addr) (len cap : Nat) : Prop :=
  (a = none ∧ len = 0 ∧ cap = 0) ∨ ∃ x, a = some x ∧ len ≤ cap ∧ cap ≤ maxLen ∧ ∃ l : Nat → PNd, ∀ i, i < len → ((Lit.int .i64 (l i).up).wf = true ∧ (Lit.int .i64 (l i).z).wf = true) ∧ ∀ j, j < 3 → w.cell? (x.add (i * 3 + j)) = ([Value.int .i64 (l i).up, .bool (l i).ly, .int .i64 (l i).z] : List Value)[j]?

theorem open_pnodes {n : Nat} {cs : List Value} {x : DataW H × List MemPlace} (h : DataW.trod enc Try.prog w base spare held n 22 cs = some x) :
    ∃ a len cap, cs = [.slice a len cap] ∧ PRow w a len cap := by
  rcases open_slice Try.underlying22 h with ⟨rfl, _⟩ | ⟨a, len, cap, m, k, D, Pl, rfl, hb, hl, hm, hmm, rfl, hx⟩
  · exact ⟨none, 0, 0, rfl, .inl ⟨rfl, rfl, rfl⟩⟩
  · refine ⟨some a, len, cap, rfl, .inr ⟨a, rfl, hl, hm, ?_⟩⟩
    have each : ∀ i, i < len → ∃ q : PNd, ((Lit.int .i64 q.up).wf = true ∧ (Lit.int .i64 q.z).wf = true) ∧ ∀ j, j < 3 → w.cell? (a.add (i * 3 + j)) = ([Value.int .i64 q.up, .bool q.ly, .int .i64 q.z] : List Value)[j]? := by
      intro i hi
      obtain ⟨cs', h1, h2⟩ := hx i (by rw [hmm]; split <;> omega)
      rw [pnodeCells] at h1
      obtain ⟨_, hlen, hcell⟩ := World.cells?_some h1
      obtain ⟨q, rfl, hw⟩ := trod_pnode h2
      refine ⟨q, hw, fun j hj => ?_⟩
      rw [← hcell j hj, add_add]
    have : Inhabited PNd := ⟨⟨0, false, 0⟩⟩
    obtain ⟨q, hq⟩ := choose_lt each
    exact ⟨q, hq⟩
end

theorem PRow.cap {w : World} {a : Option Addr} {len cap : Nat} (h : PRow w a len cap) : len ≤ cap ∧ len ≤ 9223372036854775807 := by
  rcases h with ⟨_, rfl, rfl⟩ | ⟨_, _, h, h2, _⟩
  · omega
  · simp only [maxLen] at h2; omega

theorem PRow.nodes {w : World} {a : Option Addr} {len cap : Nat} (h : PRow w a len cap) : ∃ l, PNodes w a l len ∧ ∀ k, k < len → (Lit.int .i64 (l k).up).wf = true ∧ (Lit.int .i64 (l k).z).wf = true := by
  rcases h with ⟨rfl, rfl, rfl⟩ | ⟨x, rfl, _, _, l, hc⟩
  · exact ⟨fun _ => ⟨0, false, 0⟩, fun h => absurd h (by omega), fun k hk => absurd hk (by omega)⟩
  · refine ⟨l, fun h0 => ?_, fun k hk => (hc k hk).1⟩
    obtain ⟨b, off, spot⟩ := x
    have c0 := (hc 0 h0).2 0 (by omega)
    have hspot : spot = none := by
      have := World.cell?_spot c0
      simpa [Addr.add] using this
    subst hspot
    have hb := World.block_lt_of_cell? _ _ c0
    refine ⟨b, off, rfl, by unfold Addr.add at hb; simpa using hb, fun k hk => ?_⟩
    have e := fun j hj => (hc k hk).2 j hj
    simp only [addr_add, ← Nat.add_assoc] at e
    exact ⟨e 0 (by omega), e 1 (by omega), e 2 (by omega)⟩

/-- A law's ways out, and its slice's capacity. -/
theorem PRow.none {w : World} {a : Option Addr} {len cap : Nat} (h : PRow w a len cap) (ha : a = none) : cap = 0 := by
  rcases h with ⟨_, _, rfl⟩ | ⟨x, rfl, _⟩
  · rfl
  · cases ha

end Go.Proofs.Ytbmidmpooooheaa.Fix
