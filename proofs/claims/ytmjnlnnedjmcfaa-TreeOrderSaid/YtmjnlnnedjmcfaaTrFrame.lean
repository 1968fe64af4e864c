/- What the frame hands on of a slice of acts; an act, read. -/
import Derived.Test.YtmjnlnnedjmcfaaTrClone
import Derived.Test.YtmjnlnnedjmcfaaRecFrame
import Derived.Deep.Slices
namespace Go.Proofs.Ytmjnlnnedjmcfaa.Fix
open Go.ChangeShapes Go.WideShapes Go.ChangeAt Go.RowKit Go.Deep Go.Joins
set_option linter.unusedVariables false
set_option linter.unusedSimpArgs false
set_option maxRecDepth 100000

/-- an act: which one, its numbers, its style -/
structure Actn where
  k : Int
  a : Int
  b : Int
  c : Int
  s : Re.St
def acells (x : Actn) : Array Value := #[.int .i64 x.k, .int .i64 x.a, .int .i64 x.b, .int .i64 x.c] ++ cells x.s
structure AFits (x : Actn) : Prop where
  k : Wf x.k
  a : Wf x.a
  b : Wf x.b
  c : Wf x.c
  s : Fits x.s

theorem acells_size (x : Actn) : (acells x).size = 59 := by simp [acells, cells_size]
theorem acells_sty (x : Actn) {j : Nat} (h : j < 55) : (acells x)[4 + j]? = some (cell x.s j) := by
  unfold acells
  rw [Array.getElem?_append_right (by simp), show 4 + j - (#[Value.int .i64 x.k, .int .i64 x.a, .int .i64 x.b, .int .i64 x.c] : Array Value).size = j by simp, cells_get x.s h]
theorem acells_int (x : Actn) {j : Nat} (h : j < 4) : (acells x)[j]? = (#[Value.int .i64 x.k, .int .i64 x.a, .int .i64 x.b, .int .i64 x.c] : Array Value)[j]? := by
  unfold acells
  rw [Array.getElem?_append_left (by simpa using h)]

/-- an act stands somewhere in a block -/
def ActAt (W : World) (b o : Nat) (x : Actn) : Prop := ∀ j, j < 59 → W.cell? ⟨b, o + j, none⟩ = (acells x)[j]?

theorem load_act {W : World} {b o : Nat} {x : Actn} (h : ActAt W b o x) : (Instr.loadAt 45 (.pointer (some ⟨b, o, none⟩))).run Try.prog W = .ok (.agg (acells x)) W := by
  have hl := run_loadCells_list (P := Try.prog) W ⟨b, o, none⟩ (acells x).toList (fun j v hj => by
    have hj' : j < 59 := by have := (List.getElem?_eq_some_iff.1 hj).1; simpa [acells_size] using this
    rw [addr_add, h j hj']
    rw [Array.getElem?_toList] at hj
    exact hj)
  rw [Array.length_toList, acells_size] at hl
  have hi : (isAgg 45).run Try.prog W = .ok true W := by kernel_rfl
  have hz : (sizeOf 45).run Try.prog W = .ok 59 W := by kernel_rfl
  simp only [Instr.loadAt, Instr.sureAddr, Sem.run_bind, Sem.run_pure, Result.andThen_ok, loadVar, hi, hz, hl, if_true]
theorem wpList_load_act {ops : Array Oper} {rest : List Oper} {o : Oper} {a : Act} {w : World} {Q : Exit → Act → World → Prop} (hw : Region.wanted o (yielded ops a.tmps) = true) (y : Operand) (ho : o.op = .load 45 y) {b k : Nat} (hy : a.eval y = .pointer (some ⟨b, k, none⟩)) {x : Actn} (hs : ActAt w b k x)
    (h : wpList Try.prog ops Q rest (a.put o.dst (.agg (acells x))) w) : wpList Try.prog ops Q (o :: rest) a w :=
  wpList_value hw (by unfold execOp; simp only [ho, hy, Sem.run_bind, load_act hs, Result.andThen_ok, Sem.run_pure]) h

theorem actCells : Try.prog.cellsOf 45 = 59 := by kernel_rfl

/-- What the frame hands on of a slice of acts. -/
def ARow (w : World) (a : Option Addr) (len cap : Nat) : Prop :=
  (a = none ∧ len = 0 ∧ cap = 0) ∨ ∃ x, a = some x ∧ len ≤ cap ∧ cap ≤ maxLen ∧ ∃ l : Nat → Actn, ∀ i, i < len → AFits (l i) ∧ ∀ j, j < 59 → w.cell? (x.add (i * 59 + j)) = (acells (l i))[j]?

section
variable {H : Type} {enc : TypeId × Value → H} {w : World} {base : Nat} {spare : Nat → Bool} {held : Bool}

/-- An act, read. -/
theorem trod_act {n : Nat} {cs : List Value} {y : DataW H × List MemPlace} (h : DataW.trod enc Try.prog w base spare held n 45 cs = some y) : ∃ x : Actn, cs = (acells x).toList ∧ AFits x := by
  obtain ⟨xs, k, rfl, _, hl, hxl, hf⟩ := DataW.trod_struct Try.underlying45 h
  rw [actCells] at hl
  have ex : ∀ i, i < 5 → ∃ y, xs[i]? = some y := fun i hi => ⟨_, List.getElem?_eq_getElem (by rw [hxl]; exact hi)⟩
  obtain ⟨y0, q0⟩ := ex 0 (by decide)
  obtain ⟨y1, q1⟩ := ex 1 (by decide)
  obtain ⟨y2, q2⟩ := ex 2 (by decide)
  obtain ⟨y3, q3⟩ := ex 3 (by decide)
  obtain ⟨y4, q4⟩ := ex 4 (by decide)
  have g0 : DataW.trod enc Try.prog w base spare held k 3 ((cs.drop 0).take (Try.prog.cellsOf 3)) = some y0 := (hf 0 _ rfl).trans q0
  have g1 : DataW.trod enc Try.prog w base spare held k 3 ((cs.drop 1).take (Try.prog.cellsOf 3)) = some y1 := (hf 1 _ rfl).trans q1
  have g2 : DataW.trod enc Try.prog w base spare held k 3 ((cs.drop 2).take (Try.prog.cellsOf 3)) = some y2 := (hf 2 _ rfl).trans q2
  have g3 : DataW.trod enc Try.prog w base spare held k 3 ((cs.drop 3).take (Try.prog.cellsOf 3)) = some y3 := (hf 3 _ rfl).trans q3
  have g4 : DataW.trod enc Try.prog w base spare held k 43 ((cs.drop 4).take (Try.prog.cellsOf 43)) = some y4 := (hf 4 _ rfl).trans q4
  rw [rc_int] at g0 g1 g2 g3
  rw [rc_api_Style] at g4
  obtain ⟨a0, e0, _, w0⟩ := DataW.trod_int Try.underlying3 g0
  obtain ⟨a1, e1, _, w1⟩ := DataW.trod_int Try.underlying3 g1
  obtain ⟨a2, e2, _, w2⟩ := DataW.trod_int Try.underlying3 g2
  obtain ⟨a3, e3, _, w3⟩ := DataW.trod_int Try.underlying3 g3
  have g5 : DataW.Trod enc Try.prog w base spare held 43 (.agg ((cs.drop 4).take 55).toArray) y4.1 y4.2 := ⟨k, g4⟩
  obtain ⟨s, e4, ws⟩ := open_style g5
  injection e4 with e4
  have e4' : (cs.drop 4).take 55 = (cells s).toList := by rw [← e4]
  refine ⟨⟨a0, a1, a2, a3, s⟩, ?_, ⟨w0, w1, w2, w3, ws⟩⟩
  obtain ⟨v0, v1, v2, v3, r, rfl⟩ : ∃ v0 v1 v2 v3 r, cs = v0 :: v1 :: v2 :: v3 :: r := by
    clear e0 e1 e2 e3 e4 e4' g0 g1 g2 g3 g4 g5 hf h
    rcases cs with _ | ⟨v0, _ | ⟨v1, _ | ⟨v2, _ | ⟨v3, r⟩⟩⟩⟩ <;> first | exact ⟨_, _, _, _, _, rfl⟩ | exact absurd hl (by simp)
  simp at e0 e1 e2 e3 hl
  subst e0 e1 e2 e3
  have hr : (List.drop 4 (Value.int .i64 a0 :: .int .i64 a1 :: .int .i64 a2 :: .int .i64 a3 :: r)).take 55 = r := List.take_of_length_le (by simp; omega)
  rw [hr] at e4'
  simp [acells, e4']

theorem open_acts {n : Nat} {cs : List Value} {x : DataW H × List MemPlace} (h : DataW.trod enc Try.prog w base spare held n 22 cs = some x) :
    ∃ a len cap, cs = [.slice a len cap] ∧ ARow w a len cap := by
  rcases open_slice Try.underlying22 h with ⟨rfl, _⟩ | ⟨a, len, cap, m, k, D, Pl, rfl, hb, hl, hm, hmm, rfl, hx⟩
  · exact ⟨none, 0, 0, rfl, .inl ⟨rfl, rfl, rfl⟩⟩
  · refine ⟨some a, len, cap, rfl, .inr ⟨a, rfl, hl, hm, ?_⟩⟩
    have each : ∀ i, i < len → ∃ q : Actn, AFits q ∧ ∀ j, j < 59 → w.cell? (a.add (i * 59 + j)) = (acells q)[j]? := by
      intro i hi
      have him : i < m := by clear hx; rw [hmm]; split <;> omega
      have h12 := hx i him
      rw [actCells] at h12
      obtain ⟨cs', h1, h2⟩ := h12
      have hcell := (World.cells?_some h1).2.2
      obtain ⟨q, hcs, hq⟩ := trod_act h2
      refine ⟨q, hq, fun j hj => ?_⟩
      have := hcell j hj
      rw [hcs, Array.getElem?_toList] at this
      rw [← this, add_add]
    have : Inhabited Actn := ⟨⟨0, 0, 0, 0, Re.zero⟩⟩
    obtain ⟨q, hq⟩ := choose_lt each
    exact ⟨q, hq⟩
end

theorem ARow.cap {w : World} {a : Option Addr} {len cap : Nat} (h : ARow w a len cap) : len ≤ cap ∧ len ≤ 9223372036854775807 := by
  rcases h with ⟨_, rfl, rfl⟩ | ⟨_, _, h, h2, _⟩
  · omega
  · simp only [maxLen] at h2; omega

/-- the acts of a slice -/
def Acts (w : World) (a : Option Addr) (len : Nat) (l : Nat → Actn) : Prop := 0 < len → ∃ b off, a = some ⟨b, off, none⟩ ∧ b < w.heap.size ∧ ∀ k, k < len → AFits (l k) ∧ ActAt w b (off + k * 59) (l k)

theorem ARow.acts {w : World} {a : Option Addr} {len cap : Nat} (h : ARow w a len cap) : ∃ l, Acts w a len l := by
  rcases h with ⟨rfl, rfl, rfl⟩ | ⟨x, rfl, _, _, l, hc⟩
  · exact ⟨fun _ => ⟨0, 0, 0, 0, Re.zero⟩, fun h => absurd h (by omega)⟩
  · refine ⟨l, fun h0 => ?_⟩
    obtain ⟨b, off, spot⟩ := x
    have c0 := (hc 0 h0).2 0 (by omega)
    rw [acells_int _ (by omega)] at c0
    have hspot : spot = none := by
      have := World.cell?_spot c0
      simpa [Addr.add] using this
    subst hspot
    have hb := World.block_lt_of_cell? _ _ c0
    refine ⟨b, off, rfl, by unfold Addr.add at hb; simpa using hb, fun k hk => ⟨(hc k hk).1, fun j hj => ?_⟩⟩
    have e := (hc k hk).2 j hj
    simp only [addr_add, ← Nat.add_assoc] at e
    exact e

theorem Acts.after {W W' : World} {a : Option Addr} {n : Nat} {l : Nat → Actn} (h : Acts W a n l) (hb : Below W.heap.size W W') : Acts W' a n l := fun h0 => by
  obtain ⟨b, off, e, hl, hc⟩ := h h0
  have hsz := hb.size
  refine ⟨b, off, e, by omega, fun k hk => ⟨(hc k hk).1, fun j hj => ?_⟩⟩
  rw [← (hc k hk).2 j hj]
  exact hb.cell (p := ⟨b, off + k * 59 + j, none⟩) hl

/-- the styles of a tree fit -/
def FitsT (T : Tr.T) : Prop := ∀ z nd, T z = some nd → Fits nd.sty
theorem fits_zero : Fits Re.zero := fun i _ _ => (by kernel_rfl)

end Go.Proofs.Ytmjnlnnedjmcfaa.Fix
