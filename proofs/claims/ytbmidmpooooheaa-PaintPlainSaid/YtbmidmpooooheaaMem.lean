/- What a call that makes memory leaves as it was: small laws of 'Below', and how a walk takes a contract that ends in it. -/
import Derived.WalkKit
import Derived.Below
import Derived.Deep.QuietTactic
set_option maxRecDepth 100000
namespace Go.Proofs.Ytbmidmpooooheaa.Fix
open Go.RowKit

theorem bcell {W w1 : World} (hb : Below W.heap.size W w1) : (∀ b o, b < W.heap.size → w1.cell? ⟨b, o, none⟩ = W.cell? ⟨b, o, none⟩) ∧ (∀ b o, b < W.heap.size → w1.frozen? ⟨b, o, none⟩ = W.frozen? ⟨b, o, none⟩) :=
  ⟨fun b o h => hb.cell (p := ⟨b, o, none⟩) h, fun b o h => hb.frozen (p := ⟨b, o, none⟩) h⟩

theorem Below.alloc' {w a : World} (h : Below w.heap.size w a) (o : Obj) : Below w.heap.size w (a.alloc o) := h.alloc h.size o

theorem Below.after2 {N : Nat} {W0 W w1 : World} (h0 : Below N W0 W) (hN : N ≤ W0.heap.size) (hb : Below W.heap.size W w1) : Below N W0 w1 := h0.trans (hb.mono (Nat.le_trans hN h0.size))

theorem Below.after3 {N : Nat} {W0 W w1 : World} (hb : Below W.heap.size W w1) (h0 : Below N W0 W) (hN : N ≤ W0.heap.size) : Below N W0 w1 := h0.trans (hb.mono (Nat.le_trans hN h0.size))

theorem Below.drewN {N : Nat} {w a : World} (h : Below N w a) (n : Nat) : Below N w (a.drewN n) := ⟨h.os, h.tape, h.output, h.size, h.block⟩

theorem Below.after {W0 W w1 : World} (h0 : Below W0.heap.size W0 W) (hb : Below W.heap.size W w1) : Below W0.heap.size W0 w1 := h0.trans (hb.mono h0.size)

theorem ret_bool {a b : Bool} (h : a = b) : Ending.returned (.bool a) = .returned (.bool b) := by rw [h]

/-- block b of the world is o -/
def At (W : World) (b : Nat) (o : Obj) : Prop := W.heap[b]? = some o

theorem At.lt {W : World} {b : Nat} {o : Obj} (h : At W b o) : b < W.heap.size := (Array.getElem?_eq_some_iff.1 h).1

theorem At.new (W : World) (o : Obj) : At (W.alloc o) W.heap.size o := by
  show (W.heap.push o)[W.heap.size]? = some o
  simp

theorem At.new' {W : World} {b : Nat} (o : Obj) (h : b = W.heap.size) : At (W.alloc o) b o := h ▸ At.new W o

theorem At.alloc {W : World} {b : Nat} {o : Obj} (h : At W b o) (o' : Obj) : At (W.alloc o') b o := by
  show (W.alloc o').heap[b]? = some o
  rw [Below.heap_alloc W o' b h.lt]; exact h

theorem At.keep {W W' : World} {b : Nat} {o : Obj} (h : At W b o) (hb : Below W.heap.size W W') : At W' b o := (hb.block b h.lt).trans h

theorem At.cell {W : World} {b : Nat} {vs : Array Value} {T : TypeId} (h : At W b (.cells vs T)) (i : Nat) : W.cell? ⟨b, i, none⟩ = vs[i]? := by
  unfold At at h
  simp [World.cell?, h]

theorem At.thaw {W : World} {b : Nat} {vs : Array Value} {T : TypeId} (h : At W b (.cells vs T)) (i : Nat) : W.frozen? ⟨b, i, none⟩ = false := by
  unfold At at h
  simp [World.frozen?, h]

theorem At.off {W : World} {b n : Nat} {o : Obj} (h : At W b o) (hne : b ≠ n) (i : Nat) (x : Value) : At (W.setCell ⟨n, i, none⟩ x) b o := by
  have e : (W.setCell ⟨n, i, none⟩ x).heap[b]? = W.heap[b]? := Below.heap_setCell W ⟨n, i, none⟩ x b hne
  exact e.trans h

theorem At.set {W : World} {b : Nat} {vs : Array Value} {T : TypeId} (h : At W b (.cells vs T)) (i : Nat) (x : Value) : At (W.setCell ⟨b, i, none⟩ x) b (.cells (vs.setIfInBounds i x) T) := by
  unfold At at *
  obtain ⟨hlt, he⟩ := Array.getElem?_eq_some_iff.1 h
  simp [World.setCell, hlt, Array.getElem_modify, he]

theorem At.put4 {W : World} {b : Nat} {x y z u : Value} {T : TypeId} (h : At W b (.cells #[x, y, z, u] T)) (x' y' z' u' : Value) :
    At ((((W.setCell ⟨b, 0, none⟩ x').setCell ⟨b, 1, none⟩ y').setCell ⟨b, 2, none⟩ z').setCell ⟨b, 3, none⟩ u') b (.cells #[x', y', z', u'] T) := (((h.set 0 x').set 1 y').set 2 z').set 3 u'

theorem At.put2 {W : World} {b : Nat} {x y : Value} {T : TypeId} (h : At W b (.cells #[x, y] T)) (x' y' : Value) :
    At ((W.setCell ⟨b, 0, none⟩ x').setCell ⟨b, 1, none⟩ y') b (.cells #[x', y'] T) := (h.set 0 x').set 1 y'

theorem At.one {W : World} {b : Nat} {x : Value} {T : TypeId} (h : At W b (.cells #[x] T)) : b < W.heap.size ∧ W.cell? ⟨b, 0, none⟩ = some x := ⟨h.lt, h.cell 0⟩

theorem At.two {W : World} {b : Nat} {x y : Value} {T : TypeId} (h : At W b (.cells #[x, y] T)) : b < W.heap.size ∧ W.cell? ⟨b, 0, none⟩ = some x ∧ W.cell? ⟨b, 1, none⟩ = some y := ⟨h.lt, h.cell 0, h.cell 1⟩

theorem At.three {W : World} {b : Nat} {x y z : Value} {T : TypeId} (h : At W b (.cells #[x, y, z] T)) : b < W.heap.size ∧ W.cell? ⟨b, 0, none⟩ = some x ∧ W.cell? ⟨b, 1, none⟩ = some y ∧ W.cell? ⟨b, 2, none⟩ = some z := ⟨h.lt, h.cell 0, h.cell 1, h.cell 2⟩

theorem At.four {W : World} {b : Nat} {x y z u : Value} {T : TypeId} (h : At W b (.cells #[x, y, z, u] T)) : b < W.heap.size ∧ W.cell? ⟨b, 0, none⟩ = some x ∧ W.cell? ⟨b, 1, none⟩ = some y ∧ W.cell? ⟨b, 2, none⟩ = some z ∧ W.cell? ⟨b, 3, none⟩ = some u := ⟨h.lt, h.cell 0, h.cell 1, h.cell 2, h.cell 3⟩

theorem At.eight {W : World} {b : Nat} {x y z u x' y' z' u' : Value} {T : TypeId} (h : At W b (.cells #[x, y, z, u, x', y', z', u'] T)) : b < W.heap.size ∧ W.cell? ⟨b, 0, none⟩ = some x ∧ W.cell? ⟨b, 1, none⟩ = some y ∧ W.cell? ⟨b, 2, none⟩ = some z ∧ W.cell? ⟨b, 3, none⟩ = some u ∧ W.cell? ⟨b, 4, none⟩ = some x' ∧ W.cell? ⟨b, 5, none⟩ = some y' ∧ W.cell? ⟨b, 6, none⟩ = some z' ∧ W.cell? ⟨b, 7, none⟩ = some u' := ⟨h.lt, h.cell 0, h.cell 1, h.cell 2, h.cell 3, h.cell 4, h.cell 5, h.cell 6, h.cell 7⟩

end Go.Proofs.Ytbmidmpooooheaa.Fix
