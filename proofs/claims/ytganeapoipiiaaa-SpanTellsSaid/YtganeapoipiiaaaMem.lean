/- What a call that makes memory leaves as it was: small laws of 'Below', and how a walk takes a contract that ends in it. -/
import Derived.WalkKit
import Derived.Below
import Derived.Deep.QuietTactic
namespace Go.Proofs.Ytganeapoipiiaaa.Fix
open Go.RowKit

theorem bcell {W w1 : World} (hb : Below W.heap.size W w1) : (∀ b o, b < W.heap.size → w1.cell? ⟨b, o, none⟩ = W.cell? ⟨b, o, none⟩) ∧ (∀ b o, b < W.heap.size → w1.frozen? ⟨b, o, none⟩ = W.frozen? ⟨b, o, none⟩) :=
  ⟨fun b o h => hb.cell (p := ⟨b, o, none⟩) h, fun b o h => hb.frozen (p := ⟨b, o, none⟩) h⟩

theorem Below.alloc' {w a : World} (h : Below w.heap.size w a) (o : Obj) : Below w.heap.size w (a.alloc o) := h.alloc h.size o

theorem Below.after2 {N : Nat} {W0 W w1 : World} (h0 : Below N W0 W) (hN : N ≤ W0.heap.size) (hb : Below W.heap.size W w1) : Below N W0 w1 := h0.trans (hb.mono (Nat.le_trans hN h0.size))

theorem Below.after3 {N : Nat} {W0 W w1 : World} (hb : Below W.heap.size W w1) (h0 : Below N W0 W) (hN : N ≤ W0.heap.size) : Below N W0 w1 := h0.trans (hb.mono (Nat.le_trans hN h0.size))

theorem Below.drewN {N : Nat} {w a : World} (h : Below N w a) (n : Nat) : Below N w (a.drewN n) := ⟨h.os, h.tape, h.output, h.size, h.block⟩

theorem Below.after {W0 W w1 : World} (h0 : Below W0.heap.size W0 W) (hb : Below W.heap.size W w1) : Below W0.heap.size W0 w1 := h0.trans (hb.mono h0.size)

theorem ret_bool {a b : Bool} (h : a = b) : Ending.returned (.bool a) = .returned (.bool b) := by rw [h]

end Go.Proofs.Ytganeapoipiiaaa.Fix
