/- The contracts of record: Valid, Put, Get. -/
import Derived.Test.YtbkocceemfhhbaaRecCode
namespace Go.Proofs.Ytbkocceemfhhbaa.Fix
open Go.ChangeShapes Go.WideShapes Go.ChangeAt Go.RowKit
set_option linter.unusedVariables false

theorem wrongs_style (t : Re.St) : (!wrongs fun i => Re.num t i) = Re.valid t := by
  rw [wrongs_valid _ t.b]
  have hb : ∀ i, Re.isB i = true → Re.inn (Re.num t i) 0 1 = true := fun i hi => by
    rw [Re.inn_iff]; unfold Re.num; rw [if_pos hi]; split <;> omega
  rw [hb 45 rfl, hb 47 rfl, hb 51 rfl, hb 52 rfl]
  simp only [Bool.and_true]
  exact Re.valid_same fun i hi => by
    by_cases e : Re.isB i = true
    · rw [if_pos e]
    · rw [if_neg e]; exact Re.num_c (by simpa using e)

theorem mix_put (t : Re.St) : cells (mix (fun _ x => x) t 55) = cells t := cells_congr fun i hi => by
  unfold cell
  by_cases e : Re.isB i = true
  · rw [if_pos e, if_pos e, mix_blt _ t hi, Re.num_b e]
  · rw [if_neg e, if_neg e, mix_lt _ t hi, Re.num_c (by simpa using e)]

theorem ints_of_putRow {w : World} {b : Nat} {T : TypeId} {xs : List Int} (h : At w b (.cells (putRow xs) T)) (hl : xs.length = 55) : Ints w (some ⟨b, 0, none⟩) xs := by
  refine ⟨by unfold maxLen; omega, fun _ => ⟨b, 0, rfl, fun k hk => ?_⟩⟩
  rw [h.cell, Nat.zero_add, putRow, stRow_get _ (by omega)]
  simp [hk]

theorem recvalid_any (t : Re.St) (w : World) : Calls Try.prog 48 #[.agg (cells t)] w fun e w' => e = .returned (.bool (Re.valid t)) ∧ Below w.heap.size w w' := by
  generalize hr : Re.valid t = r
  rw [← wrongs_style] at hr
  go_enter Try.func48, Try.ntmps48
  go_wp2_with (go_at_call 58; (with_reducible refine (through_any asks_valid trivial (At.new _ _) (fun q => q) (fun _ _ q => q)).mono ?_); rintro e w2 ⟨rfl, _, _, hO⟩; rw [hr])
  go_ret
  exact ⟨rfl, (Below.alloc' (Below.refl _ _) _).trans (hO.below (by simp) fun b hb q => q.elim id (Nat.ne_of_lt hb))⟩

theorem Ints.setOff {w : World} {A : Option Addr} {l : List Int} (h : Ints w A l) {n : Nat} (hne : ∀ x, A = some x → x.block ≠ n) (i : Nat) (v : Value) : Ints (w.setCell ⟨n, i, none⟩ v) A l := by
  refine ⟨h.1, fun h0 => ?_⟩
  obtain ⟨b, off, rfl, hc⟩ := h.2 h0
  refine ⟨b, off, rfl, fun k hk => ?_⟩
  rw [World.cell?_setCell_other _ _ _ _ (fun e => hne _ rfl (by injection e with e; exact e.symm))]
  exact hc k hk

theorem Below.setRow' {n : Nat} {X Y : World} (h : Below n X Y) {b : Nat} (hb : n ≤ b) (cs : Array Value) : Below n X (Y.setRow b cs) :=
  ⟨h.os, h.tape, h.output, by simpa [World.setRow] using h.size, fun c hc => by
    have := h.block c hc
    unfold World.setRow
    simp only [Array.getElem?_modify]
    rw [if_neg (by omega)]
    exact this⟩

theorem mix_get (l : List Int) : cells (mix (fun k _ => l.getD k 0) Re.zero 55) = cells (Re.getS l) := cells_congr fun i hi => by
  unfold cell
  by_cases e : Re.isB i = true
  · rw [if_pos e, if_pos e, mix_blt _ _ hi]; rfl
  · rw [if_neg e, if_neg e, mix_lt _ _ hi]; rfl

theorem wrongs_get (l : List Int) : (!wrongs fun i => l.getD i 0) = (Re.valid (Re.getS l) && Re.boolsOk l) := wrongs_valid _ (Re.getS l).b

end Go.Proofs.Ytbkocceemfhhbaa.Fix
