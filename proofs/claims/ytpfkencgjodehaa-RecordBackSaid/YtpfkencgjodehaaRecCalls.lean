/- The contracts of record: Valid, Put, Get. -/
import Derived.Test.YtpfkencgjodehaaRecCode
namespace Go.Proofs.Ytpfkencgjodehaa.Fix
open Go.ChangeShapes Go.WideShapes Go.ChangeAt Go.RowKit
set_option linter.unusedVariables false

theorem wrongs_style (t : Re.St) : (!wrongs fun i => Re.num t i) = Re.valid t := by
  rw [wrongs_valid _ t.b]
  have hb : ∀ i, Re.isB i = true → Re.inn (Re.num t i) 0 1 = true := fun i hi => by
    rw [Re.inn_iff]; unfold Re.num; rw [if_pos hi]; split <;> omega
  rw [hb 45 rfl, hb 47 rfl, hb 51 rfl, hb 52 rfl]
  simp only [Bool.and_true]
  exact Re.valid_same fun i hi => by
    by_cases e : Re.isB i = true
    · rw [if_pos e]
    · rw [if_neg e]; exact Re.num_c (by simpa using e)

theorem mix_put (t : Re.St) : cells (mix (fun _ x => x) t 55) = cells t := cells_congr fun i hi => by
  unfold cell
  by_cases e : Re.isB i = true
  · rw [if_pos e, if_pos e, mix_blt _ t hi, Re.num_b e]
  · rw [if_neg e, if_neg e, mix_lt _ t hi, Re.num_c (by simpa using e)]

theorem ints_of_putRow {w : World} {b : Nat} {T : TypeId} {xs : List Int} (h : At w b (.cells (putRow xs) T)) (hl : xs.length = 55) : Ints w (some ⟨b, 0, none⟩) xs := by
  refine ⟨by unfold maxLen; omega, fun _ => ⟨b, 0, rfl, fun k hk => ?_⟩⟩
  rw [h.cell, Nat.zero_add, putRow, stRow_get _ (by omega)]
  simp [hk]

theorem recvalid_any (t : Re.St) (w : World) : Calls Try.prog 10 #[.agg (cells t)] w fun e w' => e = .returned (.bool (Re.valid t)) ∧ Below w.heap.size w w' := by
  generalize hr : Re.valid t = r
  rw [← wrongs_style] at hr
  go_enter Try.func10, Try.ntmps10
  go_wp2_with (go_at_call 18; (with_reducible refine (through_any asks_valid trivial (At.new _ _) (fun q => q) (fun _ _ q => q)).mono ?_); rintro e w2 ⟨rfl, _, _, hO⟩; rw [hr])
  go_ret
  exact ⟨rfl, (Below.alloc' (Below.refl _ _) _).trans (hO.below (by simp) fun b hb q => q.elim id (Nat.ne_of_lt hb))⟩

theorem recput_any (t : Re.St) (w : World) : Calls Try.prog 12 #[.agg (cells t)] w fun e w' => (∃ b, e = .returned (.slice (some ⟨b, 0, none⟩) 55 55) ∧ Ints w' (some ⟨b, 0, none⟩) (Re.putL t)) ∧ Below w.heap.size w w' := by
  have hmk : ∀ W : World, (Instr.makeSlice 40 (.int .i64 0) (.int .i64 55)).run Try.prog W = .ok (.slice (some ⟨W.heap.size, 0, none⟩) 0 55) (W.alloc (.cells (putRow []) 3)) := fun _ => by kernel_rfl
  have hmf : ∀ (fn : Fn) (first cap : Array Value) (w : World), (Instr.makeFunc fn first cap).run Try.prog w = .ok (.func fn first cap) w := fun _ _ _ _ => rfl
  have key := through_any (bs := w.heap.size) (t := t) (w := ((w.alloc (.cells (cells t) 36)).alloc (.cells (putRow []) 3)).alloc (.cells #[.slice (some ⟨w.heap.size + 1, 0, none⟩) 0 55] 40)) (asks_put (w.heap.size + 1 + 1) (w.heap.size + 1) (by omega)) ⟨At.new' _ (by simp), (At.new' _ (by simp)).alloc _⟩ (((At.new _ _).alloc _).alloc _) (by omega) (by intro b hb; simp at hb; omega)
  go_enter Try.func12, Try.ntmps12
  go_wp2_with (go_at_call 18; (with_reducible refine key.mono ?_); rintro e w2 ⟨rfl, hI, _, hO⟩; rw [ins_len] at hI; have c2 := hI.1.cell 0; simp at c2)
  go_ret
  exact ⟨⟨_, rfl, ints_of_putRow hI.2 (ins_len _ _)⟩, (Below.alloc' (Below.alloc' (Below.alloc' (Below.refl _ _) _) _) _).trans (hO.below (by simp; omega) fun b hb q => by omega)⟩

theorem Ints.setOff {w : World} {A : Option Addr} {l : List Int} (h : Ints w A l) {n : Nat} (hne : ∀ x, A = some x → x.block ≠ n) (i : Nat) (v : Value) : Ints (w.setCell ⟨n, i, none⟩ v) A l := by
  refine ⟨h.1, fun h0 => ?_⟩
  obtain ⟨b, off, rfl, hc⟩ := h.2 h0
  refine ⟨b, off, rfl, fun k hk => ?_⟩
  rw [World.cell?_setCell_other _ _ _ _ (fun e => hne _ rfl (by injection e with e; exact e.symm))]
  exact hc k hk

theorem Below.setRow' {n : Nat} {X Y : World} (h : Below n X Y) {b : Nat} (hb : n ≤ b) (cs : Array Value) : Below n X (Y.setRow b cs) :=
  ⟨h.os, h.tape, h.output, by simpa [World.setRow] using h.size, fun c hc => by
    have := h.block c hc
    unfold World.setRow
    simp only [Array.getElem?_modify]
    rw [if_neg (by omega)]
    exact this⟩

theorem asks_get (w0 : World) (n0 b1 b2 : Nat) (hne : b1 ≠ b2) (h02 : n0 ≤ b2) (A : Option Addr) (l : List Int) (c : Nat) (hl : l.length = 55) (hA : ∀ x, A = some x → x.block < n0) : Asks 22 #[.pointer (some ⟨b1, 0, none⟩), .pointer (some ⟨b2, 0, none⟩)] (fun k _ => l.getD k 0) (fun n => n < n0 ∨ n = b1 ∨ n = b2) (fun xs W => At W b1 (.cells #[.slice A 55 c] 40) ∧ At W b2 (.cells #[.int .i64 xs.length] 3) ∧ Ints W A l ∧ Below n0 w0 W ∧ n0 ≤ W.heap.size) where
  keep := fun _ W W' h hb => ⟨h.1.keep hb, h.2.1.keep hb, h.2.2.1.after hb, h.2.2.2.1.trans (hb.mono h.2.2.2.2), Nat.le_trans h.2.2.2.2 hb.size⟩
  set := fun _ W b _ _ h hb => ⟨h.1.off (fun e => hb (.inr (.inl e.symm))) _ _, h.2.1.off (fun e => hb (.inr (.inr e.symm))) _ _, h.2.2.1.setOff (fun x hx e => hb (.inl (by rw [← e]; exact hA x hx))) _ _, Below.setCell h.2.2.2.1 (by simp; omega) _, by simpa using h.2.2.2.2⟩
  enters := fun _ _ => rfl
  call := fun xs x W h hlen => by
    obtain ⟨h1, h2, hI, hB, hz0⟩ := h
    show Calls Try.prog 22 #[.int .i64 x, .pointer (some ⟨b1, 0, none⟩), .pointer (some ⟨b2, 0, none⟩)] W _
    generalize hn : xs.length = n at *
    obtain ⟨b, off, rfl, lb, ck⟩ := hI.at_ (k := n) (by omega)
    generalize hz : l.getD n 0 = z at *
    obtain ⟨l1, c1⟩ := At.one h1
    obtain ⟨l2, c2⟩ := At.one h2
    have z2 := h2.thaw 0
    have hw : IntKind.i64.wrap ((n : Int) + 1) = ((n + 1 : Nat) : Int) := by rw [IntWalk.i64_in _ (by omega)]; omega
    have H1 := Lib.hid h1
    have H2 := Lib.hid h2
    have HI := Lib.hid hI
    have HA := Lib.hid hA
    have HN := Lib.hid hn
    have HB := Lib.hid hB
    clear h1 h2 hI hA hn hz hB
    go_enter Try.func22, Try.ntmps22
    go_wp2
    go_ret
    refine ⟨rfl, ⟨H1.out.off hne _ _, ?_, HI.out.setOff (fun x hx => by have := HA.out x hx; omega) _ _, Below.setCell HB.out (by simp; omega) _, by simpa using hz0⟩, Out.set (Out.refl _ _) (.inr (.inr rfl)) _ _⟩
    have := H2.out.set 0 (.int .i64 ((n + 1 : Nat) : Int))
    rw [List.length_append, HN.out]
    exact this

theorem mix_get (l : List Int) : cells (mix (fun k _ => l.getD k 0) Re.zero 55) = cells (Re.getS l) := cells_congr fun i hi => by
  unfold cell
  by_cases e : Re.isB i = true
  · rw [if_pos e, if_pos e, mix_blt _ _ hi]; rfl
  · rw [if_neg e, if_neg e, mix_lt _ _ hi]; rfl

theorem wrongs_get (l : List Int) : (!wrongs fun i => l.getD i 0) = (Re.valid (Re.getS l) && Re.boolsOk l) := wrongs_valid _ (Re.getS l).b

end Go.Proofs.Ytpfkencgjodehaa.Fix
