/- The contracts of the library's stable sort, and of all that it reaches, over a row of places that are compared by their keys: exchanges of two stretches, rotations. -/
import Derived.Test.YtbmidmpooooheaaMarStackR
import Derived.Test.YtbmidmpooooheaaSortMath
import Derived.BigRegion
set_option maxRecDepth 100000
namespace Go.Proofs.Ytbmidmpooooheaa.Fix
open Go.ChangeShapes Go.WideShapes Go.ChangeAt Go.RowKit
set_option linter.unusedVariables false

/-- A row of places. -/
def pRow (X : Nat → Nat) (n : Nat) : Array Value := ((List.range n).map fun j => Value.int .i64 (X j)).toArray

theorem pRow_get (X : Nat → Nat) {n j : Nat} (h : j < n) : (pRow X n)[j]? = some (.int .i64 (X j)) := by simp [pRow, h]

theorem pRow_size (X : Nat → Nat) (n : Nat) : (pRow X n).size = n := by simp [pRow]

theorem pRow_set (X : Nat → Nat) {n : Nat} (k v : Nat) : (pRow X n).setIfInBounds k (.int .i64 v) = pRow (So.upd X k v) n := by
  apply Array.ext_getElem?
  intro i
  rw [Array.getElem?_setIfInBounds, pRow_size]
  by_cases hin : i < n
  · rw [pRow_get X hin, pRow_get _ hin]
    by_cases hik : k = i
    · subst hik; simp [hin, So.upd]
    · simp only [hik, if_false]
      simp [So.upd, Ne.symm hik]
  · have h1 : (pRow X n)[i]? = none := Array.getElem?_eq_none (by rw [pRow_size]; omega)
    have h2 : (pRow (So.upd X k v) n)[i]? = none := Array.getElem?_eq_none (by rw [pRow_size]; omega)
    rw [h1, h2]
    split
    · rw [if_neg (by omega)]
    · rfl

/-- Block b is the row X of n places. -/
def IsP (w : World) (b : Nat) (X : Nat → Nat) (n : Nat) : Prop := At w b (.cells (pRow X n) 3)

theorem IsP.cell {w : World} {b n : Nat} {X : Nat → Nat} (h : IsP w b X n) {k : Nat} (hk : k < n) : w.cell? ⟨b, k, none⟩ = some (.int .i64 (X k)) := by
  rw [At.cell h, pRow_get _ hk]

theorem IsP.thaw {w : World} {b n : Nat} {X : Nat → Nat} (h : IsP w b X n) (k : Nat) : w.frozen? ⟨b, k, none⟩ = false := At.thaw h k

theorem IsP.lt {w : World} {b n : Nat} {X : Nat → Nat} (h : IsP w b X n) : b < w.heap.size := At.lt h

theorem IsP.keep {w w' : World} {b n : Nat} {X : Nat → Nat} (h : IsP w b X n) (hb : Below w.heap.size w w') : IsP w' b X n := At.keep h hb

theorem IsP.set {w : World} {b n : Nat} {X : Nat → Nat} (h : IsP w b X n) (k v : Nat) : IsP (w.setCell ⟨b, k, none⟩ (.int .i64 v)) b (So.upd X k v) n := by
  unfold IsP; rw [← pRow_set]; exact At.set h k _

theorem IsP.swapped {w : World} {b n : Nat} {X : Nat → Nat} (h : IsP w b X n) (i j : Nat) : IsP ((w.setCell ⟨b, i, none⟩ (.int .i64 (X j))).setCell ⟨b, j, none⟩ (.int .i64 (X i))).drew b (So.swap X i j) n := (h.set i (X j)).set j (X i)

theorem Below.swapped {b : Nat} {w w1 : World} (h : Below b w w1) (i j : Nat) (x y : Value) : Below b w ((w1.setCell ⟨b, i, none⟩ x).setCell ⟨b, j, none⟩ y).drew :=
  ((h.setCell (p := ⟨b, i, none⟩) (Nat.le_refl _) x).setCell (p := ⟨b, j, none⟩) (Nat.le_refl _) y).drew

/-- The keys that the places are compared by: a slice that lies in a box of its own, all of it in memory elder than block b. -/
structure Keys (w : World) (b kb : Nat) (A : Option Addr) (ks : List Int) (n c : Nat) : Prop where
  box : w.cell? ⟨kb, 0, none⟩ = some (.slice A n c)
  low : kb < b
  le : b ≤ w.heap.size
  ints : Ints w A ks
  here : 0 < ks.length → ∀ x, A = some x → x.block < b
  len : ks.length = n

theorem Keys.keep {w w' : World} {b kb n c : Nat} {A : Option Addr} {ks : List Int} (h : Keys w b kb A ks n c) (hb : Below b w w') : Keys w' b kb A ks n c :=
  ⟨(hb.cell (p := ⟨kb, 0, none⟩) h.low).trans h.box, h.low, Nat.le_trans h.le hb.size, h.ints.keep hb h.here, h.here, h.len⟩

theorem Keys.after {w w' : World} {b kb n c : Nat} {A : Option Addr} {ks : List Int} (h : Keys w b kb A ks n c) (hb : Below w.heap.size w w') : Keys w' b kb A ks n c := h.keep (hb.mono h.le)

def keyOf (ks : List Int) (p : Nat) : Int := ks.getD p 0

def cmp3 (x y : Int) : Int := if x < y then -1 else if y < x then 1 else 0

theorem cmp3_neg {x y : Int} : cmp3 x y < 0 ↔ x < y := by unfold cmp3; (repeat' split) <;> omega

theorem nan_any (x : Int) (w : World) : Calls Try.prog 38 #[.int .i64 x] w fun e w' => e = .returned (.bool false) ∧ w = w' := by
  go_enter Try.func38, Try.ntmps38
  go_wp2
  go_ret
  exact ⟨ret_bool (by simp), rfl⟩

theorem cmp_any (x y : Int) (w : World) : Calls Try.prog 35 #[.int .i64 x, .int .i64 y] w fun e w' => e = .returned (.int .i64 (cmp3 x y)) ∧ w = w' := by
  go_enter Try.func35, Try.ntmps35
  go_wp2_with (first | (go_at_call 38; (with_reducible refine (nan_any _ _).mono ?_); rintro e w' ⟨rfl, rfl⟩))
  all_goals go_ret
  all_goals exact ⟨ret_int (by unfold cmp3; (repeat' split) <;> omega), rfl⟩

set_option maxHeartbeats 4000000 in
theorem swr_any (X : Nat → Nat) (b n cn a b2 k : Nat) (g : Value) (w : World) (hA : IsP w b X n) (h1 : a + k ≤ b2) (h2 : b2 + k ≤ n) (hn : n ≤ 100000) :
    Calls Try.prog 43 #[.slice (some ⟨b, 0, none⟩) n cn, .int .i64 a, .int .i64 b2, .int .i64 k, g] w fun e w' => e = .returned (.tuple #[]) ∧ Below b w w' ∧ IsP w' b (So.swR X a b2 k) n := by
  go_enter Try.func43, Try.ntmps43
  go_wp2
  go_loopw [10] (fun i wr => ∃ q : Nat, q ≤ k ∧ i = .int .i64 q ∧ IsP wr b (So.swR X a b2 q) n ∧ Below b w wr) (fun i _ => k - (intOf i).toNat)
  case atStart => exact ⟨0, by omega, rfl, by rw [So.swR_zero]; exact hA, Below.refl _ _⟩
  case round =>
    obtain ⟨q, hq, rfl, hY, hB⟩ := hrel
    by_cases hlt : q < k
    · have HS := Lib.hid (So.swR_succ X a b2 q (by omega))
      generalize So.swR X a b2 q = Y at *
      obtain ⟨i1, hi1⟩ : ∃ i1, i1 = a + q := ⟨_, rfl⟩
      obtain ⟨i2, hi2⟩ : ∃ i2, i2 = b2 + q := ⟨_, rfl⟩
      have w1 : IntKind.i64.wrap ((a : Int) + (q : Int)) = (i1 : Int) := by rw [IntWalk.i64_in _ (by omega)]; omega
      have w2 : IntKind.i64.wrap ((b2 : Int) + (q : Int)) = (i2 : Int) := by rw [IntWalk.i64_in _ (by omega)]; omega
      have k1 : i1 < n := by omega
      have k2 : i2 < n := by omega
      have ne : i1 ≠ i2 := by omega
      have ne' : i2 ≠ i1 := by omega
      have HI : Hid (So.swap Y i1 i2 = So.swR X a b2 (q + 1)) := Lib.hid (by rw [hi1, hi2]; exact HS.out)
      clear HS hi1 hi2
      have c1 := hY.cell k1
      have c2 := hY.cell k2
      have z1 := hY.thaw i1
      have z2 := hY.thaw i2
      have lb := hY.lt
      obtain ⟨u, hu⟩ : ∃ u, u = Y i1 := ⟨_, rfl⟩
      obtain ⟨v, hv⟩ : ∃ v, v = Y i2 := ⟨_, rfl⟩
      rw [← hu] at c1
      rw [← hv] at c2
      have HU := Lib.hid hu
      have HV := Lib.hid hv
      clear hu hv
      go_upto_region 3 with (fail)
      go_region
      generalize hW : World.drew _ = W2
      have hY2 : IsP W2 b (So.swR X a b2 (q + 1)) n := by
        rw [← hW, ← HI.out, HU.out, HV.out]
        exact hY.swapped i1 i2
      have hB2 : Below b w W2 := hW ▸ Below.swapped hB _ _ _ _
      clear hW c1 c2 z1 z2 lb hY hB
      go_wp2
      go_roundw
      case rel => exact ⟨q + 1, by omega, by go_num, hY2, hB2⟩
      case measure => simp [intOf]; omega
    · obtain rfl : q = k := by omega
      go_wp2
      go_end0
      exact ⟨rfl, hB, hY⟩

set_option maxHeartbeats 4000000 in
theorem rot_any (X : Nat → Nat) (b n cn a m e : Nat) (g : Value) (w : World) (hA : IsP w b X n) (h1 : a < m) (h2 : m < e) (h3 : e ≤ n) (hn : n ≤ 100000) :
    Calls Try.prog 42 #[.slice (some ⟨b, 0, none⟩) n cn, .int .i64 a, .int .i64 m, .int .i64 e, g] w fun x w' => x = .returned (.tuple #[]) ∧ Below b w w' ∧ IsP w' b (So.rot X a m e) n := by
  obtain ⟨i0, q1, q2⟩ : ∃ i0, i0 + a ≤ m ∧ m ≤ i0 + a := ⟨m - a, by omega, by omega⟩
  obtain ⟨j0, q3, q4⟩ : ∃ j0, j0 + m ≤ e ∧ e ≤ j0 + m := ⟨e - m, by omega, by omega⟩
  have v1 : IntKind.i64.wrap ((m : Int) - (a : Int)) = (i0 : Int) := by rw [IntWalk.i64_in _ (by omega)]; omega
  have v2 : IntKind.i64.wrap ((e : Int) - (m : Int)) = (j0 : Int) := by rw [IntWalk.i64_in _ (by omega)]; omega
  have e1 : m - i0 = a := by omega
  have e2 : m + j0 = e := by omega
  have HR : Hid (So.rot X a m e = So.rot X (m - i0) m (m + j0)) := Lib.hid (by rw [e1, e2])
  clear e1 e2
  go_enter Try.func42, Try.ntmps42
  go_wp2
  go_loopw [10, 11] (fun vi vj wr => ∃ (i j : Nat) (Y : Nat → Nat), vi = .int .i64 i ∧ vj = .int .i64 j ∧ 0 < i ∧ 0 < j ∧ i ≤ i0 ∧ j ≤ j0 ∧ IsP wr b Y n ∧ Below b w wr ∧ Hid (So.rot Y (m - i) m (m + j) = So.rot X a m e)) (fun vi vj _ => (intOf vi).toNat + (intOf vj).toNat)
  case atStart => exact ⟨i0, j0, X, rfl, rfl, by omega, by omega, Nat.le_refl _, Nat.le_refl _, hA, Below.refl _ _, Lib.hid HR.out.symm⟩
  case round =>
    obtain ⟨i, j, Y, rfl, rfl, hi, hj, hi2, hj2, hY, hB, HY⟩ := hrel
    obtain ⟨s, s1, s2⟩ : ∃ s, s + i ≤ m ∧ m ≤ s + i := ⟨m - i, by omega, by omega⟩
    have w1 : IntKind.i64.wrap ((m : Int) - (i : Int)) = (s : Int) := by rw [IntWalk.i64_in _ (by omega)]; omega
    have HS : Hid (m - i = s) := Lib.hid (by omega)
    by_cases hne : i = j
    · subst hne
      have hle : i ≤ m := by omega
      have HE := Lib.hid (So.rot_even Y hle)
      go_wp2_with (go_at_call 43; (with_reducible refine (swr_any Y b n cn s m i g _ hY (by omega) (by omega) hn).mono ?_); rintro x w2 ⟨rfl, hB2, hY2⟩)
      go_end0
      refine ⟨rfl, hB.trans hB2, ?_⟩
      rw [← HY.out, ← HE.out, HS.out]
      exact hY2
    · have hdec : ((i : Int) == (j : Int)) = false := by simp; omega
      rcases Nat.lt_or_ge j i with hlt | hge
      · have hlt' : (j : Int) < (i : Int) := by omega
        obtain ⟨i', r1, r2⟩ : ∃ i', i' + j ≤ i ∧ i ≤ i' + j := ⟨i - j, by omega, by omega⟩
        have w4 : IntKind.i64.wrap ((i : Int) - (j : Int)) = (i' : Int) := by rw [IntWalk.i64_in _ (by omega)]; omega
        have HE := Lib.hid (So.rot_left Y (m := m) (i := i) (j := j) (by omega) hlt)
        have HI : Hid (i - j = i') := Lib.hid (by omega)
        clear hne
        go_wp2_with (go_at_call 43; (with_reducible refine (swr_any Y b n cn s m j g _ hY (by omega) (by omega) hn).mono ?_); rintro x w2 ⟨rfl, hB2, hY2⟩)
        go_roundw
        case rel => exact ⟨i', j, So.swR Y s m j, by go_num, rfl, by omega, hj, by omega, hj2, hY2, hB.trans hB2, Lib.hid (by rw [← HY.out, ← HE.out, HI.out, HS.out])⟩
        case measure => simp [intOf]; omega
      · have hlt : i < j := by omega
        have hlt' : ¬ (j : Int) < (i : Int) := by omega
        obtain ⟨t, t1, t2⟩ : ∃ t, t ≤ m + j ∧ m + j ≤ t := ⟨m + j, by omega, by omega⟩
        obtain ⟨u, u1, u2⟩ : ∃ u, u + i ≤ t ∧ t ≤ u + i := ⟨t - i, by omega, by omega⟩
        obtain ⟨j', r1, r2⟩ : ∃ j', j' + i ≤ j ∧ j ≤ j' + i := ⟨j - i, by omega, by omega⟩
        have w3 : IntKind.i64.wrap ((m : Int) + (j : Int)) = (t : Int) := by rw [IntWalk.i64_in _ (by omega)]; omega
        have w4 : IntKind.i64.wrap ((t : Int) - (i : Int)) = (u : Int) := by rw [IntWalk.i64_in _ (by omega)]; omega
        have w5 : IntKind.i64.wrap ((j : Int) - (i : Int)) = (j' : Int) := by rw [IntWalk.i64_in _ (by omega)]; omega
        have HE := Lib.hid (So.rot_right Y (m := m) (i := i) (j := j) (by omega) hlt)
        have HJ : Hid (j - i = j') := Lib.hid (by omega)
        have HT : Hid (m + j - i = u) := Lib.hid (by omega)
        clear hne
        go_wp2_with (go_at_call 43; (with_reducible refine (swr_any Y b n cn s u i g _ hY (by omega) (by omega) hn).mono ?_); rintro x w2 ⟨rfl, hB2, hY2⟩)
        go_roundw
        case rel => exact ⟨i, j', So.swR Y s u i, rfl, by go_num, hi, by omega, hi2, by omega, hY2, hB.trans hB2, Lib.hid (by rw [← HY.out, ← HE.out, HJ.out, HS.out, HT.out])⟩
        case measure => simp [intOf]; omega

end Go.Proofs.Ytbmidmpooooheaa.Fix
