/- What a stable sort of places by the levels of their nodes stands on: the row, what is compared, exchanges and rotations. Written by genpasort.py. -/
import Derived.Test.YtbmidmpooooheaaPaLow
set_option maxRecDepth 100000
namespace Go.Proofs.Ytbmidmpooooheaa.Fix
open Go.ChangeShapes Go.WideShapes Go.ChangeAt Go.RowKit
set_option linter.unusedVariables false

set_option maxHeartbeats 4000000 in
theorem pswr_any (ks : PKS) (X : Nat → Nat) (b n cn a b2 k : Nat) (g : Value) (w : World) (hA : IsV ks w b X n) (h1 : a + k ≤ b2) (h2 : b2 + k ≤ n) (hn : n ≤ 100000) :
    Calls Try.prog 43 #[.slice (some ⟨b, 0, none⟩) n cn, .int .i64 a, .int .i64 b2, .int .i64 k, g] w fun e w' => e = .returned (.tuple #[]) ∧ Only b w w' ∧ IsV ks w' b (So.swR X a b2 k) n := by
  go_enter Try.func43, Try.ntmps43
  go_wp2
  go_loopw [10] (fun i wr => ∃ q : Nat, q ≤ k ∧ i = .int .i64 q ∧ IsV ks wr b (So.swR X a b2 q) n ∧ Only b w wr) (fun i _ => k - (intOf i).toNat)
  case atStart => exact ⟨0, by omega, rfl, by rw [So.swR_zero]; exact hA, Only.refl _ _⟩
  case round =>
    obtain ⟨q, hq, rfl, hY, hB⟩ := hrel
    by_cases hlt : q < k
    · have HS := Lib.hid (So.swR_succ X a b2 q (by omega))
      generalize So.swR X a b2 q = Y at *
      obtain ⟨i1, hi1⟩ : ∃ i1, i1 = a + q := ⟨_, rfl⟩
      obtain ⟨i2, hi2⟩ : ∃ i2, i2 = b2 + q := ⟨_, rfl⟩
      have w1 : IntKind.i64.wrap ((a : Int) + (q : Int)) = (i1 : Int) := by rw [IntWalk.i64_in _ (by omega)]; omega
      have w2 : IntKind.i64.wrap ((b2 : Int) + (q : Int)) = (i2 : Int) := by rw [IntWalk.i64_in _ (by omega)]; omega
      have k1 : i1 < n := by omega
      have k2 : i2 < n := by omega
      have ne : i1 ≠ i2 := by omega
      have ne' : i2 ≠ i1 := by omega
      have HI : Hid (So.swap Y i1 i2 = So.swR X a b2 (q + 1)) := Lib.hid (by rw [hi1, hi2]; exact HS.out)
      clear HS hi1 hi2
      have c1 := hY.cell k1
      have c2 := hY.cell k2
      have z1 := hY.thaw i1
      have z2 := hY.thaw i2
      have lb := hY.lt
      obtain ⟨u, hu⟩ : ∃ u, u = Y i1 := ⟨_, rfl⟩
      obtain ⟨v, hv⟩ : ∃ v, v = Y i2 := ⟨_, rfl⟩
      rw [← hu] at c1
      rw [← hv] at c2
      have HU := Lib.hid hu
      have HV := Lib.hid hv
      clear hu hv
      go_upto_region 3 with (fail)
      go_region
      generalize hW : World.drew _ = W2
      have hY2 : IsV ks W2 b (So.swR X a b2 (q + 1)) n := by
        rw [← hW, ← HI.out, HU.out, HV.out]
        exact hY.swapped i1 i2
      have hB2 : Only b w W2 := hW ▸ Only.swapped hB _ _ _ _
      clear hW c1 c2 z1 z2 lb hY hB
      go_wp2
      go_roundw
      case rel => exact ⟨q + 1, by omega, by go_num, hY2, hB2⟩
      case measure => simp [intOf]; omega
    · obtain rfl : q = k := by omega
      go_wp2
      go_end0
      exact ⟨rfl, hB, hY⟩

set_option maxHeartbeats 4000000 in
theorem prot_any (ks : PKS) (X : Nat → Nat) (b n cn a m e : Nat) (g : Value) (w : World) (hA : IsV ks w b X n) (h1 : a < m) (h2 : m < e) (h3 : e ≤ n) (hn : n ≤ 100000) :
    Calls Try.prog 42 #[.slice (some ⟨b, 0, none⟩) n cn, .int .i64 a, .int .i64 m, .int .i64 e, g] w fun x w' => x = .returned (.tuple #[]) ∧ Only b w w' ∧ IsV ks w' b (So.rot X a m e) n := by
  obtain ⟨i0, q1, q2⟩ : ∃ i0, i0 + a ≤ m ∧ m ≤ i0 + a := ⟨m - a, by omega, by omega⟩
  obtain ⟨j0, q3, q4⟩ : ∃ j0, j0 + m ≤ e ∧ e ≤ j0 + m := ⟨e - m, by omega, by omega⟩
  have v1 : IntKind.i64.wrap ((m : Int) - (a : Int)) = (i0 : Int) := by rw [IntWalk.i64_in _ (by omega)]; omega
  have v2 : IntKind.i64.wrap ((e : Int) - (m : Int)) = (j0 : Int) := by rw [IntWalk.i64_in _ (by omega)]; omega
  have e1 : m - i0 = a := by omega
  have e2 : m + j0 = e := by omega
  have HR : Hid (So.rot X a m e = So.rot X (m - i0) m (m + j0)) := Lib.hid (by rw [e1, e2])
  clear e1 e2
  go_enter Try.func42, Try.ntmps42
  go_wp2
  go_loopw [10, 11] (fun vi vj wr => ∃ (i j : Nat) (Y : Nat → Nat), vi = .int .i64 i ∧ vj = .int .i64 j ∧ 0 < i ∧ 0 < j ∧ i ≤ i0 ∧ j ≤ j0 ∧ IsV ks wr b Y n ∧ Only b w wr ∧ Hid (So.rot Y (m - i) m (m + j) = So.rot X a m e)) (fun vi vj _ => (intOf vi).toNat + (intOf vj).toNat)
  case atStart => exact ⟨i0, j0, X, rfl, rfl, by omega, by omega, Nat.le_refl _, Nat.le_refl _, hA, Only.refl _ _, Lib.hid HR.out.symm⟩
  case round =>
    obtain ⟨i, j, Y, rfl, rfl, hi, hj, hi2, hj2, hY, hB, HY⟩ := hrel
    obtain ⟨s, s1, s2⟩ : ∃ s, s + i ≤ m ∧ m ≤ s + i := ⟨m - i, by omega, by omega⟩
    have w1 : IntKind.i64.wrap ((m : Int) - (i : Int)) = (s : Int) := by rw [IntWalk.i64_in _ (by omega)]; omega
    have HS : Hid (m - i = s) := Lib.hid (by omega)
    by_cases hne : i = j
    · subst hne
      have hle : i ≤ m := by omega
      have HE := Lib.hid (So.rot_even Y hle)
      go_wp2_with (go_at_call 43; (with_reducible refine (pswr_any ks Y b n cn s m i g _ hY (by omega) (by omega) hn).mono ?_); rintro x w2 ⟨rfl, hB2, hY2⟩)
      go_end0
      refine ⟨rfl, hB.trans hB2, ?_⟩
      rw [← HY.out, ← HE.out, HS.out]
      exact hY2
    · have hdec : ((i : Int) == (j : Int)) = false := by simp; omega
      rcases Nat.lt_or_ge j i with hlt | hge
      · have hlt' : (j : Int) < (i : Int) := by omega
        obtain ⟨i', r1, r2⟩ : ∃ i', i' + j ≤ i ∧ i ≤ i' + j := ⟨i - j, by omega, by omega⟩
        have w4 : IntKind.i64.wrap ((i : Int) - (j : Int)) = (i' : Int) := by rw [IntWalk.i64_in _ (by omega)]; omega
        have HE := Lib.hid (So.rot_left Y (m := m) (i := i) (j := j) (by omega) hlt)
        have HI : Hid (i - j = i') := Lib.hid (by omega)
        clear hne
        go_wp2_with (go_at_call 43; (with_reducible refine (pswr_any ks Y b n cn s m j g _ hY (by omega) (by omega) hn).mono ?_); rintro x w2 ⟨rfl, hB2, hY2⟩)
        go_roundw
        case rel => exact ⟨i', j, So.swR Y s m j, by go_num, rfl, by omega, hj, by omega, hj2, hY2, hB.trans hB2, Lib.hid (by rw [← HY.out, ← HE.out, HI.out, HS.out])⟩
        case measure => simp [intOf]; omega
      · have hlt : i < j := by omega
        have hlt' : ¬ (j : Int) < (i : Int) := by omega
        obtain ⟨t, t1, t2⟩ : ∃ t, t ≤ m + j ∧ m + j ≤ t := ⟨m + j, by omega, by omega⟩
        obtain ⟨u, u1, u2⟩ : ∃ u, u + i ≤ t ∧ t ≤ u + i := ⟨t - i, by omega, by omega⟩
        obtain ⟨j', r1, r2⟩ : ∃ j', j' + i ≤ j ∧ j ≤ j' + i := ⟨j - i, by omega, by omega⟩
        have w3 : IntKind.i64.wrap ((m : Int) + (j : Int)) = (t : Int) := by rw [IntWalk.i64_in _ (by omega)]; omega
        have w4 : IntKind.i64.wrap ((t : Int) - (i : Int)) = (u : Int) := by rw [IntWalk.i64_in _ (by omega)]; omega
        have w5 : IntKind.i64.wrap ((j : Int) - (i : Int)) = (j' : Int) := by rw [IntWalk.i64_in _ (by omega)]; omega
        have HE := Lib.hid (So.rot_right Y (m := m) (i := i) (j := j) (by omega) hlt)
        have HJ : Hid (j - i = j') := Lib.hid (by omega)
        have HT : Hid (m + j - i = u) := Lib.hid (by omega)
        clear hne
        go_wp2_with (go_at_call 43; (with_reducible refine (pswr_any ks Y b n cn s u i g _ hY (by omega) (by omega) hn).mono ?_); rintro x w2 ⟨rfl, hB2, hY2⟩)
        go_roundw
        case rel => exact ⟨i, j', So.swR Y s u i, rfl, by go_num, hi, by omega, hi2, by omega, hY2, hB.trans hB2, Lib.hid (by rw [← HY.out, ← HE.out, HJ.out, HS.out, HT.out])⟩
        case measure => simp [intOf]; omega

end Go.Proofs.Ytbmidmpooooheaa.Fix
