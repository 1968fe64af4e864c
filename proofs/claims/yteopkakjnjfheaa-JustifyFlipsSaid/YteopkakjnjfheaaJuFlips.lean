/- JustifyFlips: it returns true, and leaves all that was there as it was. Written by wip/tools/genjulaws.py. -/
import Derived.Test.YteopkakjnjfheaaJuLaws
import Derived.Test.YteopkakjnjfheaaJuLawMath
namespace Go.Proofs.Yteopkakjnjfheaa.Fix
open Go.ChangeShapes Go.WideShapes Go.ChangeAt Go.RowKit
set_option linter.unusedVariables false

set_option maxRecDepth 100000 in
theorem jflips_out (A : Option Addr) (n c : Nat) (kind room gap : Int) (w : World) (hx : n ≤ 9223372036854775807) (h : 64 < n ∨ room < 0 ∨ 1073741824 < room ∨ gap < 0 ∨ 1048576 < gap) :
    Calls Try.prog 5 #[.int .i64 kind, .slice A n c, .int .i64 room, .int .i64 gap] w fun e w' => e = .returned (.bool true) ∧ Below w.heap.size w w' := by
  by_cases h0 : 64 < n
  · clear h
    go_enter Try.func5, Try.ntmps5
    go_wp2_with (go_at_call 9; with_reducible refine (jworks_any _).mono ?_; rintro e w1 ⟨rfl, hB⟩)
    go_ret
    exact ⟨rfl, hB⟩
  · have e0 : decide (64 < (n : Int)) = false := by simp; omega
    by_cases h1 : room < 0
    · clear h
      go_enter Try.func5, Try.ntmps5
      go_wp2_with (go_at_call 9; with_reducible refine (jworks_any _).mono ?_; rintro e w1 ⟨rfl, hB⟩)
      go_ret
      exact ⟨rfl, hB⟩
    · have e1 : decide (room < 0) = false := by simp; omega
      by_cases h2 : 1073741824 < room
      · clear h
        go_enter Try.func5, Try.ntmps5
        go_wp2_with (go_at_call 9; with_reducible refine (jworks_any _).mono ?_; rintro e w1 ⟨rfl, hB⟩)
        go_ret
        exact ⟨rfl, hB⟩
      · have e2 : decide (1073741824 < room) = false := by simp; omega
        by_cases h3 : gap < 0
        · clear h
          go_enter Try.func5, Try.ntmps5
          go_wp2_with (go_at_call 9; with_reducible refine (jworks_any _).mono ?_; rintro e w1 ⟨rfl, hB⟩)
          go_ret
          exact ⟨rfl, hB⟩
        · have e3 : decide (gap < 0) = false := by simp; omega
          have h4 : 1048576 < gap := by omega
          clear h
          go_enter Try.func5, Try.ntmps5
          go_wp2_with (go_at_call 9; with_reducible refine (jworks_any _).mono ?_; rintro e w1 ⟨rfl, hB⟩)
          go_ret
          exact ⟨rfl, hB⟩

set_option maxRecDepth 100000 in
set_option maxHeartbeats 4000000 in
theorem jflips_core (A : Option Addr) (l : List Int) (n c : Nat) (kind room gap : Int) (w : World) (hI : Ints w A l) (hl : l.length = n) (hc : n ≤ c) (zc : A = none → c = 0) (n2 : n ≤ 64) (r0 : 0 ≤ room) (r1 : room ≤ 1073741824) (g0 : 0 ≤ gap) (g1 : gap ≤ 1048576) :
    Calls Try.prog 5 #[.int .i64 kind, .slice A n c, .int .i64 room, .int .i64 gap] w fun e w' => e = .returned (.bool true) ∧ Below w.heap.size w w' := by
  have e0 : decide (64 < (n : Int)) = false := by simp; omega
  have e1 : decide (room < 0) = false := by simp; omega
  have e2 : decide (1073741824 < room) = false := by simp; omega
  have e3 : decide (gap < 0) = false := by simp; omega
  have e4 : decide (1048576 < gap) = false := by simp; omega
  have HI := Lib.hid hI
  have HL := Lib.hid hl
  have HC := Lib.hid hc
  have HRL : Hid (∀ f m, (Ju.row f m).length = m) := Lib.hid (fun f m => Ju.row_length f m)
  clear hI hl hc
  have HZ := Lib.hid zc
  clear zc
  go_enter Try.func5, Try.ntmps5
  go_wp2_with (go_at_call 9; with_reducible refine (jworks_any _).mono ?_; rintro e w1 ⟨rfl, hB⟩)
  go_loopw [10] (fun i wr => ∃ k : Nat, k ≤ n ∧ i = .int .i64 k ∧ w1 = wr ∧ Hid (∀ j, j < k → 0 ≤ l.getD j 0 ∧ l.getD j 0 ≤ 1048576)) (fun i _ => n - (intOf i).toNat)
  case atStart => exact ⟨0, by omega, rfl, rfl, Lib.hid (fun j hj => absurd hj (by omega))⟩
  case round =>
    obtain ⟨k, hk, rfl, rfl, HA⟩ := hrel
    by_cases hlt : k < n
    · obtain ⟨b0, o0, hA0, l0, c0⟩ := (HI.out.after hB).at_ (k := k) (by rw [HL.out]; exact hlt)
      have hN : 0 ≤ l.getD k 0 → l.getD k 0 ≤ 1048576 → Hid (∀ j, j < k + 1 → 0 ≤ l.getD j 0 ∧ l.getD j 0 ≤ 1048576) := fun h1 h2 => Lib.hid (fun j hj => by
        rcases Nat.lt_or_ge j k with h' | h'
        · exact HA.out j h'
        · obtain rfl : j = k := by omega
          exact ⟨h1, h2⟩)
      generalize l.getD k 0 = z at *
      subst hA0
      by_cases hz1 : z < 0
      · go_wp2
        go_ret
        exact ⟨rfl, hB⟩
      · have z1 : decide (z < 0) = false := by simp; omega
        by_cases hz2 : 1048576 < z
        · go_wp2
          go_ret
          exact ⟨rfl, hB⟩
        · have z2 : decide (1048576 < z) = false := by simp; omega
          replace hN := hN (by omega) (by omega)
          go_wp2
          go_roundw
          case rel => exact ⟨k + 1, by omega, by go_num, trivial, hN⟩
          case measure => simp [intOf]; omega
    · obtain rfl : k = n := by omega
      have hltz : ¬ (k : Int) < (k : Int) := by omega
      have HSM : Hid (Ju.Small l) := Lib.hid (fun j => by
        rcases Nat.lt_or_ge j k with h' | h'
        · exact HA.out j h'
        · rw [List.getD_eq_getElem?_getD, List.getElem?_eq_none (by rw [HL.out]; exact h')]; simp)
      clear HA
      have hK64 : l.length ≤ 64 := by rw [HL.out]; omega
      have HFP : Hid (∀ j, j < k → Ju.flip room (Ju.row (Ju.starts kind room gap l) k) l j = room - (Ju.starts kind room gap l j + l.getD j 0)) := Lib.hid (fun j hj => by
        have := Ju.flip_plain (kind := kind) HSM.out g0 g1 hK64 r0 r1 (k := j) (by rw [HL.out]; exact hj)
        rw [HL.out] at this; exact this)
      have HTW : Hid (Ju.row (Ju.flip room (Ju.row (Ju.flip room (Ju.row (Ju.starts kind room gap l) k) l) k) l) k = Ju.row (Ju.starts kind room gap l) k) := Lib.hid (by
        have := Ju.flip_twice (kind := kind) HSM.out g0 g1 hK64 r0 r1
        rw [HL.out] at this; exact this)
      have HBD : Hid (∀ j, j < k → -134217728 ≤ Ju.starts kind room gap l j ∧ Ju.starts kind room gap l j ≤ 1207959552) := Lib.hid (fun j hj => Ju.starts_bd HSM.out g0 g1 hK64 r0 r1 (by rw [HL.out]; exact hj))
      have HSZ := Lib.hid (fun j => HSM.out j)
      clear hK64 HSM
      go_upto_region 12 with (go_at_call 10; refine (starts_any A l k c kind room gap _ (HI.out.after hB) HL.out HC.out (by omega)).mono ?_; rintro e w2 ⟨⟨b1, rfl, hI1⟩, hb⟩)
      replace hB := Below.after2 hB (Nat.le_refl _) hb
      have H1 := Lib.hid hI1
      clear hI1 hb
      generalize Ju.starts kind room gap l = f at *
      go_upto_region 13 with (go_at_call 11; refine (flip_any _ A _ l k k c room _ H1.out (HI.out.after hB) (HRL.out _ _) HL.out (by omega)).mono ?_; rintro e w3 ⟨⟨b2, rfl, hI2⟩, hb⟩)
      replace hB := Below.after2 hB (Nat.le_refl _) hb
      replace H1 := Lib.hid (H1.out.after hb)
      have H2 := Lib.hid hI2
      clear hI2 hb
      go_upto_region 15 with (first
        | (go_at_call 11; refine (flip_any _ A _ l k k c room _ H2.out (HI.out.after hB) (HRL.out _ _) HL.out (by omega)).mono ?_; rintro e w4 ⟨⟨b3, rfl, hI3⟩, hb⟩; rw [HTW.out] at hI3; replace hB := Below.after2 hB (Nat.le_refl _) hb; replace H1 := Lib.hid (H1.out.after hb); replace H2 := Lib.hid (H2.out.after hb); have H3 := Lib.hid hI3; clear hI3 hb)
        | (go_at_call 12; refine (row_any _ _ _ k _ _ _ H3.out H1.out (HRL.out _ _) (by omega)).mono ?_; rintro e w5 ⟨rfl, hb⟩; replace hB := Below.after2 hB (Nat.le_refl _) hb; replace H1 := Lib.hid (H1.out.after hb); replace H2 := Lib.hid (H2.out.after hb); clear H3 hb))
      have H0 := Lib.hid (HI.out.after hB)
      have HT2 := HTW
      clear HTW HT2
      generalize hg : Ju.flip room (Ju.row f k) l = g at *
      clear hg
      rename World => w6
      go_wp2
      go_loopw [13] (fun i wr => ∃ j : Nat, j ≤ k ∧ i = .int .i64 j ∧ Below w6.heap.size w6 wr) (fun i _ => k - (intOf i).toNat)
      case atStart => exact ⟨0, by omega, rfl, Below.refl _ _⟩
      case round =>
        obtain ⟨j, hj, rfl, hW⟩ := hrel
        by_cases hjt : j < k
        · obtain ⟨b4, o4, hA4, l4, c4⟩ := (H0.out.after hW).at_ (k := j) (by rw [HL.out]; exact hjt)
          obtain ⟨b5, o5, hA5, l5, c5⟩ := (H1.out.after hW).at_ (k := j) (by rw [HRL.out]; exact hjt)
          obtain ⟨b6, o6, hA6, l6, c6⟩ := (H2.out.after hW).at_ (k := j) (by rw [HRL.out]; exact hjt)
          injection hA5 with hA5
          injection hA5 with q1 q2
          subst q1 q2
          injection hA6 with hA6
          injection hA6 with q1 q2
          subst q1 q2
          rw [Ju.row_get _ hjt, Nat.zero_add] at c5
          rw [Ju.row_get _ hjt, Nat.zero_add] at c6
          have hfp := HFP.out j hjt
          obtain ⟨x1, x2⟩ := HBD.out j hjt
          obtain ⟨s1, s2⟩ := HSZ.out j
          subst hA4
          generalize g j = x at *
          generalize f j = y at *
          generalize l.getD j 0 = s at *
          have hw2 : IntKind.i64.wrap (x + s) = x + s := IntWalk.i64_in _ (by omega)
          have hw3 : IntKind.i64.wrap (room - y) = room - y := IntWalk.i64_in _ (by omega)
          have ht : (x + s == room - y) = true := by simp; omega
          clear hfp
          go_upto_region 18 with (fail)
          refine Drawn.wp_region_from (Below.refl _ _) (by kernel_rfl) (by kernel_rfl) (by kernel_rfl) ?_
          (repeat (first | (refine Drawn.seq_skip (by rfl) ?_; (try simp only [Act.put, List.setIfInBounds_toArray, List.set_cons_zero, List.set_cons_succ])) | (refine Drawn.seq_call (o := ⟨_, .call ⟨.value _, _, _⟩, _, _, _, _⟩) (by rfl) (by intro w2 hS; go_simp; first | done | with_reducible rfl | exact ⟨rfl, rfl⟩) (by intro w2 hS; first | ((with_reducible refine (cut_any _ _).mono ?_); rintro e w' ⟨rfl, rfl⟩; exact ⟨rfl, hS⟩)) ?_; (try simp only [Act.put, List.setIfInBounds_toArray, List.set_cons_zero, List.set_cons_succ])) | (refine Drawn.seq_value (by rfl) (by intro w2 hS; obtain ⟨hc, hf⟩ := bcell hS; go_simp; first | done | with_reducible rfl | exact ⟨rfl, rfl⟩) ?_; (try simp only [Act.put, List.setIfInBounds_toArray, List.set_cons_zero, List.set_cons_succ]))))
          refine Drawn.seq_end ?_; intro w2 hS
          go_wp2
          go_roundw
          case rel => exact ⟨j + 1, by omega, by go_num, Below.after2 hW (Nat.le_refl _) hS⟩
          case measure => simp [intOf]; omega
        · obtain rfl : j = k := by omega
          have hjz : ¬ (j : Int) < (j : Int) := by omega
          have hown0 : (wr.alloc (.cells #[] 3)).ownsRow wr.heap.size 3 1 (.slice (some ⟨wr.heap.size, 0, none⟩) 0 0) 0 (([] : List Int).map (Value.int .i64)) := ⟨by simp, .inr ⟨wr.heap.size, 0, #[], rfl, Nat.le_refl _, At.new _ _, Nat.le_refl _, by simp [maxLen], by simp, by simp⟩⟩
          have hb0 : Below wr.heap.size wr (wr.alloc (.cells #[] 3)) := Below.alloc' (Below.refl _ _) _
          obtain ⟨v1, wa, r1, o1, q1, z1⟩ := append_ints hown0 hb0 hb0.size ((H0.out.after hW).after hb0) HL.out HZ.out (by omega)
          obtain ⟨v2, wb, r2, o2, q2, z2⟩ := append_int 1 o1 q1 z1 (by omega)
          obtain ⟨D, d, rfl, hD⟩ := ints_of_own o2 (by simp only [maxLen]; omega)
          have hlen : ((([] : List Int) ++ l) ++ [1]).length = j + 1 := by simp [HL.out]
          rw [hlen] at r2
          have HR1 := Lib.hid r1
          have HR2 := Lib.hid r2
          replace hB := Below.after2 (Below.after2 hB (Nat.le_refl _) hW) (Nat.le_refl _) q2
          clear r1 r2 o1 o2 q1 q2 z1 z2 hD hlen hown0 hb0 HBD HSZ HFP H1 H2
          go_wp2_with (first
            | (at_builtin; refine wpList_append_run (by rfl) _ _ 23 rfl rfl rfl HR1.out ?_)
            | (at_builtin; refine wpList_append_run (by rfl) _ _ 23 rfl rfl rfl HR2.out ?_)
            | (go_at_call 11; refine (flip_none _ _ j (j + 1) _ _ room _ (by omega)).mono ?_; rintro e w7 ⟨rfl, rfl⟩))
          go_ret
          exact ⟨rfl, hB⟩

theorem jflips_walk (kind : Int) (a1 : Option Addr) (len1 cap1 : Nat) (z1 : List Int) (room gap : Int) (w : World) (h1 : Row w a1 len1 cap1 z1) :
    Calls Try.prog 5 #[.int .i64 kind, .slice a1 len1 cap1, .int .i64 room, .int .i64 gap] w fun e w' => e = .returned (.bool true) ∧ Below w.heap.size w w' := by
  have k1 := h1.cap
  obtain ⟨l, rfl, hl, _, _, zc⟩ := ints_of_row h1
  have m1 := hl.1
  simp only [maxLen] at m1
  by_cases h : 64 < l.length ∨ room < 0 ∨ 1073741824 < room ∨ gap < 0 ∨ 1048576 < gap
  · exact jflips_out a1 _ cap1 kind room gap w (by omega) h
  · exact jflips_core a1 l _ cap1 kind room gap w hl rfl k1 zc (by omega) (by omega) (by omega) (by omega) (by omega)

end Go.Proofs.Yteopkakjnjfheaa.Fix
