/- JustifyApart: it returns true, and leaves all that was there as it was. Written by wip/tools/genjulaws.py. -/
import Derived.Test.YteopkakjnjfheaaJuLaws
import Derived.Test.YteopkakjnjfheaaJuLawMath
namespace Go.Proofs.Yteopkakjnjfheaa.Fix
open Go.ChangeShapes Go.WideShapes Go.ChangeAt Go.RowKit
set_option linter.unusedVariables false

set_option maxRecDepth 100000 in
theorem japart_out (A : Option Addr) (n c : Nat) (kind room gap : Int) (w : World) (hx : n ≤ 9223372036854775807) (h : 64 < n ∨ n = 0 ∨ room < 0 ∨ 1073741824 < room ∨ gap < 0 ∨ 1048576 < gap) :
    Calls Try.prog 4 #[.int .i64 kind, .slice A n c, .int .i64 room, .int .i64 gap] w fun e w' => e = .returned (.bool true) ∧ Below w.heap.size w w' := by
  by_cases h0 : 64 < n
  · clear h
    go_enter Try.func4, Try.ntmps4
    go_wp2_with (go_at_call 9; with_reducible refine (jworks_any _).mono ?_; rintro e w1 ⟨rfl, hB⟩)
    go_ret
    exact ⟨rfl, hB⟩
  · have e0 : decide (64 < (n : Int)) = false := by simp; omega
    by_cases h1 : n = 0
    · clear h
      subst h1
      go_enter Try.func4, Try.ntmps4
      go_wp2_with (go_at_call 9; with_reducible refine (jworks_any _).mono ?_; rintro e w1 ⟨rfl, hB⟩)
      go_ret
      exact ⟨rfl, hB⟩
    · have e1 : ((n : Int) == 0) = false := by simp; omega
      by_cases h2 : room < 0
      · clear h
        go_enter Try.func4, Try.ntmps4
        go_wp2_with (go_at_call 9; with_reducible refine (jworks_any _).mono ?_; rintro e w1 ⟨rfl, hB⟩)
        go_ret
        exact ⟨rfl, hB⟩
      · have e2 : decide (room < 0) = false := by simp; omega
        by_cases h3 : 1073741824 < room
        · clear h
          go_enter Try.func4, Try.ntmps4
          go_wp2_with (go_at_call 9; with_reducible refine (jworks_any _).mono ?_; rintro e w1 ⟨rfl, hB⟩)
          go_ret
          exact ⟨rfl, hB⟩
        · have e3 : decide (1073741824 < room) = false := by simp; omega
          by_cases h4 : gap < 0
          · clear h
            go_enter Try.func4, Try.ntmps4
            go_wp2_with (go_at_call 9; with_reducible refine (jworks_any _).mono ?_; rintro e w1 ⟨rfl, hB⟩)
            go_ret
            exact ⟨rfl, hB⟩
          · have e4 : decide (gap < 0) = false := by simp; omega
            have h5 : 1048576 < gap := by omega
            clear h
            go_enter Try.func4, Try.ntmps4
            go_wp2_with (go_at_call 9; with_reducible refine (jworks_any _).mono ?_; rintro e w1 ⟨rfl, hB⟩)
            go_ret
            exact ⟨rfl, hB⟩

set_option maxRecDepth 100000 in
set_option maxHeartbeats 4000000 in
theorem japart_core (A : Option Addr) (l : List Int) (n c : Nat) (kind room gap : Int) (w : World) (hI : Ints w A l) (hl : l.length = n) (hc : n ≤ c) (n1 : 1 ≤ n) (n2 : n ≤ 64) (r0 : 0 ≤ room) (r1 : room ≤ 1073741824) (g0 : 0 ≤ gap) (g1 : gap ≤ 1048576) :
    Calls Try.prog 4 #[.int .i64 kind, .slice A n c, .int .i64 room, .int .i64 gap] w fun e w' => e = .returned (.bool true) ∧ Below w.heap.size w w' := by
  have e0 : decide (64 < (n : Int)) = false := by simp; omega
  have e1 : ((n : Int) == 0) = false := by simp; omega
  have e2 : decide (room < 0) = false := by simp; omega
  have e3 : decide (1073741824 < room) = false := by simp; omega
  have e4 : decide (gap < 0) = false := by simp; omega
  have e5 : decide (1048576 < gap) = false := by simp; omega
  have HI := Lib.hid hI
  have HL := Lib.hid hl
  have HC := Lib.hid hc
  have HRL : Hid (∀ f m, (Ju.row f m).length = m) := Lib.hid (fun f m => Ju.row_length f m)
  clear hI hl hc
  go_enter Try.func4, Try.ntmps4
  go_wp2_with (go_at_call 9; with_reducible refine (jworks_any _).mono ?_; rintro e w1 ⟨rfl, hB⟩)
  go_loopw [10] (fun i wr => ∃ k : Nat, k ≤ n ∧ i = .int .i64 k ∧ w1 = wr ∧ Hid (∀ j, j < k → 0 ≤ l.getD j 0 ∧ l.getD j 0 ≤ 1048576)) (fun i _ => n - (intOf i).toNat)
  case atStart => exact ⟨0, by omega, rfl, rfl, Lib.hid (fun j hj => absurd hj (by omega))⟩
  case round =>
    obtain ⟨k, hk, rfl, rfl, HA⟩ := hrel
    by_cases hlt : k < n
    · obtain ⟨b0, o0, hA0, l0, c0⟩ := (HI.out.after hB).at_ (k := k) (by rw [HL.out]; exact hlt)
      have hN : 0 ≤ l.getD k 0 → l.getD k 0 ≤ 1048576 → Hid (∀ j, j < k + 1 → 0 ≤ l.getD j 0 ∧ l.getD j 0 ≤ 1048576) := fun h1 h2 => Lib.hid (fun j hj => by
        rcases Nat.lt_or_ge j k with h' | h'
        · exact HA.out j h'
        · obtain rfl : j = k := by omega
          exact ⟨h1, h2⟩)
      generalize l.getD k 0 = z at *
      subst hA0
      by_cases hz1 : z < 0
      · go_wp2
        go_ret
        exact ⟨rfl, hB⟩
      · have z1 : decide (z < 0) = false := by simp; omega
        by_cases hz2 : 1048576 < z
        · go_wp2
          go_ret
          exact ⟨rfl, hB⟩
        · have z2 : decide (1048576 < z) = false := by simp; omega
          replace hN := hN (by omega) (by omega)
          go_wp2
          go_roundw
          case rel => exact ⟨k + 1, by omega, by go_num, trivial, hN⟩
          case measure => simp [intOf]; omega
    · obtain rfl : k = n := by omega
      have hltz : ¬ (k : Int) < (k : Int) := by omega
      have HSM : Hid (Ju.Small l) := Lib.hid (fun j => by
        rcases Nat.lt_or_ge j k with h' | h'
        · exact HA.out j h'
        · rw [List.getD_eq_getElem?_getD, List.getElem?_eq_none (by rw [HL.out]; exact h')]; simp)
      clear HA
      obtain ⟨m, m1, m2⟩ : ∃ m, m + 1 ≤ k ∧ k ≤ m + 1 := ⟨k - 1, by omega, by omega⟩
      have hHM : l.length = m + 1 := by rw [HL.out]; omega
      have hK64 : l.length ≤ 64 := by rw [HL.out]; omega
      have HAP : Hid (∀ j, j + 1 < k → Ju.starts kind room gap l j + l.getD j 0 + gap ≤ Ju.starts kind room gap l (j + 1)) := Lib.hid (fun j hj => Ju.starts_apart HSM.out g0 g1 hK64 r0 r1 (by rw [HL.out]; exact hj))
      have HBD : Hid (∀ j, j < k → -134217728 ≤ Ju.starts kind room gap l j ∧ Ju.starts kind room gap l j ≤ 1207959552) := Lib.hid (fun j hj => Ju.starts_bd HSM.out g0 g1 hK64 r0 r1 (by rw [HL.out]; exact hj))
      have HWI : Hid (Li.long gap l ≤ room → 0 ≤ Ju.starts kind room gap l 0 ∧ Ju.starts kind room gap l m + l.getD m 0 ≤ room) := Lib.hid (Ju.starts_within HSM.out g0 g1 hK64 r0 r1 hHM)
      have HB2 : Hid (kind = 3 → Li.long gap l ≤ room → 2 ≤ k → Ju.starts kind room gap l 0 = 0 ∧ Ju.starts kind room gap l m + l.getD m 0 = room) := Lib.hid (fun h1 h2 h3 => by subst h1; exact Ju.starts_both HSM.out g0 g1 hK64 r0 r1 hHM h2 (by rw [HL.out]; exact h3))
      have HEN : Hid (kind = 1 → Ju.starts kind room gap l m + l.getD m 0 = room) := Lib.hid (fun h1 => by subst h1; exact Ju.starts_end HSM.out g0 g1 hK64 r0 r1 hHM)
      have HSZ := Lib.hid (fun j => HSM.out j)
      clear hHM hK64
      go_upto_region 12 with (go_at_call 10; refine (starts_any A l k c kind room gap _ (HI.out.after hB) HL.out HC.out (by omega)).mono ?_; rintro e w2 ⟨⟨b1, rfl, hI1⟩, hb⟩)
      replace hB := Below.after2 hB (Nat.le_refl _) hb
      have H1 := Lib.hid hI1
      have H0 := Lib.hid (HI.out.after hB)
      clear hI1 hb
      generalize Ju.starts kind room gap l = f at *
      go_wp2
      go_loopw [12] (fun i wr => ∃ j : Nat, 1 ≤ j ∧ j ≤ k ∧ i = .int .i64 j ∧ Below w2.heap.size w2 wr) (fun i _ => k - (intOf i).toNat)
      case atStart => exact ⟨1, by omega, by omega, rfl, Below.refl _ _⟩
      case round =>
        obtain ⟨j, hj1, hj, rfl, hW⟩ := hrel
        by_cases hjt : j < k
        · obtain ⟨i, hi⟩ : ∃ i, j = i + 1 := ⟨j - 1, by omega⟩
          obtain ⟨b2, o2, hA2, l2, c2⟩ := (H1.out.after hW).at_ (k := j) (by rw [HRL.out]; exact hjt)
          obtain ⟨b3, o3, hA3, l3, c3⟩ := (H1.out.after hW).at_ (k := i) (by rw [HRL.out]; omega)
          obtain ⟨b4, o4, hA4, l4, c4⟩ := (H0.out.after hW).at_ (k := i) (by rw [HL.out]; omega)
          injection hA2 with hA2
          injection hA2 with q1 q2
          subst q1 q2
          injection hA3 with hA3
          injection hA3 with q1 q2
          subst q1 q2
          rw [Ju.row_get _ hjt, Nat.zero_add] at c2
          rw [Ju.row_get _ (show i < k by omega), Nat.zero_add] at c3
          have ap := HAP.out i (by omega)
          rw [← hi] at ap
          obtain ⟨x1, x2⟩ := HBD.out j hjt
          obtain ⟨y1, y2⟩ := HBD.out i (by omega)
          obtain ⟨s1, s2⟩ := HSZ.out i
          subst hA4
          have hw : IntKind.i64.wrap ((j : Int) - 1) = (i : Int) := by rw [IntWalk.i64_in _ (by omega)]; omega
          have hik : i < k := by omega
          clear hi
          generalize f j = x at *
          generalize f i = y at *
          generalize l.getD i 0 = s at *
          have hw2 : IntKind.i64.wrap (y + s) = y + s := IntWalk.i64_in _ (by omega)
          have hw3 : IntKind.i64.wrap (y + s + gap) = y + s + gap := IntWalk.i64_in _ (by omega)
          have ht : decide (x < y + s + gap) = false := by simp; omega
          go_upto_region 17 with (fail)
          refine Drawn.wp_region_from (Below.refl _ _) (by kernel_rfl) (by kernel_rfl) (by kernel_rfl) ?_
          (repeat (first | (refine Drawn.seq_skip (by rfl) ?_; (try simp only [Act.put, List.setIfInBounds_toArray, List.set_cons_zero, List.set_cons_succ])) | (refine Drawn.seq_call (o := ⟨_, .call ⟨.value _, _, _⟩, _, _, _, _⟩) (by rfl) (by intro w2 hS; go_simp; first | done | with_reducible rfl | exact ⟨rfl, rfl⟩) (by intro w2 hS; first | ((with_reducible refine (cut_any _ _).mono ?_); rintro e w' ⟨rfl, rfl⟩; exact ⟨rfl, hS⟩)) ?_; (try simp only [Act.put, List.setIfInBounds_toArray, List.set_cons_zero, List.set_cons_succ])) | (refine Drawn.seq_value (by rfl) (by intro w2 hS; obtain ⟨hc, hf⟩ := bcell hS; go_simp; first | done | with_reducible rfl | exact ⟨rfl, rfl⟩) ?_; (try simp only [Act.put, List.setIfInBounds_toArray, List.set_cons_zero, List.set_cons_succ]))))
          refine Drawn.seq_end ?_; intro w2 hS
          go_wp2
          go_roundw
          case rel => exact ⟨j + 1, by omega, by omega, by go_num, Below.after2 hW (Nat.le_refl _) hS⟩
          case measure => simp [intOf]; omega
        · obtain rfl : j = k := by omega
          have hjz : ¬ (j : Int) < (j : Int) := by omega
          obtain ⟨b2, o2, hA2, l2, c2⟩ := (H1.out.after hW).at_ (k := m) (by rw [HRL.out]; omega)
          obtain ⟨b4, o4, hA4, l4, c4⟩ := (H0.out.after hW).at_ (k := m) (by rw [HL.out]; omega)
          injection hA2 with hA2
          injection hA2 with q1 q2
          subst q1 q2
          rw [Ju.row_get _ (show m < j by omega), Nat.zero_add] at c2
          obtain ⟨x1, x2⟩ := HBD.out m (by omega)
          obtain ⟨s1, s2⟩ := HSZ.out m
          subst hA4
          have hw : IntKind.i64.wrap ((j : Int) - 1) = (m : Int) := by rw [IntWalk.i64_in _ (by omega)]; omega
          generalize f m = x at *
          generalize l.getD m 0 = s at *
          have hw2 : IntKind.i64.wrap (x + s) = x + s := IntWalk.i64_in _ (by omega)
          have hmj : m < j := by omega
          go_upto_region 19 with (fail)
          refine Drawn.wp_region_from (Below.refl _ _) (by kernel_rfl) (by kernel_rfl) (by kernel_rfl) ?_
          (repeat (first | (refine Drawn.seq_skip (by rfl) ?_; (try simp only [Act.put, List.setIfInBounds_toArray, List.set_cons_zero, List.set_cons_succ])) | (refine Drawn.seq_call (o := ⟨_, .call ⟨.value _, _, _⟩, _, _, _, _⟩) (by rfl) (by intro w2 hS; go_simp; first | done | with_reducible rfl | exact ⟨rfl, rfl⟩) (by intro w2 hS; first | ((with_reducible refine (cut_any _ _).mono ?_); rintro e w' ⟨rfl, rfl⟩; exact ⟨rfl, hS⟩)) ?_; (try simp only [Act.put, List.setIfInBounds_toArray, List.set_cons_zero, List.set_cons_succ])) | (refine Drawn.seq_value (by rfl) (by intro w2 hS; obtain ⟨hc, hf⟩ := bcell hS; go_simp; first | done | with_reducible rfl | exact ⟨rfl, rfl⟩) ?_; (try simp only [Act.put, List.setIfInBounds_toArray, List.set_cons_zero, List.set_cons_succ]))))
          refine Drawn.seq_end ?_; intro w2 hS
          replace hW := Below.after2 hW (Nat.le_refl _) hS
          replace hB := Below.after2 hB (Nat.le_refl _) hW
          obtain ⟨b2, o2, hA2, l5, c5⟩ := (H1.out.after hW).at_ (k := 0) (by rw [HRL.out]; omega)
          injection hA2 with hA2
          injection hA2 with q1 q2
          subst q1 q2
          rw [Ju.row_get _ (show 0 < j by omega)] at c5
          simp only [Nat.add_zero] at c5
          clear hS c2 c4 l2 l4
          obtain ⟨z1, z2⟩ := HBD.out 0 (by omega)
          generalize f 0 = y at *
          go_upto_region 21 with (go_at_call 17; refine (long_any _ l j c gap _ ((HI.out.after hB)) HL.out HC.out (by omega)).mono ?_; rintro e w' ⟨rfl, rfl⟩)
          have hend := HEN.out
          have hbo := HB2.out
          have hwi := HWI.out
          generalize Li.long gap l = lo at *
          clear HAP HEN HB2 HWI HBD HSZ HSM H1 H0
          by_cases hf : lo ≤ room
          · obtain ⟨v1, v2⟩ := hwi hf
            have t1 : decide (y < 0) = false := by simp; omega
            have t2 : decide (room < x + s) = false := by simp; omega
            clear hwi
            by_cases h3 : kind = 3
            · replace hbo := hbo h3 hf
              clear hend
              subst h3
              by_cases h2 : 2 ≤ j
              · obtain ⟨u1, u2⟩ := hbo h2
                clear hbo
                subst u1
                have t3 : decide ((j : Int) < 2) = false := by simp; omega
                have t4 : (x + s == room) = true := by simp [u2]
                clear u2
                go_wp2
                go_ret
                exact ⟨rfl, hB⟩
              · have h2' : (j : Int) < 2 := by omega
                clear hbo
                go_wp2
                go_ret
                exact ⟨rfl, hB⟩
            · clear hbo
              have g3 : (kind == 3) = false := by simp [h3]
              by_cases h1 : kind = 1
              · have u2 := hend h1
                have t4 : (x + s == room) = true := by simp [u2]
                clear hend u2
                subst h1
                go_wp2
                go_ret
                exact ⟨rfl, hB⟩
              · have g1' : (kind == 1) = false := by simp [h1]
                clear hend
                go_wp2
                go_ret
                exact ⟨rfl, hB⟩
          · clear hwi hbo
            have t0 : decide (lo ≤ room) = false := by simp; omega
            by_cases h1 : kind = 1
            · have u2 := hend h1
              have t4 : (x + s == room) = true := by simp [u2]
              clear hend u2
              subst h1
              go_wp2
              go_ret
              exact ⟨rfl, hB⟩
            · have g1' : (kind == 1) = false := by simp [h1]
              clear hend
              go_wp2
              go_ret
              exact ⟨rfl, hB⟩

theorem japart_walk (kind : Int) (a1 : Option Addr) (len1 cap1 : Nat) (z1 : List Int) (room gap : Int) (w : World) (h1 : Row w a1 len1 cap1 z1) :
    Calls Try.prog 4 #[.int .i64 kind, .slice a1 len1 cap1, .int .i64 room, .int .i64 gap] w fun e w' => e = .returned (.bool true) ∧ Below w.heap.size w w' := by
  have k1 := h1.cap
  obtain ⟨l, rfl, hl, _, _, _⟩ := ints_of_row h1
  have m1 := hl.1
  simp only [maxLen] at m1
  by_cases h : 64 < l.length ∨ l.length = 0 ∨ room < 0 ∨ 1073741824 < room ∨ gap < 0 ∨ 1048576 < gap
  · exact japart_out a1 _ cap1 kind room gap w (by omega) h
  · exact japart_core a1 l _ cap1 kind room gap w hl rfl k1 (by omega) (by omega) (by omega) (by omega) (by omega) (by omega)

end Go.Proofs.Yteopkakjnjfheaa.Fix
