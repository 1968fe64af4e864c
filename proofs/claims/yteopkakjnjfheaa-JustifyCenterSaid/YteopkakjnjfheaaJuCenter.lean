/- JustifyCenter: it returns true, and leaves all that was there as it was. Written by wip/tools/genjulaws.py. -/
import Derived.Test.YteopkakjnjfheaaJuLaws
import Derived.Test.YteopkakjnjfheaaJuLawMath
namespace Go.Proofs.Yteopkakjnjfheaa.Fix
open Go.ChangeShapes Go.WideShapes Go.ChangeAt Go.RowKit
set_option linter.unusedVariables false

set_option maxRecDepth 100000 in
theorem jcenter_out (A : Option Addr) (n c : Nat) (room gap sz : Int) (w : World) (hx : n ≤ 9223372036854775807) (h : n < 1 ∨ 64 < n ∨ room < 0 ∨ 1073741824 < room ∨ gap < 0 ∨ 1048576 < gap ∨ sz < 0 ∨ 1048576 < sz) :
    Calls Try.prog 6 #[.slice A n c, .int .i64 room, .int .i64 gap, .int .i64 sz] w fun e w' => e = .returned (.bool true) ∧ Below w.heap.size w w' := by
  by_cases h0 : n < 1
  · clear h
    go_enter Try.func6, Try.ntmps6
    go_wp2_with (go_at_call 9; with_reducible refine (jworks_any _).mono ?_; rintro e w1 ⟨rfl, hB⟩)
    go_ret
    exact ⟨rfl, hB⟩
  · have e0 : decide ((n : Int) < 1) = false := by simp; omega
    by_cases h1 : 64 < n
    · clear h
      go_enter Try.func6, Try.ntmps6
      go_wp2_with (go_at_call 9; with_reducible refine (jworks_any _).mono ?_; rintro e w1 ⟨rfl, hB⟩)
      go_ret
      exact ⟨rfl, hB⟩
    · have e1 : decide (64 < (n : Int)) = false := by simp; omega
      by_cases h2 : room < 0
      · clear h
        go_enter Try.func6, Try.ntmps6
        go_wp2_with (go_at_call 9; with_reducible refine (jworks_any _).mono ?_; rintro e w1 ⟨rfl, hB⟩)
        go_ret
        exact ⟨rfl, hB⟩
      · have e2 : decide (room < 0) = false := by simp; omega
        by_cases h3 : 1073741824 < room
        · clear h
          go_enter Try.func6, Try.ntmps6
          go_wp2_with (go_at_call 9; with_reducible refine (jworks_any _).mono ?_; rintro e w1 ⟨rfl, hB⟩)
          go_ret
          exact ⟨rfl, hB⟩
        · have e3 : decide (1073741824 < room) = false := by simp; omega
          by_cases h4 : gap < 0
          · clear h
            go_enter Try.func6, Try.ntmps6
            go_wp2_with (go_at_call 9; with_reducible refine (jworks_any _).mono ?_; rintro e w1 ⟨rfl, hB⟩)
            go_ret
            exact ⟨rfl, hB⟩
          · have e4 : decide (gap < 0) = false := by simp; omega
            by_cases h5 : 1048576 < gap
            · clear h
              go_enter Try.func6, Try.ntmps6
              go_wp2_with (go_at_call 9; with_reducible refine (jworks_any _).mono ?_; rintro e w1 ⟨rfl, hB⟩)
              go_ret
              exact ⟨rfl, hB⟩
            · have e5 : decide (1048576 < gap) = false := by simp; omega
              by_cases h6 : sz < 0
              · clear h
                go_enter Try.func6, Try.ntmps6
                go_wp2_with (go_at_call 9; with_reducible refine (jworks_any _).mono ?_; rintro e w1 ⟨rfl, hB⟩)
                go_ret
                exact ⟨rfl, hB⟩
              · have e6 : decide (sz < 0) = false := by simp; omega
                have h7 : 1048576 < sz := by omega
                clear h
                go_enter Try.func6, Try.ntmps6
                go_wp2_with (go_at_call 9; with_reducible refine (jworks_any _).mono ?_; rintro e w1 ⟨rfl, hB⟩)
                go_ret
                exact ⟨rfl, hB⟩

set_option maxRecDepth 100000 in
set_option maxHeartbeats 4000000 in
theorem jcenter_core (A : Option Addr) (l : List Int) (n c : Nat) (room gap sz : Int) (w : World) (hI : Ints w A l) (hl : l.length = n) (hc : n ≤ c) (n1 : 1 ≤ n) (n2 : n ≤ 64) (r0 : 0 ≤ room) (r1 : room ≤ 1073741824) (g0 : 0 ≤ gap) (g1 : gap ≤ 1048576) (z0 : 0 ≤ sz) (z1 : sz ≤ 1048576) :
    Calls Try.prog 6 #[.slice A n c, .int .i64 room, .int .i64 gap, .int .i64 sz] w fun e w' => e = .returned (.bool true) ∧ Below w.heap.size w w' := by
  have e0 : decide ((n : Int) < 1) = false := by simp; omega
  have e1 : decide (64 < (n : Int)) = false := by simp; omega
  have e2 : decide (room < 0) = false := by simp; omega
  have e3 : decide (1073741824 < room) = false := by simp; omega
  have e4 : decide (gap < 0) = false := by simp; omega
  have e5 : decide (1048576 < gap) = false := by simp; omega
  have e6 : decide (sz < 0) = false := by simp; omega
  have e7 : decide (1048576 < sz) = false := by simp; omega
  have HI := Lib.hid hI
  have HL := Lib.hid hl
  have HC := Lib.hid hc
  have HRL : Hid (∀ f m, (Ju.row f m).length = m) := Lib.hid (fun f m => Ju.row_length f m)
  clear hI hl hc
  go_enter Try.func6, Try.ntmps6
  go_wp2_with (go_at_call 9; with_reducible refine (jworks_any _).mono ?_; rintro e w1 ⟨rfl, hB⟩)
  go_loopw [10] (fun i wr => ∃ k : Nat, k ≤ n ∧ i = .int .i64 k ∧ w1 = wr ∧ Hid (∀ j, j < k → 0 ≤ l.getD j 0 ∧ l.getD j 0 ≤ 1048576)) (fun i _ => n - (intOf i).toNat)
  case atStart => exact ⟨0, by omega, rfl, rfl, Lib.hid (fun j hj => absurd hj (by omega))⟩
  case round =>
    obtain ⟨k, hk, rfl, rfl, HA⟩ := hrel
    by_cases hlt : k < n
    · obtain ⟨b0, o0, hA0, l0, c0⟩ := (HI.out.after hB).at_ (k := k) (by rw [HL.out]; exact hlt)
      have hN : 0 ≤ l.getD k 0 → l.getD k 0 ≤ 1048576 → Hid (∀ j, j < k + 1 → 0 ≤ l.getD j 0 ∧ l.getD j 0 ≤ 1048576) := fun h1 h2 => Lib.hid (fun j hj => by
        rcases Nat.lt_or_ge j k with h' | h'
        · exact HA.out j h'
        · obtain rfl : j = k := by omega
          exact ⟨h1, h2⟩)
      generalize l.getD k 0 = z at *
      subst hA0
      by_cases hz1 : z < 0
      · go_wp2
        go_ret
        exact ⟨rfl, hB⟩
      · have z1 : decide (z < 0) = false := by simp; omega
        by_cases hz2 : 1048576 < z
        · go_wp2
          go_ret
          exact ⟨rfl, hB⟩
        · have z2 : decide (1048576 < z) = false := by simp; omega
          replace hN := hN (by omega) (by omega)
          go_wp2
          go_roundw
          case rel => exact ⟨k + 1, by omega, by go_num, trivial, hN⟩
          case measure => simp [intOf]; omega
    · obtain rfl : k = n := by omega
      have hltz : ¬ (k : Int) < (k : Int) := by omega
      have HSM : Hid (Ju.Small l) := Lib.hid (fun j => by
        rcases Nat.lt_or_ge j k with h' | h'
        · exact HA.out j h'
        · rw [List.getD_eq_getElem?_getD, List.getElem?_eq_none (by rw [HL.out]; exact h')]; simp)
      clear HA
      obtain ⟨m, m1, m2⟩ : ∃ m, m + 1 ≤ k ∧ k ≤ m + 1 := ⟨k - 1, by omega, by omega⟩
      have hHM : l.length = m + 1 := by rw [HL.out]; omega
      have hK64 : l.length ≤ 64 := by rw [HL.out]; omega
      have HCE := Lib.hid (Ju.starts_center HSM.out g0 g1 hK64 r0 r1 hHM)
      have HBD : Hid (∀ j, j < k → -134217728 ≤ Ju.starts 2 room gap l j ∧ Ju.starts 2 room gap l j ≤ 1207959552) := Lib.hid (fun j hj => Ju.starts_bd HSM.out g0 g1 hK64 r0 r1 (by rw [HL.out]; exact hj))
      have HSZ := Lib.hid (fun j => HSM.out j)
      have hac := Ju.across_plain (room := room) z0 z1 r0 r1
      obtain ⟨ha2, ha1, ha3⟩ := hac
      have HA1 := Lib.hid ha1
      have HA2 := Lib.hid ha2
      have HA3 := Lib.hid ha3
      obtain ⟨v, v1, v2⟩ : ∃ v : Int, 2 * v ≤ room - sz ∧ room - sz ≤ 2 * v + 1 := ⟨(room - sz) / 2, by omega, by omega⟩
      have HV : Hid ((room - sz) / 2 = v) := Lib.hid (by omega)
      clear hHM hK64 ha1 ha2 ha3
      go_upto_region 12 with (go_at_call 10; refine (starts_any A l k c 2 room gap _ (HI.out.after hB) HL.out HC.out (by omega)).mono ?_; rintro e w2 ⟨⟨b1, rfl, hI1⟩, hb⟩)
      replace hB := Below.after2 hB (Nat.le_refl _) hb
      have H1 := Lib.hid hI1
      have H0 := Lib.hid (HI.out.after hB)
      clear hI1 hb
      generalize Ju.starts 2 room gap l = f at *
      obtain ⟨b2, o2, hA2, l2, c2⟩ := H1.out.at_ (k := m) (by rw [HRL.out]; omega)
      obtain ⟨b3, o3, hA3, l3, c3⟩ := H1.out.at_ (k := 0) (by rw [HRL.out]; omega)
      obtain ⟨b4, o4, hA4, l4, c4⟩ := H0.out.at_ (k := m) (by rw [HL.out]; omega)
      injection hA2 with hA2
      injection hA2 with q1 q2
      subst q1 q2
      injection hA3 with hA3
      injection hA3 with q1 q2
      subst q1 q2
      rw [Ju.row_get _ (show m < k by omega), Nat.zero_add] at c2
      rw [Ju.row_get _ (show 0 < k by omega), Nat.zero_add] at c3
      obtain ⟨x1, x2⟩ := HBD.out m (by omega)
      obtain ⟨y1, y2⟩ := HBD.out 0 (by omega)
      obtain ⟨s1, s2⟩ := HSZ.out m
      obtain ⟨d1, d2⟩ := HCE.out
      subst hA4
      have hw : IntKind.i64.wrap ((k : Int) - 1) = (m : Int) := by rw [IntWalk.i64_in _ (by omega)]; omega
      clear HCE HBD HSZ
      generalize f m = x at *
      generalize f 0 = y at *
      generalize l.getD m 0 = s at *
      have hw2 : IntKind.i64.wrap (room - x) = room - x := IntWalk.i64_in _ (by omega)
      have hw3 : IntKind.i64.wrap (room - x - s) = room - x - s := IntWalk.i64_in _ (by omega)
      have hmk : m < k := by omega
      go_upto_region 13 with (fail)
      refine Drawn.wp_region_from (Below.refl _ _) (by kernel_rfl) (by kernel_rfl) (by kernel_rfl) ?_
      (repeat (first | (refine Drawn.seq_skip (by rfl) ?_; (try simp only [Act.put, List.setIfInBounds_toArray, List.set_cons_zero, List.set_cons_succ])) | (refine Drawn.seq_call (o := ⟨_, .call ⟨.value _, _, _⟩, _, _, _, _⟩) (by rfl) (by intro w2 hS; go_simp; first | done | with_reducible rfl | exact ⟨rfl, rfl⟩) (by intro w2 hS; first | ((with_reducible refine (cut_any _ _).mono ?_); rintro e w' ⟨rfl, rfl⟩; exact ⟨rfl, hS⟩)) ?_; (try simp only [Act.put, List.setIfInBounds_toArray, List.set_cons_zero, List.set_cons_succ])) | (refine Drawn.seq_value (by rfl) (by intro w2 hS; obtain ⟨hc, hf⟩ := bcell hS; go_simp; first | done | with_reducible rfl | exact ⟨rfl, rfl⟩) ?_; (try simp only [Act.put, List.setIfInBounds_toArray, List.set_cons_zero, List.set_cons_succ]))))
      refine Drawn.seq_end ?_; intro w2 hS
      replace hB := Below.after2 hB (Nat.le_refl _) hS
      clear hS c2 c3 c4 l2 l3 l4 hw hw2 hw3
      have hw4 : IntKind.i64.wrap (room - x - s - y) = room - x - s - y := IntWalk.i64_in _ (by omega)
      have hw5 : IntKind.i64.wrap (room - sz) = room - sz := IntWalk.i64_in _ (by omega)
      have hw6 : IntKind.i64.wrap (room - sz - v) = room - sz - v := IntWalk.i64_in _ (by omega)
      have hw7 : IntKind.i64.wrap (room - sz - v - v) = room - sz - v - v := IntWalk.i64_in _ (by omega)
      have t1 : 0 ≤ room - sz - v - v := by omega
      have t2 : room - sz - v - v ≤ 1 := by omega
      go_upto_region 16 with (first
        | (go_at_call 15; (with_reducible refine (jacross_any 2 sz room _).mono ?_); rw [HA2.out, HV.out]; rintro e w7 ⟨rfl, rfl⟩))
      go_wp2_with (first
        | (go_at_call 15; (with_reducible refine (jacross_any 1 sz room _).mono ?_); rw [HA1.out]; rintro e w7 ⟨rfl, rfl⟩)
        | (go_at_call 15; (with_reducible refine (jacross_any 3 sz room _).mono ?_); rw [HA3.out]; rintro e w7 ⟨rfl, rfl⟩))
      go_ret
      exact ⟨rfl, hB⟩

theorem jcenter_walk (a0 : Option Addr) (len0 cap0 : Nat) (z0 : List Int) (room gap sz : Int) (w : World) (h0 : Row w a0 len0 cap0 z0) :
    Calls Try.prog 6 #[.slice a0 len0 cap0, .int .i64 room, .int .i64 gap, .int .i64 sz] w fun e w' => e = .returned (.bool true) ∧ Below w.heap.size w w' := by
  have k1 := h0.cap
  obtain ⟨l, rfl, hl, _, _, _⟩ := ints_of_row h0
  have m1 := hl.1
  simp only [maxLen] at m1
  by_cases h : l.length < 1 ∨ 64 < l.length ∨ room < 0 ∨ 1073741824 < room ∨ gap < 0 ∨ 1048576 < gap ∨ sz < 0 ∨ 1048576 < sz
  · exact jcenter_out a0 _ cap0 room gap sz w (by omega) h
  · exact jcenter_core a0 l _ cap0 room gap sz w hl rfl k1 (by omega) (by omega) (by omega) (by omega) (by omega) (by omega) (by omega) (by omega)

end Go.Proofs.Yteopkakjnjfheaa.Fix
