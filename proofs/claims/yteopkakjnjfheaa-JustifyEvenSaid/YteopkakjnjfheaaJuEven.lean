/- JustifyEven: it returns true, and leaves all that was there as it was. Written by wip/tools/genjulaws.py. -/
import Derived.Test.YteopkakjnjfheaaJuLaws
import Derived.Test.YteopkakjnjfheaaJuMoreMath
namespace Go.Proofs.Yteopkakjnjfheaa.Fix
open Go.ChangeShapes Go.WideShapes Go.ChangeAt Go.RowKit
set_option linter.unusedVariables false

set_option maxRecDepth 100000 in
theorem jeven_out (A : Option Addr) (n c : Nat) (room : Int) (w : World) (hx : n ≤ 9223372036854775807) (h : n < 1 ∨ 64 < n ∨ room < 0 ∨ 1073741824 < room) :
    Calls Try.prog 7 #[.slice A n c, .int .i64 room] w fun e w' => e = .returned (.bool true) ∧ Below w.heap.size w w' := by
  by_cases h0 : n < 1
  · clear h
    go_enter Try.func7, Try.ntmps7
    go_wp2_with (go_at_call 9; with_reducible refine (jworks_any _).mono ?_; rintro e w1 ⟨rfl, hB⟩)
    go_ret
    exact ⟨rfl, hB⟩
  · have e0 : decide ((n : Int) < 1) = false := by simp; omega
    by_cases h1 : 64 < n
    · clear h
      go_enter Try.func7, Try.ntmps7
      go_wp2_with (go_at_call 9; with_reducible refine (jworks_any _).mono ?_; rintro e w1 ⟨rfl, hB⟩)
      go_ret
      exact ⟨rfl, hB⟩
    · have e1 : decide (64 < (n : Int)) = false := by simp; omega
      by_cases h2 : room < 0
      · clear h
        go_enter Try.func7, Try.ntmps7
        go_wp2_with (go_at_call 9; with_reducible refine (jworks_any _).mono ?_; rintro e w1 ⟨rfl, hB⟩)
        go_ret
        exact ⟨rfl, hB⟩
      · have e2 : decide (room < 0) = false := by simp; omega
        have h3 : 1073741824 < room := by omega
        clear h
        go_enter Try.func7, Try.ntmps7
        go_wp2_with (go_at_call 9; with_reducible refine (jworks_any _).mono ?_; rintro e w1 ⟨rfl, hB⟩)
        go_ret
        exact ⟨rfl, hB⟩

set_option maxRecDepth 100000 in
set_option maxHeartbeats 4000000 in
theorem jeven_core (A : Option Addr) (l : List Int) (n c : Nat) (room : Int) (w : World) (hI : Ints w A l) (hl : l.length = n) (hc : n ≤ c) (n1 : 1 ≤ n) (n2 : n ≤ 64) (r0 : 0 ≤ room) (r1 : room ≤ 1073741824) :
    Calls Try.prog 7 #[.slice A n c, .int .i64 room] w fun e w' => e = .returned (.bool true) ∧ Below w.heap.size w w' := by
  have e0 : decide ((n : Int) < 1) = false := by simp; omega
  have e1 : decide (64 < (n : Int)) = false := by simp; omega
  have e2 : decide (room < 0) = false := by simp; omega
  have e3 : decide (1073741824 < room) = false := by simp; omega
  have HI := Lib.hid hI
  have HL := Lib.hid hl
  have HC := Lib.hid hc
  have HRL : Hid (∀ f m, (Ju.row f m).length = m) := Lib.hid (fun f m => Ju.row_length f m)
  clear hI hl hc
  go_enter Try.func7, Try.ntmps7
  go_wp2_with (go_at_call 9; with_reducible refine (jworks_any _).mono ?_; rintro e w1 ⟨rfl, hB⟩)
  go_loopw [6] (fun i wr => ∃ k : Nat, k ≤ n ∧ i = .int .i64 k ∧ w1 = wr ∧ Hid (∀ j, j < k → 0 ≤ l.getD j 0 ∧ l.getD j 0 ≤ 1048576)) (fun i _ => n - (intOf i).toNat)
  case atStart => exact ⟨0, by omega, rfl, rfl, Lib.hid (fun j hj => absurd hj (by omega))⟩
  case round =>
    obtain ⟨k, hk, rfl, rfl, HA⟩ := hrel
    by_cases hlt : k < n
    · obtain ⟨b0, o0, hA0, l0, c0⟩ := (HI.out.after hB).at_ (k := k) (by rw [HL.out]; exact hlt)
      have hN : 0 ≤ l.getD k 0 → l.getD k 0 ≤ 1048576 → Hid (∀ j, j < k + 1 → 0 ≤ l.getD j 0 ∧ l.getD j 0 ≤ 1048576) := fun h1 h2 => Lib.hid (fun j hj => by
        rcases Nat.lt_or_ge j k with h' | h'
        · exact HA.out j h'
        · obtain rfl : j = k := by omega
          exact ⟨h1, h2⟩)
      generalize l.getD k 0 = z at *
      subst hA0
      by_cases hz1 : z < 0
      · go_wp2
        go_ret
        exact ⟨rfl, hB⟩
      · have z1 : decide (z < 0) = false := by simp; omega
        by_cases hz2 : 1048576 < z
        · go_wp2
          go_ret
          exact ⟨rfl, hB⟩
        · have z2 : decide (1048576 < z) = false := by simp; omega
          replace hN := hN (by omega) (by omega)
          go_wp2
          go_roundw
          case rel => exact ⟨k + 1, by omega, by go_num, trivial, hN⟩
          case measure => simp [intOf]; omega
    · obtain rfl : k = n := by omega
      have hltz : ¬ (k : Int) < (k : Int) := by omega
      have HSM : Hid (Ju.Small l) := Lib.hid (fun j => by
        rcases Nat.lt_or_ge j k with h' | h'
        · exact HA.out j h'
        · rw [List.getD_eq_getElem?_getD, List.getElem?_eq_none (by rw [HL.out]; exact h')]; simp)
      clear HA
      have hK64 : l.length ≤ 64 := by rw [HL.out]; omega
      have hlb := Ju.long_bd (gap := 0) HSM.out (by omega) (by omega) hK64
      obtain ⟨lo1, lo2⟩ := hlb
      by_cases hf : Li.long 0 l ≤ room
      · have hj0 := Ju.starts_even (k := 0) HSM.out hK64 r0 r1 (by rw [HL.out]; omega) hf
        have hjs := fun i => (Ju.starts_even (k := i) HSM.out hK64 r0 r1 (by rw [HL.out]; omega) hf).2.2
        have hbf : ∀ j, j < k → -134217728 ≤ Ju.starts 5 room 0 l j ∧ Ju.starts 5 room 0 l j ≤ 1207959552 := fun j hj => Ju.starts_bd HSM.out (by omega) (by omega) hK64 r0 r1 (by rw [HL.out]; exact hj)
        have hbg : ∀ j, j < k → -134217728 ≤ Ju.starts 4 room 0 l j ∧ Ju.starts 4 room 0 l j ≤ 1207959552 := fun j hj => Ju.starts_bd HSM.out (by omega) (by omega) hK64 r0 r1 (by rw [HL.out]; exact hj)
        have HSZ := Lib.hid (fun j => HSM.out j)
        rw [HL.out] at hj0
        obtain ⟨ha, hb', _⟩ := hj0
        have hlf : 0 ≤ room - Li.long 0 l := by omega
        rw [← Int.tdiv_eq_ediv_of_nonneg hlf] at ha hb'
        have hjs' : ∀ i, i + 1 < k → (room - Li.long 0 l).tdiv ((k : Int) + 1) ≤ Ju.starts 5 room 0 l (i + 1) - Ju.starts 5 room 0 l i - l.getD i 0 ∧ Ju.starts 5 room 0 l (i + 1) - Ju.starts 5 room 0 l i - l.getD i 0 ≤ (room - Li.long 0 l).tdiv ((k : Int) + 1) + 1 ∧
            (room - Li.long 0 l).tdiv (k : Int) ≤ Ju.starts 4 room 0 l (i + 1) - Ju.starts 4 room 0 l i - l.getD i 0 ∧ Ju.starts 4 room 0 l (i + 1) - Ju.starts 4 room 0 l i - l.getD i 0 ≤ (room - Li.long 0 l).tdiv (k : Int) + 1 := by
          intro i hi
          have := hjs i
          rw [HL.out] at this
          rw [Int.tdiv_eq_ediv_of_nonneg hlf, Int.tdiv_eq_ediv_of_nonneg hlf]
          exact this hi
        have tb : ∀ q : Int, 1 ≤ q → 0 ≤ (room - Li.long 0 l).tdiv q ∧ (room - Li.long 0 l).tdiv q ≤ 1073741824 := fun q hq => by
          rw [Int.tdiv_eq_ediv_of_nonneg hlf]
          exact ⟨Int.ediv_nonneg hlf (by omega), Int.ediv_le_of_le_mul (by omega) (by have : (1073741824 : Int) * 1 ≤ 1073741824 * q := Int.mul_le_mul_of_nonneg_left hq (by omega); omega)⟩
        obtain ⟨q1, q2⟩ := tb ((k : Int) + 1) (by omega)
        obtain ⟨q3, q4⟩ := tb (k : Int) (by omega)
        obtain ⟨q5, q6⟩ := tb (2 * (k : Int)) (by omega)
        have HJ := Lib.hid hjs'
        have HA0 := Lib.hid ha
        have HB0 := Lib.hid hb'
        have HBF := Lib.hid hbf
        have HBG := Lib.hid hbg
        have HLF := Lib.hid hlf
        clear hjs hjs' ha hb' hbf hbg tb hK64 HSM hlf
        have hlt0 : decide (room - Li.long 0 l < 0) = false := by simp; omega
        go_upto_region 14 with (go_at_call 17; (with_reducible refine (long_any _ l k c 0 _ ((HI.out.after hB)) HL.out HC.out (by omega)).mono ?_); rintro e w' ⟨rfl, rfl⟩)
        clear hlt0 hf
        have hl1 := HLF.out
        have hl2 : room - Li.long 0 l ≤ 1073741824 := by omega
        generalize room - Li.long 0 l = lf at *
        go_upto_region 15 with (go_at_call 10; (with_reducible refine (starts_any A l k c 5 room 0 _ (HI.out.after hB) HL.out HC.out (by omega)).mono ?_); rintro e w2 ⟨⟨b1, rfl, hI1⟩, hb⟩)
        replace hB := Below.after2 hB (Nat.le_refl _) hb
        have H1 := Lib.hid hI1
        clear hI1 hb
        go_upto_region 16 with (go_at_call 10; (with_reducible refine (starts_any A l k c 4 room 0 _ (HI.out.after hB) HL.out HC.out (by omega)).mono ?_); rintro e w6 ⟨⟨b2, rfl, hI2⟩, hb⟩)
        replace hB := Below.after2 hB (Nat.le_refl _) hb
        replace H1 := Lib.hid (H1.out.after hb)
        have H2 := Lib.hid hI2
        have H0 := Lib.hid (HI.out.after hB)
        clear hI2 hb
        generalize Ju.starts 5 room 0 l = f at *
        generalize Ju.starts 4 room 0 l = g at *
        go_wp2
        go_loopw [11] (fun i wr => ∃ j : Nat, j ≤ k ∧ i = .int .i64 j ∧ Below w6.heap.size w6 wr) (fun i _ => k - (intOf i).toNat)
        case atStart => exact ⟨0, by omega, rfl, Below.refl _ _⟩
        case round =>
          obtain ⟨j, hj, rfl, hW⟩ := hrel
          by_cases hjt : j < k
          · obtain ⟨b5, o5, hA5, l5, c5⟩ := (H1.out.after hW).at_ (k := j) (by rw [HRL.out]; exact hjt)
            obtain ⟨b6, o6, hA6, l6, c6⟩ := (H2.out.after hW).at_ (k := j) (by rw [HRL.out]; exact hjt)
            injection hA5 with hA5
            injection hA5 with q1 q2
            subst q1 q2
            injection hA6 with hA6
            injection hA6 with q1 q2
            subst q1 q2
            rw [Ju.row_get _ hjt, Nat.zero_add] at c5
            rw [Ju.row_get _ hjt, Nat.zero_add] at c6
            rcases Nat.eq_zero_or_pos j with rfl | hj0
            · rw [HA0.out] at c5
              rw [HB0.out] at c6
              go_wp2
              go_roundw
              case rel => exact ⟨1, by omega, by go_num, hW⟩
              case measure => simp [intOf]; omega
            · obtain ⟨i, hi⟩ : ∃ i, j = i + 1 := ⟨j - 1, by omega⟩
              obtain ⟨b7, o7, hA7, l7, c7⟩ := (H1.out.after hW).at_ (k := i) (by rw [HRL.out]; omega)
              obtain ⟨b8, o8, hA8, l8, c8⟩ := (H2.out.after hW).at_ (k := i) (by rw [HRL.out]; omega)
              obtain ⟨b4, o4, hA4, l4, c4⟩ := (H0.out.after hW).at_ (k := i) (by rw [HL.out]; omega)
              injection hA7 with hA7
              injection hA7 with q1 q2
              subst q1 q2
              injection hA8 with hA8
              injection hA8 with q1 q2
              subst q1 q2
              rw [Ju.row_get _ (show i < k by omega), Nat.zero_add] at c7
              rw [Ju.row_get _ (show i < k by omega), Nat.zero_add] at c8
              have hjj := HJ.out i (by omega)
              rw [← hi] at hjj
              obtain ⟨v1, v2, v3, v4⟩ := hjj
              obtain ⟨x1, x2⟩ := HBF.out j hjt
              obtain ⟨x3, x4⟩ := HBF.out i (by omega)
              obtain ⟨x5, x6⟩ := HBG.out j hjt
              obtain ⟨x7, x8⟩ := HBG.out i (by omega)
              obtain ⟨s1, s2⟩ := HSZ.out i
              subst hA4
              have hw : IntKind.i64.wrap ((j : Int) - 1) = (i : Int) := by rw [IntWalk.i64_in _ (by omega)]; omega
              have hik : i < k := by omega
              have hjz : ((j : Int) == 0) = false := by simp; omega
              have hjp : (0 : Int) < (j : Int) := by omega
              clear hi
              generalize f j = fj at *
              generalize f i = fi at *
              generalize g j = gj at *
              generalize g i = gi at *
              generalize l.getD i 0 = s at *
              have hw1 : IntKind.i64.wrap (fj - fi) = fj - fi := IntWalk.i64_in _ (by omega)
              have hw2 : IntKind.i64.wrap (fj - fi - s) = fj - fi - s := IntWalk.i64_in _ (by omega)
              have hw3 : IntKind.i64.wrap (gj - gi) = gj - gi := IntWalk.i64_in _ (by omega)
              have hw4 : IntKind.i64.wrap (gj - gi - s) = gj - gi - s := IntWalk.i64_in _ (by omega)
              go_upto_region 23 with (fail)
              refine Drawn.wp_region_from (Below.refl _ _) (by kernel_rfl) (by kernel_rfl) (by kernel_rfl) ?_
              (repeat (first | (refine Drawn.seq_skip (by rfl) ?_; (try simp only [Act.put, List.setIfInBounds_toArray, List.set_cons_zero, List.set_cons_succ])) | (refine Drawn.seq_call (o := ⟨_, .call ⟨.value _, _, _⟩, _, _, _, _⟩) (by rfl) (by intro w2 hS; go_simp; first | done | with_reducible rfl | exact ⟨rfl, rfl⟩) (by intro w2 hS; first | ((with_reducible refine (cut_any _ _).mono ?_); rintro e w' ⟨rfl, rfl⟩; exact ⟨rfl, hS⟩)) ?_; (try simp only [Act.put, List.setIfInBounds_toArray, List.set_cons_zero, List.set_cons_succ])) | (refine Drawn.seq_value (by rfl) (by intro w2 hS; obtain ⟨hc, hf⟩ := bcell hS; go_simp; first | done | with_reducible rfl | exact ⟨rfl, rfl⟩) ?_; (try simp only [Act.put, List.setIfInBounds_toArray, List.set_cons_zero, List.set_cons_succ]))))
              refine Drawn.seq_end ?_; intro w2 hS
              replace hW := Below.after2 hW (Nat.le_refl _) hS
              obtain ⟨hc, _⟩ := bcell hS
              have hz := hS.size
              replace c4 := (hc _ _ l4).trans c4
              replace c6 := (hc _ _ l6).trans c6
              replace c8 := (hc _ _ l8).trans c8
              replace l4 := Nat.lt_of_lt_of_le l4 hz
              replace l6 := Nat.lt_of_lt_of_le l6 hz
              replace l8 := Nat.lt_of_lt_of_le l8 hz
              clear hc hz hS c5 c7 l5 l7
              go_upto_region 24 with (fail)
              refine Drawn.wp_region_from (Below.refl _ _) (by kernel_rfl) (by kernel_rfl) (by kernel_rfl) ?_
              (repeat (first | (refine Drawn.seq_skip (by rfl) ?_; (try simp only [Act.put, List.setIfInBounds_toArray, List.set_cons_zero, List.set_cons_succ])) | (refine Drawn.seq_call (o := ⟨_, .call ⟨.value _, _, _⟩, _, _, _, _⟩) (by rfl) (by intro w2 hS; go_simp; first | done | with_reducible rfl | exact ⟨rfl, rfl⟩) (by intro w2 hS; first | ((with_reducible refine (cut_any _ _).mono ?_); rintro e w' ⟨rfl, rfl⟩; exact ⟨rfl, hS⟩)) ?_; (try simp only [Act.put, List.setIfInBounds_toArray, List.set_cons_zero, List.set_cons_succ])) | (refine Drawn.seq_value (by rfl) (by intro w2 hS; obtain ⟨hc, hf⟩ := bcell hS; go_simp; first | done | with_reducible rfl | exact ⟨rfl, rfl⟩) ?_; (try simp only [Act.put, List.setIfInBounds_toArray, List.set_cons_zero, List.set_cons_succ]))))
              refine Drawn.seq_end ?_; intro w2 hS
              replace hW := Below.after2 hW (Nat.le_refl _) hS
              clear hS c4 c6 c8 l4 l6 l8
              generalize fj - fi - s = x at *
              generalize gj - gi - s = y at *
              have t1 : decide (x < lf.tdiv ((k : Int) + 1)) = false := by simp; omega
              have t2 : decide (lf.tdiv ((k : Int) + 1) + 1 < x) = false := by simp; omega
              have t3 : decide (y < lf.tdiv (k : Int)) = false := by simp; omega
              have t4 : decide (lf.tdiv (k : Int) + 1 < y) = false := by simp; omega
              clear hw hw1 hw2 hw3 hw4
              go_wp2
              go_roundw
              case rel => exact ⟨j + 1, by omega, by go_num, hW⟩
              case measure => simp [intOf]; omega
          · obtain rfl : j = k := by omega
            have hjz : ¬ (j : Int) < (j : Int) := by omega
            go_wp2
            go_ret
            exact ⟨rfl, Below.after2 hB (Nat.le_refl _) hW⟩
      · have hl1 : room - Li.long 0 l < 0 := by omega
        clear hK64 HSM
        go_wp2_with (go_at_call 17; (with_reducible refine (long_any _ l k c 0 _ ((HI.out.after hB)) HL.out HC.out (by omega)).mono ?_); rintro e w' ⟨rfl, rfl⟩)
        go_ret
        exact ⟨rfl, hB⟩

theorem jeven_walk (a0 : Option Addr) (len0 cap0 : Nat) (z0 : List Int) (room : Int) (w : World) (h0 : Row w a0 len0 cap0 z0) :
    Calls Try.prog 7 #[.slice a0 len0 cap0, .int .i64 room] w fun e w' => e = .returned (.bool true) ∧ Below w.heap.size w w' := by
  have k1 := h0.cap
  obtain ⟨l, rfl, hl, _, _, _⟩ := ints_of_row h0
  have m1 := hl.1
  simp only [maxLen] at m1
  by_cases h : l.length < 1 ∨ 64 < l.length ∨ room < 0 ∨ 1073741824 < room
  · exact jeven_out a0 _ cap0 room w (by omega) h
  · exact jeven_core a0 l _ cap0 room w hl rfl k1 (by omega) (by omega) (by omega) (by omega)

end Go.Proofs.Yteopkakjnjfheaa.Fix
