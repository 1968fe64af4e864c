/- FlexShares: it returns true, and leaves all that was there as it was. -/
import Derived.Test.YtefofdjkinbfgaaFlexFrame
namespace Go.Proofs.Ytefofdjkinbfgaa.Fix
open Go.ChangeShapes Go.WideShapes Go.ChangeAt Go.RowKit
set_option linter.unusedVariables false

theorem cw_pos {z : Int} (h : 0 < z) : 0 < Fe.cw z := by unfold Fe.cw Fe.to; (repeat' split) <;> omega
theorem cw_zero {z : Int} (h : z ≤ 0) : Fe.cw z = 0 := by unfold Fe.cw Fe.to; (repeat' split) <;> omega
theorem part_zero {x : Int} {l : List Int} {k : Nat} (h : l.getD k 0 ≤ 0) : Fe.part x l k = 0 := by
  unfold Fe.part Fe.so
  simp only [Fe.up, cw_zero h, Int.add_zero, Int.sub_self]
theorem so_all {x : Int} {l : List Int} (h : 0 < Fe.up l l.length) : Fe.so x l l.length = Fe.to x 67108864 := by
  unfold Fe.so Fe.all
  exact Int.mul_ediv_cancel _ (by omega)
theorem so_none {x : Int} {l : List Int} (h : ¬ 0 < Fe.up l l.length) : Fe.so x l l.length = 0 := by
  have := Fe.up_ge l l.length
  unfold Fe.so Fe.all
  rw [show Fe.up l l.length = 0 by omega]
  simp
theorem max_to (x : Int) : (if 67108864 < (if x < 0 then 0 else x) then 67108864 else if x < 0 then 0 else x) = Fe.to x 67108864 := by unfold Fe.to; (repeat' split) <;> omega

theorem fshares_out (x : Int) (A : Option Addr) (n c : Nat) (w : World) (hx : n ≤ 9223372036854775807) (h : 100 < n) :
    Calls Try.prog 4 #[.int .i64 x, .slice A n c] w fun e w' => e = .returned (.bool true) ∧ Below w.heap.size w w' := by
  go_enter Try.func4, Try.ntmps4
  go_wp2_with (go_at_call 10; with_reducible refine (fworks_any _).mono ?_; rintro e w1 ⟨rfl, hB⟩)
  go_ret
  exact ⟨rfl, hB⟩

set_option maxHeartbeats 4000000 in
theorem fshares_mid (x : Int) (A : Option Addr) (n c : Nat) (w : World) (h : 64 < n) (h2 : n ≤ 100) :
    Calls Try.prog 4 #[.int .i64 x, .slice A n c] w fun e w' => e = .returned (.bool true) ∧ Below w.heap.size w w' := by
  have e1 : decide (100 < (n : Int)) = false := by simp; omega
  go_enter Try.func4, Try.ntmps4
  go_wp2_with (first | (go_at_call 10; with_reducible refine (fworks_any _).mono ?_; rintro e w1 ⟨rfl, hB⟩) | (go_at_call 17; refine (share_none A n c x _ h).mono ?_; rintro e w2 ⟨rfl, rfl⟩) | (go_at_call 18; refine (rshare_none A n c x _ h).mono ?_; rintro e w2 ⟨rfl, rfl⟩) |
    (go_at_call 14; refine (row_any none none [] 0 0 0 _ ⟨by simp, fun h => absurd h (by simp)⟩ ⟨by simp, fun h => absurd h (by simp)⟩ rfl (by omega)).mono ?_; rintro e w3 ⟨rfl, hB3⟩))
  go_loop [7, 8, 9] (fun s t i => s = .int .i64 0 ∧ t = .bool false ∧ i = .int .i64 0) (fun _ _ i => 0)
  case atStart => exact ⟨rfl, rfl, rfl⟩
  case round =>
    obtain ⟨rfl, rfl, rfl⟩ := hrel
    go_wp2
    go_ret
    exact ⟨rfl, Below.after2 hB (Nat.le_refl _) hB3⟩

set_option maxHeartbeats 4000000 in
theorem fshares_core (x : Int) (A : Option Addr) (l : List Int) (n c : Nat) (w : World) (hI : Ints w A l) (hl : l.length = n) (hn : n ≤ 64) :
    Calls Try.prog 4 #[.int .i64 x, .slice A n c] w fun e w' => e = .returned (.bool true) ∧ Below w.heap.size w w' := by
  have e1 : decide (100 < (n : Int)) = false := by simp; omega
  have HI := Lib.hid hI
  have HL := Lib.hid hl
  clear hI hl
  go_enter Try.func4, Try.ntmps4
  go_upto_region 6 with (go_at_call 10; with_reducible refine (fworks_any _).mono ?_; rintro e w1 ⟨rfl, hB⟩)
  go_upto_region 7 with (go_at_call 17; refine (share_any A l n c x _ (HI.out.after hB) HL.out hn).mono ?_; rintro e w2 ⟨⟨b, rfl, hbb, hI2⟩, hb2⟩; have hB2 := Below.after2 hB (Nat.le_refl _) hb2; clear hb2 hbb hB)
  have hls : (Fe.share x l).length = n := by rw [Fe.share_length]; exact HL.out
  go_upto_region 9 with (first | (go_at_call 18; refine (rshare_any A l n c x _ (HI.out.after hB2) HL.out hn).mono ?_; rintro e w3 ⟨⟨b3, rfl, hbb3, hI3⟩, hb3⟩; replace hB2 := Below.after2 hB2 (Nat.le_refl _) hb3; replace hI2 := hI2.after hb3; clear hb3 hbb3) |
    (go_at_call 14; refine (row_any _ _ (Fe.share x l) n n n _ hI2 hI3 hls (by omega)).mono ?_; rintro e w4 ⟨rfl, hb4⟩; replace hB2 := Below.after2 hB2 (Nat.le_refl _) hb4; replace hI2 := hI2.after hb4; clear hb4 hI3))
  have HI2 := Lib.hid hI2
  have HI1 := Lib.hid (HI.out.after hB2)
  have HLS := Lib.hid hls
  clear hI2 hls
  go_wp2
  go_loop [7, 8, 9] (fun s t i => ∃ k : Nat, k ≤ n ∧ i = .int .i64 k ∧ s = .int .i64 (Fe.so x l k) ∧ t = .bool (decide (0 < Fe.up l k))) (fun _ _ i => n - (intOf i).toNat)
  case atStart => exact ⟨0, by omega, rfl, by rw [Fe.so_zero], rfl⟩
  case round =>
    obtain ⟨k, hk, rfl, rfl, rfl⟩ := hrel
    by_cases hlt : k < n
    · obtain ⟨b1, o1, hA1, l1, c1⟩ := HI1.out.at_ (k := k) (by rw [HL.out]; exact hlt)
      obtain ⟨l2, c2⟩ := ints_cells HI2.out (k := k) (by rw [HLS.out]; exact hlt)
      rw [Fe.share_get _ _ (by rw [HL.out]; exact hlt)] at c2
      have hs : Hid (Fe.so x l k + Fe.part x l k = Fe.so x l (k + 1)) := Lib.hid (by unfold Fe.part; omega)
      have q1 := Fe.so_ge x l k
      have q3 : Fe.so x l k ≤ 67108864 := Int.le_trans (Fe.so_le x l (k := k) (by rw [HL.out]; omega)) (Fe.to_le (by omega))
      have q4 := (Fe.part_bd x l (k := k) (by rw [HL.out]; omega)).1
      have q5 := (Fe.part_bd x l (k := k) (by rw [HL.out]; omega)).2
      have hz : l.getD k 0 ≤ 0 → Fe.part x l k = 0 := part_zero
      have hU : Hid (decide (0 < Fe.up l (k + 1)) = (decide (0 < Fe.up l k) || decide (0 < l.getD k 0))) := Lib.hid (by
        have h0 := Fe.up_ge l k
        by_cases hzp : 0 < l.getD k 0
        · have := cw_pos hzp
          rw [decide_eq_true hzp, Bool.or_true]; simp only [Fe.up]; exact decide_eq_true (by omega)
        · have := cw_zero (z := l.getD k 0) (by omega)
          rw [decide_eq_false hzp, Bool.or_false]; simp only [Fe.up, this, Int.add_zero])
      generalize l.getD k 0 = z at *
      generalize Fe.part x l k = p at *
      generalize Fe.so x l k = s at *
      subst hA1
      have e3 : decide (p < 0) = false := by simp; omega
      by_cases hu : 0 < Fe.up l k
      · have hu2 : decide (0 < Fe.up l k) = true := decide_eq_true hu
        rw [hu2] at hU
        clear hu
        generalize Fe.up l k = u at *
        by_cases hz0 : z ≤ 0
        · have hp0 := hz hz0
          subst hp0
          rw [hu2]
          go_wp2
          go_round
          case rel => exact ⟨k + 1, by omega, by go_num, by rw [← hs.out, Int.add_zero], by rw [hU.out]; rfl⟩
          case measure => simp [intOf]; omega
        · rw [hu2]
          go_wp2
          go_round
          case rel => exact ⟨k + 1, by omega, by go_num, by rw [← hs.out], by rw [hU.out]; rfl⟩
          case measure => simp [intOf]; omega
      · have hu2 : decide (0 < Fe.up l k) = false := decide_eq_false hu
        rw [hu2] at hU
        clear hu
        generalize Fe.up l k = u at *
        by_cases hz0 : z ≤ 0
        · have hp0 := hz hz0
          subst hp0
          rw [hu2]
          go_wp2
          go_round
          case rel => exact ⟨k + 1, by omega, by go_num, by rw [← hs.out, Int.add_zero], by rw [hU.out]; simp⟩
          case measure => simp [intOf]; omega
        · rw [hu2]
          go_wp2
          go_round
          case rel => exact ⟨k + 1, by omega, by go_num, by rw [← hs.out], by rw [hU.out]; simp⟩
          case measure => simp [intOf]; omega
    · obtain rfl : k = n := by omega
      by_cases hu : 0 < Fe.up l k
      · have HS : Hid (Fe.so x l k = Fe.to x 67108864) := Lib.hid (by have := so_all (x := x) (l := l); rw [HL.out] at this; exact this hu)
        rw [decide_eq_true hu]
        rw [HS.out]
        have HM := Lib.hid (max_to x)
        clear hu
        go_wp2
        all_goals
          go_ret
          exact ⟨ret_bool (by simp [Fe.to]; (try (repeat' split)) <;> (try omega)), hB2⟩
      · have HS : Hid (Fe.so x l k = 0) := Lib.hid (by have := so_none (x := x) (l := l); rw [HL.out] at this; exact this hu)
        rw [decide_eq_false hu]
        rw [HS.out]
        clear hu
        go_wp2
        go_ret
        exact ⟨rfl, hB2⟩

theorem fshares_walk (x : Int) (a1 : Option Addr) (len1 cap1 : Nat) (z1 : List Int) (w : World) (h1 : Row w a1 len1 cap1 z1) :
    Calls Try.prog 4 #[.int .i64 x, .slice a1 len1 cap1] w fun e w' => e = .returned (.bool true) ∧ Below w.heap.size w w' := by
  obtain ⟨l, rfl, hl, _, _, _⟩ := ints_of_row h1
  have m1 := hl.1
  simp only [maxLen] at m1
  by_cases h64 : l.length ≤ 64
  · exact fshares_core x a1 l _ cap1 w hl rfl h64
  · by_cases h100 : 100 < l.length
    · exact fshares_out x a1 _ cap1 w (by omega) h100
    · exact fshares_mid x a1 _ cap1 w (by omega) (by omega)

end Go.Proofs.Ytefofdjkinbfgaa.Fix
