/- FlexShareMore: it returns true, and leaves all that was there as it was. -/
import Derived.Test.YtefofdjkinbfgaaFlexShares
namespace Go.Proofs.Ytefofdjkinbfgaa.Fix
open Go.ChangeShapes Go.WideShapes Go.ChangeAt Go.RowKit
set_option linter.unusedVariables false

def dbl (l : List Int) : List Int := l.map (2 * ·)
theorem dbl_get (l : List Int) {k : Nat} (h : k < l.length) : (dbl l).getD k 0 = 2 * l.getD k 0 := by simp [dbl, h]
theorem cw_dbl {z : Int} (h : 0 ≤ z) (h2 : z ≤ 536870912) : Fe.cw (2 * z) = 2 * Fe.cw z := by unfold Fe.cw Fe.to; (repeat' split) <;> omega
theorem up_dbl {l : List Int} (h : ∀ j, j < l.length → 0 ≤ l.getD j 0 ∧ l.getD j 0 ≤ 536870912) (k : Nat) (hk : k ≤ l.length) : Fe.up (dbl l) k = 2 * Fe.up l k := by
  induction k with
  | zero => rfl
  | succ k ih =>
    obtain ⟨h1, h2⟩ := h k (by omega)
    simp only [Fe.up]
    rw [ih (by omega), dbl_get _ (by omega), cw_dbl h1 h2]
    omega
theorem share_dbl {l : List Int} (x : Int) (h : ∀ j, j < l.length → 0 ≤ l.getD j 0 ∧ l.getD j 0 ≤ 536870912) : Fe.share x (dbl l) = Fe.share x l := by
  have hl : (dbl l).length = l.length := by simp [dbl]
  have hs : ∀ k, k ≤ l.length → Fe.so x (dbl l) k = Fe.so x l k := by
    intro k hk
    unfold Fe.so Fe.all
    rw [hl, up_dbl h k hk, up_dbl h _ (Nat.le_refl _)]
    rw [show Fe.to x 67108864 * (2 * Fe.up l k) = 2 * (Fe.to x 67108864 * Fe.up l k) by rw [Int.mul_left_comm]]
    exact Int.mul_ediv_mul_of_pos _ _ (by omega)
  unfold Fe.share
  rw [hl]
  apply List.map_congr_left
  intro k hk
  have hk : k < l.length := by simpa using hk
  unfold Fe.part
  rw [hs _ (by omega), hs _ (by omega)]
theorem first_more {n m : Int} {l : List Int} (h0 : 0 ≤ n) (h1 : n ≤ m) (h2 : m ≤ 67108864) : Fe.part n l 0 ≤ Fe.part m l 0 := by
  unfold Fe.part
  rw [Fe.so_zero, Fe.so_zero]
  unfold Fe.so
  rw [Fe.to_id h0 (by omega), Fe.to_id (by omega) h2]
  have hu := Fe.up_ge l 1
  rcases Int.lt_or_le 0 (Fe.all l) with h | h
  · have := Int.ediv_le_ediv h (Int.mul_le_mul_of_nonneg_right h1 hu)
    simp only [Nat.zero_add]
    omega
  · have : Fe.all l = 0 := by have := Fe.up_ge l l.length; unfold Fe.all at *; omega
    rw [this]; simp

theorem fsmore_out (x y : Int) (A : Option Addr) (n c : Nat) (w : World) (hx : n ≤ 9223372036854775807) (h : x < 0 ∨ y < x ∨ 67108864 < y ∨ n < 1 ∨ 64 < n) :
    Calls Try.prog 9 #[.int .i64 x, .int .i64 y, .slice A n c] w fun e w' => e = .returned (.bool true) ∧ Below w.heap.size w w' := by
  by_cases h1 : x < 0
  · go_enter Try.func9, Try.ntmps9
    go_wp2_with (go_at_call 10; with_reducible refine (fworks_any _).mono ?_; rintro e w1 ⟨rfl, hB⟩)
    go_ret
    exact ⟨rfl, hB⟩
  · have e1 : decide (x < 0) = false := by simp; omega
    by_cases h2 : y < x
    · go_enter Try.func9, Try.ntmps9
      go_wp2_with (go_at_call 10; with_reducible refine (fworks_any _).mono ?_; rintro e w1 ⟨rfl, hB⟩)
      go_ret
      exact ⟨rfl, hB⟩
    · have e2 : decide (y < x) = false := by simp; omega
      by_cases h3 : 67108864 < y
      · go_enter Try.func9, Try.ntmps9
        go_wp2_with (go_at_call 10; with_reducible refine (fworks_any _).mono ?_; rintro e w1 ⟨rfl, hB⟩)
        go_ret
        exact ⟨rfl, hB⟩
      · have e3 : decide (67108864 < y) = false := by simp; omega
        by_cases h4 : n < 1
        · go_enter Try.func9, Try.ntmps9
          go_wp2_with (go_at_call 10; with_reducible refine (fworks_any _).mono ?_; rintro e w1 ⟨rfl, hB⟩)
          go_ret
          exact ⟨rfl, hB⟩
        · have e4 : decide ((n : Int) < 1) = false := by simp; omega
          have h5 : 64 < n := by omega
          clear h
          go_enter Try.func9, Try.ntmps9
          go_wp2_with (go_at_call 10; with_reducible refine (fworks_any _).mono ?_; rintro e w1 ⟨rfl, hB⟩)
          go_ret
          exact ⟨rfl, hB⟩

set_option maxHeartbeats 4000000 in
theorem fsmore_core (x y : Int) (A : Option Addr) (l : List Int) (n c : Nat) (w : World) (hI : Ints w A l) (hl : l.length = n) (hx : 0 ≤ x) (hxy : x ≤ y) (hy : y ≤ 67108864) (hn1 : 1 ≤ n) (hn : n ≤ 64) :
    Calls Try.prog 9 #[.int .i64 x, .int .i64 y, .slice A n c] w fun e w' => e = .returned (.bool true) ∧ Below w.heap.size w w' := by
  have e1 : decide (x < 0) = false := by simp; omega
  have e2 : decide (y < x) = false := by simp; omega
  have e3 : decide (67108864 < y) = false := by simp; omega
  have e4 : decide ((n : Int) < 1) = false := by simp; omega
  have e5 : decide (64 < (n : Int)) = false := by simp; omega
  have HI := Lib.hid hI
  have HL := Lib.hid hl
  clear hI hl
  go_enter Try.func9, Try.ntmps9
  go_wp2_with (go_at_call 10; with_reducible refine (fworks_any _).mono ?_; rintro e w1 ⟨rfl, hB⟩)
  go_loopw [8, 9] (fun v i wr => ∃ k : Nat, k ≤ n ∧ i = .int .i64 k ∧ wr.ownsRow w.heap.size 3 1 v k (((dbl l).take k).map (Value.int .i64)) ∧ Below w.heap.size w wr ∧ Hid (∀ j, j < k → 0 ≤ l.getD j 0 ∧ l.getD j 0 ≤ 536870912)) (fun _ i _ => n - (intOf i).toNat)
  case atStart => exact ⟨0, by omega, rfl, World.ownsRow_nil _ _ _ _, hB, Lib.hid (fun j hj => absurd hj (by omega))⟩
  case round =>
    obtain ⟨k, hk, rfl, hown, hB1, HA⟩ := hrel
    by_cases hlt : k < n
    · obtain ⟨b1, o1, hA1, l1, c1⟩ := (HI.out.after hB1).at_ (k := k) (by rw [HL.out]; exact hlt)
      have hD : Hid (((dbl l).take (k + 1)) = (dbl l).take k ++ [2 * l.getD k 0]) := Lib.hid (by rw [take_snoc_int _ _ (by simp [dbl, HL.out]; exact hlt), dbl_get _ (by rw [HL.out]; exact hlt)])
      have hN : 0 ≤ l.getD k 0 → l.getD k 0 ≤ 536870912 → Hid (∀ j, j < k + 1 → 0 ≤ l.getD j 0 ∧ l.getD j 0 ≤ 536870912) := fun h1 h2 => Lib.hid (fun j hj => by
        rcases Nat.lt_or_ge j k with h' | h'
        · exact HA.out j h'
        · obtain rfl : j = k := by omega
          exact ⟨h1, h2⟩)
      generalize l.getD k 0 = z at *
      subst hA1
      by_cases hz1 : z < 0
      · go_wp2
        go_ret
        exact ⟨rfl, hB1⟩
      · have z1 : decide (z < 0) = false := by simp; omega
        by_cases hz2 : 536870912 < z
        · go_wp2
          go_ret
          exact ⟨rfl, hB1⟩
        · have z2 : decide (536870912 < z) = false := by simp; omega
          replace hN := hN (by omega) (by omega)
          obtain ⟨v', w', hrun, hown2, hB2, hb2⟩ := append_int (2 * z) hown hB1 hB1.size (by omega)
          have HRUN := Lib.hid hrun
          clear hrun hown hB1
          go_wp2_with (at_builtin; refine wpList_append_run (by rfl) _ _ 32 rfl rfl rfl HRUN.out ?_)
          go_roundw
          case rel => exact ⟨k + 1, by omega, by go_num, by rw [hD.out]; exact hown2, hB2, hN⟩
          case measure => simp [intOf]; omega
    · obtain rfl : k = n := by omega
      have htk : (dbl l).take k = dbl l := List.take_of_length_le (by simp [dbl, HL.out])
      rw [htk] at hown
      obtain ⟨D, d, rfl, hID, hLD⟩ := ints_of_row_own hown (by unfold maxLen; omega)
      have HLD := Lib.hid hLD
      have hSD : Fe.share x (dbl l) = Fe.share x l := share_dbl x (fun j hj => HA.out j (by rw [← HL.out]; exact hj))
      have HSD := Lib.hid hSD
      have hI1 := HI.out.after hB1
      clear hown hLD hSD
      go_upto_region 14 with (go_at_call 17; refine (share_any A l k c x _ hI1 HL.out hn).mono ?_; rintro e w2 ⟨⟨b2, rfl, hbb2, hI2⟩, hb2⟩; replace hB1 := Below.after2 hB1 (Nat.le_refl _) hb2; replace hI1 := hI1.after hb2; replace hID := hID.after hb2; clear hb2 hbb2)
      go_upto_region 15 with (go_at_call 17; refine (share_any A l k c y _ hI1 HL.out hn).mono ?_; rintro e w3 ⟨⟨b3, rfl, hbb3, hI3⟩, hb3⟩; replace hB1 := Below.after2 hB1 (Nat.le_refl _) hb3; replace hI2 := hI2.after hb3; replace hID := hID.after hb3; clear hb3 hbb3 hI1)
      obtain ⟨la, ca⟩ := ints_cells hI2 (k := 0) (by rw [Fe.share_length, HL.out]; omega)
      obtain ⟨lb, cb⟩ := ints_cells hI3 (k := 0) (by rw [Fe.share_length, HL.out]; omega)
      rw [Fe.share_get _ _ (by rw [HL.out]; omega)] at ca cb
      have hle := first_more (l := l) hx hxy hy
      generalize Fe.part x l 0 = pa at *
      generalize Fe.part y l 0 = pb at *
      refine Drawn.wp_region_gen (S := (fun W' => W'.cell? ⟨b2, 0, none⟩ = some (.int .i64 pa) ∧ W'.cell? ⟨b3, 0, none⟩ = some (.int .i64 pb))) 18 (by kernel_rfl) ?_ ?_
      · exact ⟨ca, cb⟩
      intro hS0
      have hx0 : Below w3.heap.size w3 w3.drew := (Below.refl _ _).drew
      have hk0 : 0 < k := by omega
      (refine Drawn.gen_take (i := 0) rfl (by kernel_rfl) (by kernel_rfl) (by kernel_rfl) (by kernel_rfl) (by omega) (by first | assumption | exact hS0) (by first | exact .inr ⟨by rfl, rfl⟩ | exact .inl ⟨by rfl, by intro w2 hS; obtain ⟨q1, q2⟩ := hS; go_simp; first | done | with_reducible rfl | exact ⟨rfl, rfl⟩⟩) ?_; (try simp only [Act.put, List.setIfInBounds_toArray, List.set_cons_zero, List.set_cons_succ]))
      (refine Drawn.gen_take (i := 1) rfl (by kernel_rfl) (by kernel_rfl) (by kernel_rfl) (by kernel_rfl) (by omega) (by first | assumption | exact hS0) (by first | exact .inr ⟨by rfl, rfl⟩ | exact .inl ⟨by rfl, by intro w2 hS; obtain ⟨q1, q2⟩ := hS; go_simp; first | done | with_reducible rfl | exact ⟨rfl, rfl⟩⟩) ?_; (try simp only [Act.put, List.setIfInBounds_toArray, List.set_cons_zero, List.set_cons_succ]))
      (refine Drawn.gen_take (i := 2) rfl (by kernel_rfl) (by kernel_rfl) (by kernel_rfl) (by kernel_rfl) (by omega) (by first | assumption | exact hS0) (by first | exact .inr ⟨by rfl, rfl⟩ | exact .inl ⟨by rfl, by intro w2 hS; obtain ⟨q1, q2⟩ := hS; go_simp; first | done | with_reducible rfl | exact ⟨rfl, rfl⟩⟩) ?_; (try simp only [Act.put, List.setIfInBounds_toArray, List.set_cons_zero, List.set_cons_succ]))
      (refine Drawn.gen_take (i := 3) rfl (by kernel_rfl) (by kernel_rfl) (by kernel_rfl) (by kernel_rfl) (by omega) (by first | assumption | exact hS0) (by first | exact .inr ⟨by rfl, rfl⟩ | exact .inl ⟨by rfl, by intro w2 hS; obtain ⟨q1, q2⟩ := hS; go_simp; first | done | with_reducible rfl | exact ⟨rfl, rfl⟩⟩) ?_; (try simp only [Act.put, List.setIfInBounds_toArray, List.set_cons_zero, List.set_cons_succ]))
      (refine Drawn.gen_take (i := 4) rfl (by kernel_rfl) (by kernel_rfl) (by kernel_rfl) (by kernel_rfl) (by omega) (by first | assumption | exact hS0) (by first | exact .inr ⟨by rfl, rfl⟩ | exact .inl ⟨by rfl, by intro w2 hS; obtain ⟨q1, q2⟩ := hS; go_simp; first | done | with_reducible rfl | exact ⟨rfl, rfl⟩⟩) ?_; (try simp only [Act.put, List.setIfInBounds_toArray, List.set_cons_zero, List.set_cons_succ]))
      (refine Drawn.gen_take (i := 5) rfl (by kernel_rfl) (by kernel_rfl) (by kernel_rfl) (by kernel_rfl) (by omega) (by first | assumption | exact hS0) (by first | exact .inr ⟨by rfl, rfl⟩ | exact .inl ⟨by rfl, by intro w2 hS; obtain ⟨q1, q2⟩ := hS; go_simp; first | done | with_reducible rfl | exact ⟨rfl, rfl⟩⟩) ?_; (try simp only [Act.put, List.setIfInBounds_toArray, List.set_cons_zero, List.set_cons_succ]))
      (refine Drawn.gen_take (i := 6) rfl (by kernel_rfl) (by kernel_rfl) (by kernel_rfl) (by kernel_rfl) (by omega) (by first | assumption | exact hS0) (by first | exact .inr ⟨by rfl, rfl⟩ | exact .inl ⟨by rfl, by intro w2 hS; obtain ⟨q1, q2⟩ := hS; go_simp; first | done | with_reducible rfl | exact ⟨rfl, rfl⟩⟩) ?_; (try simp only [Act.put, List.setIfInBounds_toArray, List.set_cons_zero, List.set_cons_succ]))
      (refine Drawn.gen_take (i := 7) rfl (by kernel_rfl) (by kernel_rfl) (by kernel_rfl) (by kernel_rfl) (by omega) (by first | assumption | exact hS0) (by first | exact .inr ⟨by rfl, rfl⟩ | exact .inl ⟨by rfl, by intro w2 hS; obtain ⟨q1, q2⟩ := hS; go_simp; first | done | with_reducible rfl | exact ⟨rfl, rfl⟩⟩) ?_; (try simp only [Act.put, List.setIfInBounds_toArray, List.set_cons_zero, List.set_cons_succ]))
      (refine Drawn.gen_take (i := 8) rfl (by kernel_rfl) (by kernel_rfl) (by kernel_rfl) (by kernel_rfl) (by omega) (by first | assumption | exact hS0) (by first | exact .inr ⟨by rfl, rfl⟩ | exact .inl ⟨by rfl, by intro w2 hS; obtain ⟨q1, q2⟩ := hS; go_simp; first | done | with_reducible rfl | exact ⟨rfl, rfl⟩⟩) ?_; (try simp only [Act.put, List.setIfInBounds_toArray, List.set_cons_zero, List.set_cons_succ]))
      (refine Drawn.gen_take (i := 9) rfl (by kernel_rfl) (by kernel_rfl) (by kernel_rfl) (by kernel_rfl) (by omega) (by first | assumption | exact hS0) (by first | exact .inr ⟨by rfl, rfl⟩ | exact .inl ⟨by rfl, by intro w2 hS; obtain ⟨q1, q2⟩ := hS; go_simp; first | done | with_reducible rfl | exact ⟨rfl, rfl⟩⟩) ?_; (try simp only [Act.put, List.setIfInBounds_toArray, List.set_cons_zero, List.set_cons_succ]))
      (refine Drawn.gen_take (i := 10) rfl (by kernel_rfl) (by kernel_rfl) (by kernel_rfl) (by kernel_rfl) (by omega) (by first | assumption | exact hS0) (by first | exact .inr ⟨by rfl, rfl⟩ | exact .inl ⟨by rfl, by intro w2 hS; obtain ⟨q1, q2⟩ := hS; go_simp; first | done | with_reducible rfl | exact ⟨rfl, rfl⟩⟩) ?_; (try simp only [Act.put, List.setIfInBounds_toArray, List.set_cons_zero, List.set_cons_succ]))
      (refine Drawn.gen_take (i := 11) rfl (by kernel_rfl) (by kernel_rfl) (by kernel_rfl) (by kernel_rfl) (by omega) (by first | assumption | exact hS0) (by first | exact .inr ⟨by rfl, rfl⟩ | exact .inl ⟨by rfl, by intro w2 hS; obtain ⟨q1, q2⟩ := hS; go_simp; first | done | with_reducible rfl | exact ⟨rfl, rfl⟩⟩) ?_; (try simp only [Act.put, List.setIfInBounds_toArray, List.set_cons_zero, List.set_cons_succ]))
      (refine Drawn.gen_take (i := 12) rfl (by kernel_rfl) (by kernel_rfl) (by kernel_rfl) (by kernel_rfl) (by omega) (by first | assumption | exact hS0) (by first | exact .inr ⟨by rfl, rfl⟩ | exact .inl ⟨by rfl, by intro w2 hS; obtain ⟨q1, q2⟩ := hS; go_simp; first | done | with_reducible rfl | exact ⟨rfl, rfl⟩⟩) ?_; (try simp only [Act.put, List.setIfInBounds_toArray, List.set_cons_zero, List.set_cons_succ]))
      (refine Drawn.gen_take (i := 14) rfl (by kernel_rfl) (by kernel_rfl) (by kernel_rfl) (by kernel_rfl) (by omega) (by first | assumption | exact hS0) (by first | exact .inr ⟨by rfl, rfl⟩ | exact .inl ⟨by rfl, by intro w2 hS; obtain ⟨q1, q2⟩ := hS; go_simp; first | done | with_reducible rfl | exact ⟨rfl, rfl⟩⟩) ?_; (try simp only [Act.put, List.setIfInBounds_toArray, List.set_cons_zero, List.set_cons_succ]))
      refine Drawn.gen_one (i := 13) (by kernel_rfl) rfl (by rfl) ?_
      refine Drawn.Step.call (by go_simp; first | done | with_reducible rfl | exact ⟨rfl, rfl⟩) (share_any D (dbl l) k d x _ (hID.after hx0) HLD.out hn) ?_
      rintro e w4 ⟨⟨b4, rfl, hbb4, hI4⟩, hb4⟩
      rw [HSD.out] at hI4
      replace hx0 := Below.after2 hx0 (Nat.le_refl _) hb4
      have keep : ∀ W', Below w3.heap.size w3 W' → W'.cell? ⟨b2, 0, none⟩ = some (.int .i64 pa) ∧ W'.cell? ⟨b3, 0, none⟩ = some (.int .i64 pb) := fun W' h => ⟨(h.cell (p := ⟨b2, 0, none⟩) la).trans ca, (h.cell (p := ⟨b3, 0, none⟩) lb).trans cb⟩
      refine ⟨_, rfl, fun _ => keep _ hx0, ?_⟩
      (try simp only [Act.put, List.setIfInBounds_toArray, List.set_cons_zero, List.set_cons_succ])
      refine Drawn.gen_one (i := 15) (by kernel_rfl) rfl (by rfl) ?_
      refine Drawn.Step.call (by go_simp; first | done | with_reducible rfl | exact ⟨rfl, rfl⟩) (row_any _ _ (Fe.share x l) k k k _ hI4 (hI2.after hx0) (by rw [Fe.share_length]; exact HL.out) (by omega)) ?_
      rintro e w5 ⟨rfl, hb5⟩
      replace hx0 := Below.after2 hx0 (Nat.le_refl _) hb5
      refine ⟨_, rfl, fun _ => keep _ hx0, ?_⟩
      (try simp only [Act.put, List.setIfInBounds_toArray, List.set_cons_zero, List.set_cons_succ])
      refine Drawn.gen_one (i := 16) (by kernel_rfl) rfl (by rfl) ?_
      refine Drawn.Step.value (by go_simp; first | done | with_reducible rfl | exact ⟨rfl, rfl⟩) ?_; refine ⟨by first | (intro hlt; exact absurd hlt (by decide)) | (intro _; exact keep _ hx0), ?_⟩; (try simp only [Act.put, List.setIfInBounds_toArray, List.set_cons_zero, List.set_cons_succ])
      refine Drawn.gen_one (i := 17) (by kernel_rfl) rfl (by rfl) ?_
      refine Drawn.Step.value (by go_simp; first | done | with_reducible rfl | exact ⟨rfl, rfl⟩) ?_; refine ⟨by first | (intro hlt; exact absurd hlt (by decide)) | (intro _; exact keep _ hx0), ?_⟩; (try simp only [Act.put, List.setIfInBounds_toArray, List.set_cons_zero, List.set_cons_succ])
      refine Drawn.gen_end (by kernel_rfl) ?_
      go_wp2
      go_ret
      exact ⟨rfl, Below.after2 hB1 (Nat.le_refl _) hx0⟩

theorem fsmore_walk (x y : Int) (a1 : Option Addr) (len1 cap1 : Nat) (z1 : List Int) (w : World) (h1 : Row w a1 len1 cap1 z1) :
    Calls Try.prog 9 #[.int .i64 x, .int .i64 y, .slice a1 len1 cap1] w fun e w' => e = .returned (.bool true) ∧ Below w.heap.size w w' := by
  obtain ⟨l, rfl, hl, _, _, _⟩ := ints_of_row h1
  have m1 := hl.1
  simp only [maxLen] at m1
  by_cases h : x < 0 ∨ y < x ∨ 67108864 < y ∨ l.length < 1 ∨ 64 < l.length
  · exact fsmore_out x y a1 _ cap1 w (by omega) h
  · exact fsmore_core x y a1 l _ cap1 w hl rfl (by omega) (by omega) (by omega) (by omega) (by omega)

end Go.Proofs.Ytefofdjkinbfgaa.Fix
