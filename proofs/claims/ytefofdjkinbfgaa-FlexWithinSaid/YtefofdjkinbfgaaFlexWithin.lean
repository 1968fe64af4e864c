/- FlexWithin: it returns true, and leaves all that was there as it was. -/
import Derived.Test.YtefofdjkinbfgaaFlexStill
namespace Go.Proofs.Ytefofdjkinbfgaa.Fix
open Go.ChangeShapes Go.WideShapes Go.ChangeAt Go.RowKit
set_option linter.unusedVariables false

theorem fwithin_out (A : Option Addr) (n c : Nat) (x : Int) (w : World) (hx : n ≤ 9223372036854775807) (h : 64 < n) :
    Calls Try.prog 5 #[.slice A n c, .int .i64 x] w fun e w' => e = .returned (.bool true) ∧ Below w.heap.size w w' := by
  go_enter Try.func5, Try.ntmps5
  go_wp2_with (first | (go_at_call 10; with_reducible refine (fworks_any _).mono ?_; rintro e w1 ⟨rfl, hB⟩) | (go_at_call 15; refine (xsizes_none A n c x _ h).mono ?_; rintro e w2 ⟨rfl, rfl⟩))
  go_ret
  exact ⟨rfl, hB⟩

set_option maxHeartbeats 8000000 in
theorem fwithin_core (A : Option Addr) (l : Nat → Fe.It) (n c : Nat) (x : Int) (w : World) (hI : Items w A l n) (hn : n ≤ 64) :
    Calls Try.prog 5 #[.slice A n c, .int .i64 x] w fun e w' => e = .returned (.bool true) ∧ Below w.heap.size w w' := by
  have e1 : decide (64 < (n : Int)) = false := by simp; omega
  have HI := Lib.hid hI
  clear hI
  go_enter Try.func5, Try.ntmps5
  go_wp2_with (first | (go_at_call 10; with_reducible refine (fworks_any _).mono ?_; rintro e w1 ⟨rfl, hB⟩) | (go_at_call 15; refine (xsizes_any A l n c x _ (HI.out.after hB) hn).mono ?_; rintro e w2 ⟨⟨b2, rfl, hbb2, hI2⟩, hb2⟩))
  have hB2 := Below.after2 hB (Nat.le_refl _) hb2
  clear hb2 hbb2 hB
  have HI2 := Lib.hid hI2
  have HB2 := Lib.hid hB2
  clear hI2 hB2
  go_loopw [7] (fun i wr => ∃ j : Nat, j ≤ n ∧ i = .int .i64 j ∧ Below w2.heap.size w2 wr) (fun i _ => n - (intOf i).toNat)
  case atStart => exact ⟨0, by omega, rfl, Below.refl _ _⟩
  case round =>
    obtain ⟨k, hk, rfl, hB3⟩ := hrel
    by_cases hlt : k < n
    · obtain ⟨b, off, rfl, hbl, hc⟩ := (HI.out.after (Below.after2 HB2.out (Nat.le_refl _) hB3)) (by omega)
      obtain ⟨c0, c1, c2, c3, c4⟩ := hc k hlt
      clear hc
      obtain ⟨l2, d⟩ := ints_cells (HI2.out.after hB3) (k := k) (by rw [sizesOf_length]; exact hlt)
      rw [sizes_get _ _ _ hlt] at d
      have h1 := Fe.fin_within l n (Fe.to x 67108864) k
      have h2 : (l k).g ≤ 0 → (l k).s ≤ 0 → (Fe.fin l n (Fe.to x 67108864) k).z = Fe.clamp (l k) (Fe.cnt (l k)).b := fun hg hs => Fe.fin_none l n _ k (by simp only [Fe.cnt, Fe.to]; (repeat' split) <;> omega) (by simp only [Fe.cnt, Fe.to]; (repeat' split) <;> omega)
      have HM : Hid (min (max (l k).b 0) 1048576 = (Fe.cnt (l k)).b) := Lib.hid (min_max _ (by omega))
      generalize (Fe.fin l n (Fe.to x 67108864) k).z = z at *
      generalize hy : (Fe.cnt (l k)).b = y at *
      clear hy
      generalize l k = q at *
      obtain ⟨x0, x1, x2, x3, x4⟩ := q
      dsimp only at c0 c1 c2 c3 c4 HM h2
      have k0 : (Fe.clamp ⟨x0, x1, x2, x3, x4⟩ z != z) = false := by rw [h1]; simp
      by_cases hg : x3 ≤ 0
      · by_cases hs : x4 ≤ 0
        · have k3 : (z != Fe.clamp ⟨x0, x1, x2, x3, x4⟩ y) = false := by rw [← h2 hg hs]; simp
          have k1 : decide (x3 ≤ 0) = true := decide_eq_true hg
          have k2 : decide (x4 ≤ 0) = true := decide_eq_true hs
          clear h1 h2
          go_upto_region 13 with (fail)
          rw [HM.out]
          refine Drawn.wp_region_fast (Below.refl _ _) (by kernel_rfl) (by kernel_rfl) (by kernel_rfl) ?_
          (repeat (first | (refine Drawn.seq_skip (by rfl) ?_; (try simp only [Act.put, List.setIfInBounds_toArray, List.set_cons_zero, List.set_cons_succ])) | (refine Drawn.seq_call (o := ⟨_, .call ⟨.value _, _, _⟩, _, _, _, _⟩) (by rfl) (by intro w2 hS; go_simp; first | done | with_reducible rfl | exact ⟨rfl, rfl⟩) (by intro w2 hS; first | ((with_reducible refine (xclamp5 _ _ _ _ _ _ _).mono ?_); rintro e w' ⟨rfl, hb⟩; exact ⟨rfl, Below.after hS hb⟩)) ?_; (try simp only [Act.put, List.setIfInBounds_toArray, List.set_cons_zero, List.set_cons_succ])) | (refine Drawn.seq_value (by rfl) (by intro w2 hS; obtain ⟨hc, hf⟩ := bcell hS; go_simp; first | done | with_reducible rfl | exact ⟨rfl, rfl⟩) ?_; (try simp only [Act.put, List.setIfInBounds_toArray, List.set_cons_zero, List.set_cons_succ]))))
          try simp only [k0]
          (repeat (first | (refine Drawn.seq_skip (by rfl) ?_; (try simp only [Act.put, List.setIfInBounds_toArray, List.set_cons_zero, List.set_cons_succ])) | (refine Drawn.seq_call (o := ⟨_, .call ⟨.value _, _, _⟩, _, _, _, _⟩) (by rfl) (by intro w2 hS; go_simp; first | done | with_reducible rfl | exact ⟨rfl, rfl⟩) (by intro w2 hS; first | ((with_reducible refine (xclamp5 _ _ _ _ _ _ _).mono ?_); rintro e w' ⟨rfl, hb⟩; exact ⟨rfl, Below.after hS hb⟩)) ?_; (try simp only [Act.put, List.setIfInBounds_toArray, List.set_cons_zero, List.set_cons_succ])) | (refine Drawn.seq_value (by rfl) (by intro w2 hS; obtain ⟨hc, hf⟩ := bcell hS; go_simp; first | done | with_reducible rfl | exact ⟨rfl, rfl⟩) ?_; (try simp only [Act.put, List.setIfInBounds_toArray, List.set_cons_zero, List.set_cons_succ]))))
          try simp only [k3]
          (repeat (first | (refine Drawn.seq_skip (by rfl) ?_; (try simp only [Act.put, List.setIfInBounds_toArray, List.set_cons_zero, List.set_cons_succ])) | (refine Drawn.seq_call (o := ⟨_, .call ⟨.value _, _, _⟩, _, _, _, _⟩) (by rfl) (by intro w2 hS; go_simp; first | done | with_reducible rfl | exact ⟨rfl, rfl⟩) (by intro w2 hS; first | ((with_reducible refine (xclamp5 _ _ _ _ _ _ _).mono ?_); rintro e w' ⟨rfl, hb⟩; exact ⟨rfl, Below.after hS hb⟩)) ?_; (try simp only [Act.put, List.setIfInBounds_toArray, List.set_cons_zero, List.set_cons_succ])) | (refine Drawn.seq_value (by rfl) (by intro w2 hS; obtain ⟨hc, hf⟩ := bcell hS; go_simp; first | done | with_reducible rfl | exact ⟨rfl, rfl⟩) ?_; (try simp only [Act.put, List.setIfInBounds_toArray, List.set_cons_zero, List.set_cons_succ]))))
          refine Drawn.seq_end ?_; intro w2 hS
          go_wp2
          go_roundw
          case rel => exact ⟨k + 1, by omega, by go_num, Below.after2 hB3 (Nat.le_refl _) hS⟩
          case measure => simp [intOf]; omega
        · have k1 : decide (x3 ≤ 0) = true := decide_eq_true hg
          have k2 : decide (x4 ≤ 0) = false := decide_eq_false hs
          clear h1 h2
          go_upto_region 13 with (fail)
          rw [HM.out]
          refine Drawn.wp_region_fast (Below.refl _ _) (by kernel_rfl) (by kernel_rfl) (by kernel_rfl) ?_
          (repeat (first | (refine Drawn.seq_skip (by rfl) ?_; (try simp only [Act.put, List.setIfInBounds_toArray, List.set_cons_zero, List.set_cons_succ])) | (refine Drawn.seq_call (o := ⟨_, .call ⟨.value _, _, _⟩, _, _, _, _⟩) (by rfl) (by intro w2 hS; go_simp; first | done | with_reducible rfl | exact ⟨rfl, rfl⟩) (by intro w2 hS; first | ((with_reducible refine (xclamp5 _ _ _ _ _ _ _).mono ?_); rintro e w' ⟨rfl, hb⟩; exact ⟨rfl, Below.after hS hb⟩)) ?_; (try simp only [Act.put, List.setIfInBounds_toArray, List.set_cons_zero, List.set_cons_succ])) | (refine Drawn.seq_value (by rfl) (by intro w2 hS; obtain ⟨hc, hf⟩ := bcell hS; go_simp; first | done | with_reducible rfl | exact ⟨rfl, rfl⟩) ?_; (try simp only [Act.put, List.setIfInBounds_toArray, List.set_cons_zero, List.set_cons_succ]))))
          try simp only [k0]
          (repeat (first | (refine Drawn.seq_skip (by rfl) ?_; (try simp only [Act.put, List.setIfInBounds_toArray, List.set_cons_zero, List.set_cons_succ])) | (refine Drawn.seq_call (o := ⟨_, .call ⟨.value _, _, _⟩, _, _, _, _⟩) (by rfl) (by intro w2 hS; go_simp; first | done | with_reducible rfl | exact ⟨rfl, rfl⟩) (by intro w2 hS; first | ((with_reducible refine (xclamp5 _ _ _ _ _ _ _).mono ?_); rintro e w' ⟨rfl, hb⟩; exact ⟨rfl, Below.after hS hb⟩)) ?_; (try simp only [Act.put, List.setIfInBounds_toArray, List.set_cons_zero, List.set_cons_succ])) | (refine Drawn.seq_value (by rfl) (by intro w2 hS; obtain ⟨hc, hf⟩ := bcell hS; go_simp; first | done | with_reducible rfl | exact ⟨rfl, rfl⟩) ?_; (try simp only [Act.put, List.setIfInBounds_toArray, List.set_cons_zero, List.set_cons_succ]))))
          refine Drawn.seq_end ?_; intro w2 hS
          go_wp2
          go_roundw
          case rel => exact ⟨k + 1, by omega, by go_num, Below.after2 hB3 (Nat.le_refl _) hS⟩
          case measure => simp [intOf]; omega
      · have k1 : decide (x3 ≤ 0) = false := decide_eq_false hg
        clear h1 h2
        go_upto_region 13 with (fail)
        rw [HM.out]
        refine Drawn.wp_region_fast (Below.refl _ _) (by kernel_rfl) (by kernel_rfl) (by kernel_rfl) ?_
        (repeat (first | (refine Drawn.seq_skip (by rfl) ?_; (try simp only [Act.put, List.setIfInBounds_toArray, List.set_cons_zero, List.set_cons_succ])) | (refine Drawn.seq_call (o := ⟨_, .call ⟨.value _, _, _⟩, _, _, _, _⟩) (by rfl) (by intro w2 hS; go_simp; first | done | with_reducible rfl | exact ⟨rfl, rfl⟩) (by intro w2 hS; first | ((with_reducible refine (xclamp5 _ _ _ _ _ _ _).mono ?_); rintro e w' ⟨rfl, hb⟩; exact ⟨rfl, Below.after hS hb⟩)) ?_; (try simp only [Act.put, List.setIfInBounds_toArray, List.set_cons_zero, List.set_cons_succ])) | (refine Drawn.seq_value (by rfl) (by intro w2 hS; obtain ⟨hc, hf⟩ := bcell hS; go_simp; first | done | with_reducible rfl | exact ⟨rfl, rfl⟩) ?_; (try simp only [Act.put, List.setIfInBounds_toArray, List.set_cons_zero, List.set_cons_succ]))))
        try simp only [k0]
        (repeat (first | (refine Drawn.seq_skip (by rfl) ?_; (try simp only [Act.put, List.setIfInBounds_toArray, List.set_cons_zero, List.set_cons_succ])) | (refine Drawn.seq_call (o := ⟨_, .call ⟨.value _, _, _⟩, _, _, _, _⟩) (by rfl) (by intro w2 hS; go_simp; first | done | with_reducible rfl | exact ⟨rfl, rfl⟩) (by intro w2 hS; first | ((with_reducible refine (xclamp5 _ _ _ _ _ _ _).mono ?_); rintro e w' ⟨rfl, hb⟩; exact ⟨rfl, Below.after hS hb⟩)) ?_; (try simp only [Act.put, List.setIfInBounds_toArray, List.set_cons_zero, List.set_cons_succ])) | (refine Drawn.seq_value (by rfl) (by intro w2 hS; obtain ⟨hc, hf⟩ := bcell hS; go_simp; first | done | with_reducible rfl | exact ⟨rfl, rfl⟩) ?_; (try simp only [Act.put, List.setIfInBounds_toArray, List.set_cons_zero, List.set_cons_succ]))))
        refine Drawn.seq_end ?_; intro w2 hS
        go_wp2
        go_roundw
        case rel => exact ⟨k + 1, by omega, by go_num, Below.after2 hB3 (Nat.le_refl _) hS⟩
        case measure => simp [intOf]; omega
    · obtain rfl : k = n := by omega
      go_wp2
      go_ret
      exact ⟨rfl, Below.after2 HB2.out (Nat.le_refl _) hB3⟩

theorem fwithin_walk (a0 : Option Addr) (len0 cap0 : Nat) (x : Int) (w : World) (h0 : IRow w a0 len0 cap0) :
    Calls Try.prog 5 #[.slice a0 len0 cap0, .int .i64 x] w fun e w' => e = .returned (.bool true) ∧ Below w.heap.size w w' := by
  obtain ⟨l, hl⟩ := h0.items
  by_cases h : 64 < len0
  · exact fwithin_out a0 len0 cap0 x w h0.cap.2 h
  · exact fwithin_core a0 l len0 cap0 x w hl (by omega)

end Go.Proofs.Ytefofdjkinbfgaa.Fix
