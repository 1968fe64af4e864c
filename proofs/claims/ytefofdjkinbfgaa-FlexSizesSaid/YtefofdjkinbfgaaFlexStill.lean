/- FlexStill: it returns true, and leaves all that was there as it was. -/
import Derived.Test.YtefofdjkinbfgaaFlexFrame
import Derived.Test.YtefofdjkinbfgaaFlexLawMath
namespace Go.Proofs.Ytefofdjkinbfgaa.Fix
open Go.ChangeShapes Go.WideShapes Go.ChangeAt Go.RowKit
set_option linter.unusedVariables false

theorem min_max (x : Int) {m : Int} (h : 0 ≤ m) : min (max x 0) m = Fe.to x m := by unfold Fe.to; (repeat' split) <;> omega

theorem sizes_get (l : Nat → Fe.It) (n : Nat) (x : Int) {k : Nat} (h : k < n) : (sizesOf l n x).getD k 0 = (Fe.fin l n (Fe.to x 67108864) k).z := by simp [sizesOf, h]

theorem fstill_out (A : Option Addr) (n c : Nat) (w : World) (hx : n ≤ 9223372036854775807) (h : 64 < n) :
    Calls Try.prog 8 #[.slice A n c] w fun e w' => e = .returned (.bool true) ∧ Below w.heap.size w w' := by
  go_enter Try.func8, Try.ntmps8
  go_wp2_with (go_at_call 10; with_reducible refine (fworks_any _).mono ?_; rintro e w1 ⟨rfl, hB⟩)
  go_ret
  exact ⟨rfl, hB⟩

set_option maxHeartbeats 4000000 in
theorem fstill_core (A : Option Addr) (l : Nat → Fe.It) (n c : Nat) (w : World) (hI : Items w A l n) (hn : n ≤ 64) :
    Calls Try.prog 8 #[.slice A n c] w fun e w' => e = .returned (.bool true) ∧ Below w.heap.size w w' := by
  have e1 : decide (64 < (n : Int)) = false := by simp; omega
  have HI := Lib.hid hI
  clear hI
  go_enter Try.func8, Try.ntmps8
  go_wp2_with (go_at_call 10; with_reducible refine (fworks_any _).mono ?_; rintro e w1 ⟨rfl, hB⟩)
  go_loopw [4, 5] (fun r i wr => ∃ k : Nat, k ≤ n ∧ i = .int .i64 k ∧ r = .int .i64 (Fe.sumb l k) ∧ Below w.heap.size w wr ∧ Hid (∀ j, j < k → Fe.clamp (l j) (Fe.cnt (l j)).b = (Fe.cnt (l j)).b)) (fun _ i _ => n - (intOf i).toNat)
  case atStart => exact ⟨0, by omega, rfl, rfl, hB, Lib.hid (fun j hj => absurd hj (by omega))⟩
  case round =>
    obtain ⟨k, hk, rfl, rfl, hB1, HC⟩ := hrel
    by_cases hlt : k < n
    · obtain ⟨b, off, rfl, hbl, hc⟩ := (HI.out.after hB1) (by omega)
      obtain ⟨c0, c1, c2, c3, c4⟩ := hc k hlt
      clear hc
      obtain ⟨s1, s2⟩ := Fe.sumb_bd l k
      have HU : Hid (Fe.sumb l (k + 1) = Fe.sumb l k + (Fe.cnt (l k)).b) := Lib.hid rfl
      obtain ⟨y1, y2, _⟩ := Fe.cnt_bd (l k)
      have HM : Hid (min (max (l k).b 0) 1048576 = (Fe.cnt (l k)).b) := Lib.hid (min_max _ (by omega))
      have HN : Fe.clamp (l k) (Fe.cnt (l k)).b = (Fe.cnt (l k)).b → Hid (∀ j, j < k + 1 → Fe.clamp (l j) (Fe.cnt (l j)).b = (Fe.cnt (l j)).b) := fun h => Lib.hid (fun j hj => by
        rcases Nat.lt_or_ge j k with h' | h'
        · exact HC.out j h'
        · obtain rfl : j = k := by omega
          exact h)
      generalize Fe.sumb l k = u at *
      generalize hy : (Fe.cnt (l k)).b = y at *
      clear hy
      generalize l k = x at *
      obtain ⟨x0, x1, x2, x3, x4⟩ := x
      dsimp only at c0 c1 c2 c3 c4 HM
      go_upto_region 11 with (fail)
      rw [HM.out]
      by_cases hcl : Fe.clamp ⟨x0, x1, x2, x3, x4⟩ y = y
      · replace HN := HN hcl
        have HCL := Lib.hid hcl
        clear hcl
        go_wp2_with (go_at_call 12; refine (xclamp5 x0 x1 x2 x3 x4 y _).mono ?_; rintro e w2 ⟨rfl, hb2⟩; rw [HCL.out])
        go_roundw
        case rel => exact ⟨k + 1, by omega, by go_num, by rw [HU.out], Below.after2 hB1 (Nat.le_refl _) hb2, HN⟩
        case measure => simp [intOf]; omega
      · clear HN
        generalize hz : Fe.clamp ⟨x0, x1, x2, x3, x4⟩ y = z at *
        have HZ := Lib.hid hz
        clear hz
        go_wp2_with (go_at_call 12; refine (xclamp5 x0 x1 x2 x3 x4 y _).mono ?_; rintro e w2 ⟨rfl, hb2⟩; rw [HZ.out])
        go_ret
        exact ⟨rfl, Below.after2 hB1 (Nat.le_refl _) hb2⟩
    · obtain rfl : k = n := by omega
      obtain ⟨s1, s2⟩ := Fe.sumb_bd l k
      have HT : Hid (Fe.to (Fe.sumb l k) 67108864 = Fe.sumb l k) := Lib.hid (Fe.to_id s1 (by omega))
      have HF : Hid (∀ i, i < k → (sizesOf l k (Fe.sumb l k)).getD i 0 = (Fe.cnt (l i)).b) := Lib.hid (fun i hi => by
        rw [sizes_get _ _ _ hi, HT.out]
        exact Fe.fin_still l k _ HC.out rfl i hi)
      generalize Fe.sumb l k = u at *
      go_wp2_with (go_at_call 15; refine (xsizes_any A l k c u _ (HI.out.after hB1) hn).mono ?_; rintro e w2 ⟨⟨b2, rfl, hbb2, hI2⟩, hb2⟩)
      have hB2 := Below.after2 hB1 (Nat.le_refl _) hb2
      clear hb2 hbb2 hB1
      have HI2 := Lib.hid hI2
      have HB2 := Lib.hid hB2
      clear hI2 hB2
      go_loopw [8] (fun i wr => ∃ j : Nat, j ≤ k ∧ i = .int .i64 j ∧ Below w2.heap.size w2 wr) (fun i _ => k - (intOf i).toNat)
      case atStart => exact ⟨0, by omega, rfl, Below.refl _ _⟩
      case round =>
        obtain ⟨j, hj, rfl, hB3⟩ := hrel
        by_cases hjt : j < k
        · obtain ⟨b, off, rfl, hbl, hc⟩ := (HI.out.after (Below.after2 HB2.out (Nat.le_refl _) hB3)) (by omega)
          obtain ⟨c0, -, -, -, -⟩ := hc j hjt
          clear hc
          obtain ⟨l2, d⟩ := ints_cells (HI2.out.after hB3) (k := j) (by rw [sizesOf_length]; exact hjt)
          rw [HF.out j hjt] at d
          have HM : Hid (min (max (l j).b 0) 1048576 = (Fe.cnt (l j)).b) := Lib.hid (min_max _ (by omega))
          generalize (Fe.cnt (l j)).b = y at *
          generalize (l j).b = x0 at *
          go_upto_region 18 with (fail)
          refine Drawn.wp_region_from (Below.refl _ _) (by kernel_rfl) (by kernel_rfl) (by kernel_rfl) ?_
          (repeat (first | (refine Drawn.seq_skip (by rfl) ?_; (try simp only [Act.put, List.setIfInBounds_toArray, List.set_cons_zero, List.set_cons_succ])) | (refine Drawn.seq_call (o := ⟨_, .call ⟨.value _, _, _⟩, _, _, _, _⟩) (by rfl) (by intro w2 hS; go_simp; first | done | with_reducible rfl | exact ⟨rfl, rfl⟩) (by intro w2 hS; first | ((with_reducible refine (cut_any _ _).mono ?_); rintro e w' ⟨rfl, rfl⟩; exact ⟨rfl, hS⟩)) ?_; (try simp only [Act.put, List.setIfInBounds_toArray, List.set_cons_zero, List.set_cons_succ])) | (refine Drawn.seq_value (by rfl) (by intro w2 hS; obtain ⟨hc, hf⟩ := bcell hS; go_simp; first | done | with_reducible rfl | exact ⟨rfl, rfl⟩) ?_; (try simp only [Act.put, List.setIfInBounds_toArray, List.set_cons_zero, List.set_cons_succ]))))
          refine Drawn.seq_end ?_; intro w2 hS
          rw [HM.out]
          go_wp2
          go_roundw
          case rel => exact ⟨j + 1, by omega, by go_num, Below.after2 hB3 (Nat.le_refl _) hS⟩
          case measure => simp [intOf]; omega
        · obtain rfl : j = k := by omega
          go_wp2
          go_ret
          exact ⟨rfl, Below.after2 HB2.out (Nat.le_refl _) hB3⟩

theorem fstill_walk (a0 : Option Addr) (len0 cap0 : Nat) (w : World) (h0 : IRow w a0 len0 cap0) :
    Calls Try.prog 8 #[.slice a0 len0 cap0] w fun e w' => e = .returned (.bool true) ∧ Below w.heap.size w w' := by
  obtain ⟨l, hl⟩ := h0.items
  by_cases h : 64 < len0
  · exact fstill_out a0 len0 cap0 w h0.cap.2 h
  · exact fstill_core a0 l len0 cap0 w hl (by omega)

end Go.Proofs.Ytefofdjkinbfgaa.Fix
