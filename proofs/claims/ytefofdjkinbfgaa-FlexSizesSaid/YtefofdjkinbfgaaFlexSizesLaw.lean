/- The statement FlexSizes: the program's Sizes and Clamp are the document's. -/
import Derived.Test.YtefofdjkinbfgaaFlexRefS
namespace Go.Proofs.Ytefofdjkinbfgaa.Fix
open Go.ChangeShapes Go.WideShapes Go.ChangeAt Go.RowKit
set_option linter.unusedVariables false

set_option maxRecDepth 100000 in
/-- Of more than 64 the document has nothing. -/
theorem rsizes_none (A : Option Addr) (n c : Nat) (x : Int) (w : World) (hn : 64 < n) : Calls Try.prog 16 #[.slice A n c, .int .i64 x] w fun e w' => e = .returned (.slice none 0 0) ∧ w = w' := by
  go_enter Try.func16, Try.ntmps16
  go_wp2
  go_ret
  exact ⟨rfl, rfl⟩

theorem ints_nil2 (w : World) : Ints w none [] := ⟨by simp, fun h => absurd h (by simp)⟩

theorem fsizes_out (A : Option Addr) (n c : Nat) (x m : Int) (w : World) (h : 100 < n) :
    Calls Try.prog 3 #[.slice A n c, .int .i64 x, .int .i64 m] w fun e w' => e = .returned (.bool true) ∧ Below w.heap.size w w' := by
  go_enter Try.func3, Try.ntmps3
  go_wp2_with (go_at_call 10; with_reducible refine (fworks_any _).mono ?_; rintro e w1 ⟨rfl, hB⟩)
  go_ret
  exact ⟨rfl, hB⟩

set_option maxHeartbeats 8000000 in
theorem fsizes_mid (A : Option Addr) (l : Nat → Fe.It) (n c : Nat) (x m : Int) (w : World) (hI : Items w A l n) (hn : 64 < n) (hn2 : n ≤ 100) :
    Calls Try.prog 3 #[.slice A n c, .int .i64 x, .int .i64 m] w fun e w' => e = .returned (.bool true) ∧ Below w.heap.size w w' := by
  have HI := Lib.hid hI
  clear hI
  go_enter Try.func3, Try.ntmps3
  go_upto_region 7 with (first | (go_at_call 10; with_reducible refine (fworks_any _).mono ?_; rintro e w1 ⟨rfl, hB⟩) | (go_at_call 11; refine (of_any A l n c _ (HI.out.after hB) (by omega)).mono ?_; rintro e w5 ⟨⟨D, d, rfl, hID⟩, hb5⟩))
  have hB2 := Below.after2 hB (Nat.le_refl _) hb5
  have HI2 := Lib.hid (HI.out.after hB2)
  have HD := Lib.hid hID
  clear hB hb5 hID HI
  have h0 : 0 < n := by omega
  have hnz : (0 : Int) < (n : Int) := by omega
  have hn0 : 0 < n := h0
  obtain ⟨b, off, rfl, hbl, hc⟩ := HI2.out h0
  obtain ⟨c0, c1, c2, c3, c4⟩ := hc 0 h0
  obtain ⟨bd, od, rfl, hdl, hd⟩ := HD.out h0
  obtain ⟨d0, d1, d2, d3, d4⟩ := hd 0 h0
  clear hc hd
  simp only [Nat.zero_mul, Nat.add_zero] at c0 c1 c2 c3 c4 d0 d1 d2 d3 d4
  generalize l 0 = q at *
  obtain ⟨x0, x1, x2, x3, x4⟩ := q
  dsimp only at c0 c1 c2 c3 c4 d0 d1 d2 d3 d4
  refine Drawn.wp_region_from (Below.refl _ _) (by kernel_rfl) (by kernel_rfl) (by kernel_rfl) ?_
  (repeat (first | (refine Drawn.seq_skip (by rfl) ?_; (try simp only [Act.put, List.setIfInBounds_toArray, List.set_cons_zero, List.set_cons_succ])) | (refine Drawn.seq_call (o := ⟨_, .call ⟨.value _, _, _⟩, _, _, _, _⟩) (by rfl) (by intro w2 hS; go_simp; first | done | with_reducible rfl | exact ⟨rfl, rfl⟩) (by intro w2 hS; first | ((with_reducible refine (xclamp5 _ _ _ _ _ _ _).mono ?_); rintro e w' ⟨rfl, hb⟩; exact ⟨rfl, Below.after hS hb⟩) | ((with_reducible refine (rxclamp5 _ _ _ _ _ _ _).mono ?_); rintro e w' ⟨rfl, hb⟩; exact ⟨rfl, Below.after hS hb⟩)) ?_; (try simp only [Act.put, List.setIfInBounds_toArray, List.set_cons_zero, List.set_cons_succ])) | (refine Drawn.seq_value (by rfl) (by intro w2 hS; obtain ⟨hc, hf⟩ := bcell hS; go_simp; first | done | with_reducible rfl | exact ⟨rfl, rfl⟩) ?_; (try simp only [Act.put, List.setIfInBounds_toArray, List.set_cons_zero, List.set_cons_succ]))))
  refine Drawn.seq_end ?_; intro w2 hS
  have hB3 := Below.after2 hB2 (Nat.le_refl _) hS
  have hI5 := HI2.out.after hS
  have hD5 := HD.out.after hS
  clear hS hB2
  go_wp2_with (first | (go_at_call 15; refine (xsizes_none _ n c x _ (by omega)).mono ?_; rintro e w6 ⟨rfl, rfl⟩) | (go_at_call 16; refine (rsizes_none _ n d x _ (by omega)).mono ?_; rintro e w7 ⟨rfl, rfl⟩) | (go_at_call 14; refine (row_any none none [] 0 0 0 _ (ints_nil2 _) (ints_nil2 _) rfl (by omega)).mono ?_; rintro e w8 ⟨rfl, hb8⟩))
  go_ret
  exact ⟨rfl, Below.after2 hB3 (Nat.le_refl _) hb8⟩

set_option maxHeartbeats 8000000 in
theorem fsizes_core (A : Option Addr) (l : Nat → Fe.It) (n c : Nat) (x m : Int) (w : World) (hI : Items w A l n) (hn : n ≤ 64) :
    Calls Try.prog 3 #[.slice A n c, .int .i64 x, .int .i64 m] w fun e w' => e = .returned (.bool true) ∧ Below w.heap.size w w' := by
  have HI := Lib.hid hI
  clear hI
  go_enter Try.func3, Try.ntmps3
  go_upto_region 7 with (first | (go_at_call 10; with_reducible refine (fworks_any _).mono ?_; rintro e w1 ⟨rfl, hB⟩) | (go_at_call 11; refine (of_any A l n c _ (HI.out.after hB) (by omega)).mono ?_; rintro e w5 ⟨⟨D, d, rfl, hID⟩, hb5⟩))
  have hB2 := Below.after2 hB (Nat.le_refl _) hb5
  have HI2 := Lib.hid (HI.out.after hB2)
  have HD := Lib.hid hID
  clear hB hb5 hID HI
  rcases Nat.eq_zero_or_pos n with h0 | h0
  · subst h0
    · refine Drawn.wp_region_from (Below.refl _ _) (by kernel_rfl) (by kernel_rfl) (by kernel_rfl) ?_
      (repeat (first | (refine Drawn.seq_skip (by rfl) ?_; (try simp only [Act.put, List.setIfInBounds_toArray, List.set_cons_zero, List.set_cons_succ])) | (refine Drawn.seq_call (o := ⟨_, .call ⟨.value _, _, _⟩, _, _, _, _⟩) (by rfl) (by intro w2 hS; go_simp; first | done | with_reducible rfl | exact ⟨rfl, rfl⟩) (by intro w2 hS; first | ((with_reducible refine (xclamp5 _ _ _ _ _ _ _).mono ?_); rintro e w' ⟨rfl, hb⟩; exact ⟨rfl, Below.after hS hb⟩) | ((with_reducible refine (rxclamp5 _ _ _ _ _ _ _).mono ?_); rintro e w' ⟨rfl, hb⟩; exact ⟨rfl, Below.after hS hb⟩)) ?_; (try simp only [Act.put, List.setIfInBounds_toArray, List.set_cons_zero, List.set_cons_succ])) | (refine Drawn.seq_value (by rfl) (by intro w2 hS; obtain ⟨hc, hf⟩ := bcell hS; go_simp; first | done | with_reducible rfl | exact ⟨rfl, rfl⟩) ?_; (try simp only [Act.put, List.setIfInBounds_toArray, List.set_cons_zero, List.set_cons_succ]))))
      refine Drawn.seq_end ?_; intro w2 hS
      have hB3 := Below.after2 hB2 (Nat.le_refl _) hS
      have hI5 := HI2.out.after hS
      have hD5 := HD.out.after hS
      clear hS hB2
      go_wp2_with (first | (go_at_call 15; refine (xsizes_any A l 0 c x _ hI5 hn).mono ?_; rintro e w6 ⟨⟨b6, rfl, hbb6, hI6⟩, hb6⟩) | (go_at_call 16; refine (rsizes_any D l 0 d x _ (hD5.after hb6) hn).mono ?_; rintro e w7 ⟨⟨b7, rfl, hI7⟩, hb7⟩) | (go_at_call 14; refine (row_any _ _ (sizesOf l 0 x) 0 0 0 _ (hI6.after hb7) hI7 (sizesOf_length _ _ _) (by omega)).mono ?_; rintro e w8 ⟨rfl, hb8⟩))
      go_ret
      exact ⟨rfl, Below.after2 (Below.after2 (Below.after2 hB3 (Nat.le_refl _) hb6) (Nat.le_refl _) hb7) (Nat.le_refl _) hb8⟩
  · have hnz : (0 : Int) < (n : Int) := by omega
    have hn0 : 0 < n := h0
    obtain ⟨b, off, rfl, hbl, hc⟩ := HI2.out h0
    obtain ⟨c0, c1, c2, c3, c4⟩ := hc 0 h0
    obtain ⟨bd, od, rfl, hdl, hd⟩ := HD.out h0
    obtain ⟨d0, d1, d2, d3, d4⟩ := hd 0 h0
    clear hc hd
    simp only [Nat.zero_mul, Nat.add_zero] at c0 c1 c2 c3 c4 d0 d1 d2 d3 d4
    generalize l 0 = q at *
    obtain ⟨x0, x1, x2, x3, x4⟩ := q
    dsimp only at c0 c1 c2 c3 c4 d0 d1 d2 d3 d4
    refine Drawn.wp_region_from (Below.refl _ _) (by kernel_rfl) (by kernel_rfl) (by kernel_rfl) ?_
    (repeat (first | (refine Drawn.seq_skip (by rfl) ?_; (try simp only [Act.put, List.setIfInBounds_toArray, List.set_cons_zero, List.set_cons_succ])) | (refine Drawn.seq_call (o := ⟨_, .call ⟨.value _, _, _⟩, _, _, _, _⟩) (by rfl) (by intro w2 hS; go_simp; first | done | with_reducible rfl | exact ⟨rfl, rfl⟩) (by intro w2 hS; first | ((with_reducible refine (xclamp5 _ _ _ _ _ _ _).mono ?_); rintro e w' ⟨rfl, hb⟩; exact ⟨rfl, Below.after hS hb⟩) | ((with_reducible refine (rxclamp5 _ _ _ _ _ _ _).mono ?_); rintro e w' ⟨rfl, hb⟩; exact ⟨rfl, Below.after hS hb⟩)) ?_; (try simp only [Act.put, List.setIfInBounds_toArray, List.set_cons_zero, List.set_cons_succ])) | (refine Drawn.seq_value (by rfl) (by intro w2 hS; obtain ⟨hc, hf⟩ := bcell hS; go_simp; first | done | with_reducible rfl | exact ⟨rfl, rfl⟩) ?_; (try simp only [Act.put, List.setIfInBounds_toArray, List.set_cons_zero, List.set_cons_succ]))))
    refine Drawn.seq_end ?_; intro w2 hS
    have hB3 := Below.after2 hB2 (Nat.le_refl _) hS
    have hI5 := HI2.out.after hS
    have hD5 := HD.out.after hS
    clear hS hB2
    go_wp2_with (first | (go_at_call 15; refine (xsizes_any _ l n c x _ hI5 hn).mono ?_; rintro e w6 ⟨⟨b6, rfl, hbb6, hI6⟩, hb6⟩) | (go_at_call 16; refine (rsizes_any _ l n d x _ (hD5.after hb6) hn).mono ?_; rintro e w7 ⟨⟨b7, rfl, hI7⟩, hb7⟩) | (go_at_call 14; refine (row_any _ _ (sizesOf l n x) n n n _ (hI6.after hb7) hI7 (sizesOf_length _ _ _) (by omega)).mono ?_; rintro e w8 ⟨rfl, hb8⟩))
    go_ret
    exact ⟨rfl, Below.after2 (Below.after2 (Below.after2 hB3 (Nat.le_refl _) hb6) (Nat.le_refl _) hb7) (Nat.le_refl _) hb8⟩

theorem fsizes_walk (a0 : Option Addr) (len0 cap0 : Nat) (x m : Int) (w : World) (h0 : IRow w a0 len0 cap0) :
    Calls Try.prog 3 #[.slice a0 len0 cap0, .int .i64 x, .int .i64 m] w fun e w' => e = .returned (.bool true) ∧ Below w.heap.size w w' := by
  obtain ⟨l, hl⟩ := h0.items
  by_cases h : 100 < len0
  · exact fsizes_out a0 len0 cap0 x m w h
  · by_cases h2 : 64 < len0
    · exact fsizes_mid a0 l len0 cap0 x m w hl h2 (by omega)
    · exact fsizes_core a0 l len0 cap0 x m w hl (by omega)

end Go.Proofs.Ytefofdjkinbfgaa.Fix
