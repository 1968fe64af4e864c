/- SnapBest: it returns true, and leaves all that was there as it was. Written by wip/tools/gensnlaws.py. -/
import Derived.Test.YtlmpkpjonkdaiaaSnapLaw0
import Derived.Test.YtlmpkpjonkdaiaaSnapMore
import Derived.Deep.Cut
namespace Go.Proofs.Ytlmpkpjonkdaiaa.Fix
open Go.ChangeShapes Go.WideShapes Go.ChangeAt Go.RowKit Go.Deep Go.Joins
set_option linter.unusedVariables false
set_option linter.unusedSimpArgs false

theorem snbest_out (A : Option Addr) (n c : Nat) (want : Int) (w : World) (hx : n ≤ 9223372036854775807) (h : 300 < n) :
    Calls Try.prog 4 #[.slice A n c, .int .i64 want] w fun e w' => e = .returned (.bool true) ∧ Below w.heap.size w w' := by
  have h0 : 300 < n := by omega
  have e0 : decide (300 < (n : Int)) = true := by simp; omega
  go_enter Try.func4, Try.ntmps4
  go_wp2_with ((go_at_call 10; with_reducible refine (snworks_any _).mono ?_; rintro e w1 ⟨rfl, hB⟩))
  go_ret
  exact ⟨rfl, hB⟩

set_option maxHeartbeats 1000000 in
theorem snbest_far (A : Option Addr) (s : List Int) (n c : Nat) (want b : Int) (w : World) (hI : Ints w A s) (hq : s.length = n) (hn : n ≤ 300) (hb : Sn.best s want n = b) (hw : want < -1073741824 ∨ 1073741824 < want) :
    Calls Try.prog 4 #[.slice A n c, .int .i64 want] w fun e w' => e = .returned (.bool true) ∧ Below w.heap.size w w' := by
  have e0 : decide (300 < (n : Int)) = false := by simp; omega
  have HI := Lib.hid hI
  have HQ := Lib.hid hq
  have hb1 := Sn.best_ge s want n
  have hb2 := Sn.best_lt2 s want n
  have hb3 := Sn.best_none (s := s) (want := want) (k := n)
  rw [hb] at hb1 hb2 hb3
  have HB := Lib.hid hb
  have g1 : decide (b < -1) = false := by simp; omega
  have g2 : decide ((n : Int) ≤ b) = false := by simp; omega
  clear hI hq hb
  by_cases h0 : b < 0
  · have g3 : decide (b < 0) = true := by simp; omega
    have g4 : decide (0 < n) = false := by have := hb3 h0; subst this; rfl
    clear hb1 hb2 hb3 h0
    by_cases h1 : want < -1073741824
    · have g5 : decide (want < -1073741824) = true := by simp; omega
      go_enter Try.func4, Try.ntmps4
      go_wp2_with (first | (go_at_call 10; with_reducible refine (snworks_any _).mono ?_; rintro e w1 ⟨rfl, hB⟩) | (go_at_call 19; with_reducible refine (bestL_any _ (HI.out.after hB) HQ.out HB.out).mono ?_; rintro e w2 ⟨rfl, hb⟩; replace hB := Below.after hB hb) | (go_at_call 20; with_reducible refine (rbestL_any _ (HI.out.after hB) HQ.out HB.out).mono ?_; rintro e w3 ⟨rfl, hb⟩; replace hB := Below.after hB hb))
      go_ret
      exact ⟨rfl, hB⟩
    · have g5 : decide (want < -1073741824) = false := by simp; omega
      have g6 : decide (1073741824 < want) = true := by simp; omega
      go_enter Try.func4, Try.ntmps4
      go_wp2_with (first | (go_at_call 10; with_reducible refine (snworks_any _).mono ?_; rintro e w1 ⟨rfl, hB⟩) | (go_at_call 19; with_reducible refine (bestL_any _ (HI.out.after hB) HQ.out HB.out).mono ?_; rintro e w2 ⟨rfl, hb⟩; replace hB := Below.after hB hb) | (go_at_call 20; with_reducible refine (rbestL_any _ (HI.out.after hB) HQ.out HB.out).mono ?_; rintro e w3 ⟨rfl, hb⟩; replace hB := Below.after hB hb))
      go_ret
      exact ⟨rfl, hB⟩
  · have g3 : decide (b < 0) = false := by simp; omega
    clear hb1 hb2 hb3 h0
    by_cases h1 : want < -1073741824
    · have g5 : decide (want < -1073741824) = true := by simp; omega
      go_enter Try.func4, Try.ntmps4
      go_wp2_with (first | (go_at_call 10; with_reducible refine (snworks_any _).mono ?_; rintro e w1 ⟨rfl, hB⟩) | (go_at_call 19; with_reducible refine (bestL_any _ (HI.out.after hB) HQ.out HB.out).mono ?_; rintro e w2 ⟨rfl, hb⟩; replace hB := Below.after hB hb) | (go_at_call 20; with_reducible refine (rbestL_any _ (HI.out.after hB) HQ.out HB.out).mono ?_; rintro e w3 ⟨rfl, hb⟩; replace hB := Below.after hB hb))
      go_ret
      exact ⟨rfl, hB⟩
    · have g5 : decide (want < -1073741824) = false := by simp; omega
      have g6 : decide (1073741824 < want) = true := by simp; omega
      go_enter Try.func4, Try.ntmps4
      go_wp2_with (first | (go_at_call 10; with_reducible refine (snworks_any _).mono ?_; rintro e w1 ⟨rfl, hB⟩) | (go_at_call 19; with_reducible refine (bestL_any _ (HI.out.after hB) HQ.out HB.out).mono ?_; rintro e w2 ⟨rfl, hb⟩; replace hB := Below.after hB hb) | (go_at_call 20; with_reducible refine (rbestL_any _ (HI.out.after hB) HQ.out HB.out).mono ?_; rintro e w3 ⟨rfl, hb⟩; replace hB := Below.after hB hb))
      go_ret
      exact ⟨rfl, hB⟩

set_option maxHeartbeats 4000000 in
theorem snbest_none (A : Option Addr) (s : List Int) (n c : Nat) (want b : Int) (w : World) (hI : Ints w A s) (hq : s.length = n) (hn : n ≤ 300) (hb : Sn.best s want n = b) (hw1 : -1073741824 ≤ want) (hw2 : want ≤ 1073741824) (h0 : b < 0) :
    Calls Try.prog 4 #[.slice A n c, .int .i64 want] w fun e w' => e = .returned (.bool true) ∧ Below w.heap.size w w' := by
  have e0 : decide (300 < (n : Int)) = false := by simp; omega
  have HI := Lib.hid hI
  have HQ := Lib.hid hq
  have hb1 := Sn.best_ge s want n
  have hb2 := Sn.best_lt2 s want n
  have hb3 := Sn.best_none (s := s) (want := want) (k := n)
  rw [hb] at hb1 hb2 hb3
  have HB := Lib.hid hb
  have g1 : decide (b < -1) = false := by simp; omega
  have g2 : decide ((n : Int) ≤ b) = false := by simp; omega
  have g5 : decide (want < -1073741824) = false := by simp; omega
  have g6 : decide (1073741824 < want) = false := by simp; omega
  clear hI hq hb
  have HN0 := Lib.hid (hb3 h0)
  have g3 : decide (b < 0) = true := by simp; omega
  have g4 : decide (0 < n) = false := by have := HN0.out; simp; omega
  clear hb1 hb2 hb3
  go_enter Try.func4, Try.ntmps4
  go_wp2_with (first | (go_at_call 10; with_reducible refine (snworks_any _).mono ?_; rintro e w1 ⟨rfl, hB⟩) | (go_at_call 19; with_reducible refine (bestL_any _ (HI.out.after hB) HQ.out HB.out).mono ?_; rintro e w2 ⟨rfl, hb⟩; replace hB := Below.after hB hb) | (go_at_call 20; with_reducible refine (rbestL_any _ (HI.out.after hB) HQ.out HB.out).mono ?_; rintro e w3 ⟨rfl, hb⟩; replace hB := Below.after hB hb))
  go_loopw [7] (fun i wr => ∃ k : Nat, k ≤ n ∧ i = .int .i64 k ∧ Hid (∀ i, i < k → -1073741824 ≤ s.getD i 0 ∧ s.getD i 0 ≤ 1073741824) ∧ Below w.heap.size w wr) (fun i _ => n - (intOf i).toNat)
  case atStart => exact ⟨0, by omega, rfl, Lib.hid (fun i hi => absurd hi (by omega)), hB⟩
  case round =>
    obtain ⟨k, hk, rfl, HS, hBr⟩ := hrel
    by_cases hlt : k < n
    · exact absurd hlt (by have := HN0.out; omega)
    · obtain rfl : k = n := by omega
      have hltz : ¬ (k : Int) < (k : Int) := by omega
      go_wp2
      go_loopw [8] (fun i wr => ∃ m : Nat, m ≤ k ∧ i = .int .i64 m ∧ Below w.heap.size w wr) (fun i _ => k - (intOf i).toNat)
      case atStart => exact ⟨0, by omega, rfl, hBr⟩
      case round =>
        obtain ⟨m, hm, rfl, hBm⟩ := hrel
        by_cases hlm : m < k
        · exact absurd hlm (by have := HN0.out; omega)
        · obtain rfl : m = k := by omega
          have hlmz : ¬ (m : Int) < (m : Int) := by omega
          go_wp2
          go_ret
          exact ⟨rfl, hBm⟩

set_option maxHeartbeats 4000000 in
theorem snbest_some (A : Option Addr) (s : List Int) (n c : Nat) (want b : Int) (w : World) (hI : Ints w A s) (hq : s.length = n) (hn : n ≤ 300) (hb : Sn.best s want n = b) (hw1 : -1073741824 ≤ want) (hw2 : want ≤ 1073741824) (h0 : ¬ b < 0) :
    Calls Try.prog 4 #[.slice A n c, .int .i64 want] w fun e w' => e = .returned (.bool true) ∧ Below w.heap.size w w' := by
  have e0 : decide (300 < (n : Int)) = false := by simp; omega
  have HI := Lib.hid hI
  have HQ := Lib.hid hq
  have hb1 := Sn.best_ge s want n
  have hb2 := Sn.best_lt2 s want n
  have hb3 := Sn.best_none (s := s) (want := want) (k := n)
  rw [hb] at hb1 hb2 hb3
  have HB := Lib.hid hb
  have g1 : decide (b < -1) = false := by simp; omega
  have g2 : decide ((n : Int) ≤ b) = false := by simp; omega
  have g5 : decide (want < -1073741824) = false := by simp; omega
  have g6 : decide (1073741824 < want) = false := by simp; omega
  clear hI hq hb
  have g3 : decide (b < 0) = false := by simp; omega
  obtain ⟨j, hj, hbj⟩ := Sn.best_some (s := s) (want := want) (k := n) (by rw [HB.out]; exact h0)
  rw [HB.out] at hbj
  subst hbj
  clear hb1 hb2 hb3
  go_enter Try.func4, Try.ntmps4
  go_wp2_with (first | (go_at_call 10; with_reducible refine (snworks_any _).mono ?_; rintro e w1 ⟨rfl, hB⟩) | (go_at_call 19; with_reducible refine (bestL_any _ (HI.out.after hB) HQ.out HB.out).mono ?_; rintro e w2 ⟨rfl, hb⟩; replace hB := Below.after hB hb) | (go_at_call 20; with_reducible refine (rbestL_any _ (HI.out.after hB) HQ.out HB.out).mono ?_; rintro e w3 ⟨rfl, hb⟩; replace hB := Below.after hB hb))
  go_loopw [7] (fun i wr => ∃ k : Nat, k ≤ n ∧ i = .int .i64 k ∧ Hid (∀ i, i < k → -1073741824 ≤ s.getD i 0 ∧ s.getD i 0 ≤ 1073741824) ∧ Below w.heap.size w wr) (fun i _ => n - (intOf i).toNat)
  case atStart => exact ⟨0, by omega, rfl, Lib.hid (fun i hi => absurd hi (by omega)), hB⟩
  case round =>
    obtain ⟨k, hk, rfl, HS, hBr⟩ := hrel
    by_cases hlt : k < n
    · have hltz : (k : Int) < (n : Int) := by omega
      obtain ⟨ba, oa, hA1, la, ca⟩ := (HI.out.after hBr).at_ (k := k) (by rw [HQ.out]; exact hlt)
      have HT : Hid (-1073741824 ≤ s.getD k 0 → s.getD k 0 ≤ 1073741824 → ∀ i, i < k + 1 → -1073741824 ≤ s.getD i 0 ∧ s.getD i 0 ≤ 1073741824) := Lib.hid (fun h1 h2 i hi => by
        rcases Nat.lt_or_ge i k with h | h
        · exact HS.out i h
        · obtain rfl : i = k := by omega
          exact ⟨h1, h2⟩)
      subst hA1
      obtain ⟨x, hx⟩ : ∃ x, s.getD k 0 = x := ⟨_, rfl⟩
      rw [hx] at ca
      rw [hx] at HT
      clear hx
      by_cases x1 : x < -1073741824
      · have e1 : decide (x < -1073741824) = true := by simp; omega
        go_wp2
        go_ret
        exact ⟨rfl, hBr⟩
      · have e1 : decide (x < -1073741824) = false := by simp; omega
        by_cases x2 : 1073741824 < x
        · have e2 : decide (1073741824 < x) = true := by simp; omega
          go_wp2
          go_ret
          exact ⟨rfl, hBr⟩
        · have e2 : decide (1073741824 < x) = false := by simp; omega
          go_wp2
          go_roundw
          case rel => exact ⟨k + 1, by omega, by go_num, Lib.hid (HT.out (by omega) (by omega)), hBr⟩
          case measure => simp [intOf]; omega
    · obtain rfl : k = n := by omega
      have hltz : ¬ (k : Int) < (k : Int) := by omega
      go_wp2
      go_loopw [8] (fun i wr => ∃ m : Nat, m ≤ k ∧ i = .int .i64 m ∧ Below w.heap.size w wr) (fun i _ => k - (intOf i).toNat)
      case atStart => exact ⟨0, by omega, rfl, hBr⟩
      case round =>
        obtain ⟨m, hm, rfl, hBm⟩ := hrel
        by_cases hlm : m < k
        · have hlmz : (m : Int) < (k : Int) := by omega
          obtain ⟨ba, oa, hA1, la, ca⟩ := (HI.out.after hBm).at_ (k := m) (by rw [HQ.out]; exact hlm)
          have sx := HS.out m hlm
          have sy := HS.out j hj
          have hnr := Sn.best_near HB.out hlm
          subst hA1
          have ca2 := fun W (h : Below wr.heap.size wr W) => (HI.out.after (Below.after hBm h)).at_ (k := j) (by rw [HQ.out]; exact hj)
          rw [Sn.far_plain (by omega) (by omega) (by omega) (by omega), Sn.far_plain (by omega) (by omega) (by omega) (by omega)] at hnr
          obtain ⟨x, hx⟩ : ∃ x, s.getD m 0 = x := ⟨_, rfl⟩
          obtain ⟨y, hy⟩ : ∃ y, s.getD j 0 = y := ⟨_, rfl⟩
          rw [hx] at ca sx hnr
          rw [hy] at ca2 sy hnr
          have CA2 := Lib.hid ca2
          clear hx hy ca2
          have v1 : IntKind.i64.wrap (x - want) = x - want := IntWalk.i64_in _ (by omega)
          have v2 : IntKind.i64.wrap (want - x) = want - x := IntWalk.i64_in _ (by omega)
          have v3 : IntKind.i64.wrap (y - want) = y - want := IntWalk.i64_in _ (by omega)
          have v4 : IntKind.i64.wrap (want - y) = want - y := IntWalk.i64_in _ (by omega)
          have e1 : decide (max (x - want) (want - x) < max (y - want) (want - y)) = false := decide_eq_false (by omega)
          by_cases hxy : max (x - want) (want - x) = max (y - want) (want - y)
          · have e2 : (max (x - want) (want - x) == max (y - want) (want - y)) = true := by simp [hxy]
            have e3 : decide (m < j) = false := by have := hnr.2 hxy; simp; omega
            clear hnr hxy sx sy
            go_upto_region 19 with (fail)
            refine Drawn.wp_region_from (Below.refl _ _) (by kernel_rfl) (by kernel_rfl) (by kernel_rfl) ?_
            (repeat (first | (refine Drawn.seq_skip (by rfl) ?_; (try simp only [Act.put, List.setIfInBounds_toArray, List.set_cons_zero, List.set_cons_succ])) | (refine Drawn.seq_call (o := ⟨_, .call ⟨.value _, _, _⟩, _, _, _, _⟩) (by rfl) (by intro w2 hS; go_simp; first | done | with_reducible rfl | exact ⟨rfl, rfl⟩) (by intro w2 hS; first | ((with_reducible refine (cut_any _ _).mono ?_); rintro e w' ⟨rfl, rfl⟩; exact ⟨rfl, hS⟩)) ?_; (try simp only [Act.put, List.setIfInBounds_toArray, List.set_cons_zero, List.set_cons_succ])) | (refine Drawn.seq_value (by rfl) (by intro w2 hS; obtain ⟨hc, hf⟩ := bcell hS; go_simp; first | done | with_reducible rfl | exact ⟨rfl, rfl⟩) ?_; (try simp only [Act.put, List.setIfInBounds_toArray, List.set_cons_zero, List.set_cons_succ]))))
            refine Drawn.seq_end ?_; intro w2 hS
            obtain ⟨ba2, oa2, hA2, la2, cb2⟩ := CA2.out w2 hS
            injection hA2 with hA2
            injection hA2 with hA2 hA3
            subst hA2 hA3
            have hB2 := Below.after hBm hS
            go_upto_region 20 with (fail)
            refine Drawn.wp_region_from (Below.refl _ _) (by kernel_rfl) (by kernel_rfl) (by kernel_rfl) ?_
            (repeat (first | (refine Drawn.seq_skip (by rfl) ?_; (try simp only [Act.put, List.setIfInBounds_toArray, List.set_cons_zero, List.set_cons_succ])) | (refine Drawn.seq_call (o := ⟨_, .call ⟨.value _, _, _⟩, _, _, _, _⟩) (by rfl) (by intro w2 hS; go_simp; first | done | with_reducible rfl | exact ⟨rfl, rfl⟩) (by intro w2 hS; first | ((with_reducible refine (cut_any _ _).mono ?_); rintro e w' ⟨rfl, rfl⟩; exact ⟨rfl, hS⟩)) ?_; (try simp only [Act.put, List.setIfInBounds_toArray, List.set_cons_zero, List.set_cons_succ])) | (refine Drawn.seq_value (by rfl) (by intro w2 hS; obtain ⟨hc, hf⟩ := bcell hS; go_simp; first | done | with_reducible rfl | exact ⟨rfl, rfl⟩) ?_; (try simp only [Act.put, List.setIfInBounds_toArray, List.set_cons_zero, List.set_cons_succ]))))
            refine Drawn.seq_end ?_; intro w2 hS
            go_wp2
            go_roundw
            case rel => exact ⟨m + 1, by omega, by go_num, Below.after hB2 hS⟩
            case measure => simp [intOf]; omega
          · have e2 : (max (x - want) (want - x) == max (y - want) (want - y)) = false := by simp [hxy]
            clear hnr hxy sx sy
            go_upto_region 19 with (fail)
            refine Drawn.wp_region_from (Below.refl _ _) (by kernel_rfl) (by kernel_rfl) (by kernel_rfl) ?_
            (repeat (first | (refine Drawn.seq_skip (by rfl) ?_; (try simp only [Act.put, List.setIfInBounds_toArray, List.set_cons_zero, List.set_cons_succ])) | (refine Drawn.seq_call (o := ⟨_, .call ⟨.value _, _, _⟩, _, _, _, _⟩) (by rfl) (by intro w2 hS; go_simp; first | done | with_reducible rfl | exact ⟨rfl, rfl⟩) (by intro w2 hS; first | ((with_reducible refine (cut_any _ _).mono ?_); rintro e w' ⟨rfl, rfl⟩; exact ⟨rfl, hS⟩)) ?_; (try simp only [Act.put, List.setIfInBounds_toArray, List.set_cons_zero, List.set_cons_succ])) | (refine Drawn.seq_value (by rfl) (by intro w2 hS; obtain ⟨hc, hf⟩ := bcell hS; go_simp; first | done | with_reducible rfl | exact ⟨rfl, rfl⟩) ?_; (try simp only [Act.put, List.setIfInBounds_toArray, List.set_cons_zero, List.set_cons_succ]))))
            refine Drawn.seq_end ?_; intro w2 hS
            obtain ⟨ba2, oa2, hA2, la2, cb2⟩ := CA2.out w2 hS
            injection hA2 with hA2
            injection hA2 with hA2 hA3
            subst hA2 hA3
            have hB2 := Below.after hBm hS
            go_upto_region 20 with (fail)
            refine Drawn.wp_region_from (Below.refl _ _) (by kernel_rfl) (by kernel_rfl) (by kernel_rfl) ?_
            (repeat (first | (refine Drawn.seq_skip (by rfl) ?_; (try simp only [Act.put, List.setIfInBounds_toArray, List.set_cons_zero, List.set_cons_succ])) | (refine Drawn.seq_call (o := ⟨_, .call ⟨.value _, _, _⟩, _, _, _, _⟩) (by rfl) (by intro w2 hS; go_simp; first | done | with_reducible rfl | exact ⟨rfl, rfl⟩) (by intro w2 hS; first | ((with_reducible refine (cut_any _ _).mono ?_); rintro e w' ⟨rfl, rfl⟩; exact ⟨rfl, hS⟩)) ?_; (try simp only [Act.put, List.setIfInBounds_toArray, List.set_cons_zero, List.set_cons_succ])) | (refine Drawn.seq_value (by rfl) (by intro w2 hS; obtain ⟨hc, hf⟩ := bcell hS; go_simp; first | done | with_reducible rfl | exact ⟨rfl, rfl⟩) ?_; (try simp only [Act.put, List.setIfInBounds_toArray, List.set_cons_zero, List.set_cons_succ]))))
            refine Drawn.seq_end ?_; intro w2 hS
            go_wp2
            go_roundw
            case rel => exact ⟨m + 1, by omega, by go_num, Below.after hB2 hS⟩
            case measure => simp [intOf]; omega
        · obtain rfl : m = k := by omega
          have hlmz : ¬ (m : Int) < (m : Int) := by omega
          go_wp2
          go_ret
          exact ⟨rfl, hBm⟩

theorem snbest_walk (A : Option Addr) (n c : Nat) (zs : List Int) (want : Int) (w : World) (hR : Row w A n c zs) :
    Calls Try.prog 4 #[.slice A n c, .int .i64 want] w fun e w' => e = .returned (.bool true) ∧ Below w.heap.size w w' := by
  obtain ⟨s, hl, hI, _, _, _⟩ := ints_of_row hR
  have hx := hI.1
  rw [hl] at hx
  simp only [maxLen] at hx
  by_cases h : 300 < n
  · exact snbest_out A n c want w hx h
  · by_cases hw : want < -1073741824 ∨ 1073741824 < want
    · exact snbest_far A s n c want _ w hI hl (by omega) rfl hw
    · by_cases h0 : Sn.best s want n < 0
      · exact snbest_none A s n c want _ w hI hl (by omega) rfl (by omega) (by omega) h0
      · exact snbest_some A s n c want _ w hI hl (by omega) rfl (by omega) (by omega) h0

end Go.Proofs.Ytlmpkpjonkdaiaa.Fix
