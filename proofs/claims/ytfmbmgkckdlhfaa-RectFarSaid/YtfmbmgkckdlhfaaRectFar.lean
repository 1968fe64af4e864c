/- RectFar: it returns true, and leaves all that was there as it was. -/
import Derived.Test.YtfmbmgkckdlhfaaRectLaws
import Derived.Test.YtfmbmgkckdlhfaaRectMore
import Derived.IntWalk
namespace Go.Proofs.Ytfmbmgkckdlhfaa.Fix
open Go.ChangeShapes Go.WideShapes Go.ChangeAt Go.RowKit
set_option linter.unusedVariables false

theorem meet_val {x w y v l s : Int} (h : Fx.mLo x w y v = l ∧ Fx.mSz x w y v = s) : Fx.mLo x w y v = l ∧ Fx.mSz x w y v = s := h

set_option maxRecDepth 100000 in
set_option maxHeartbeats 8000000 in
theorem far_in (x y a b g u v : Int) (w : World) (x1 : -1073741824 ≤ x) (x2 : x ≤ 1073741824) (y1 : -1073741824 ≤ y) (y2 : y ≤ 1073741824) (a1 : 0 < a) (a2 : a ≤ 1073741824) (b1 : 0 < b) (b2 : b ≤ 1073741824)
    (g1 : 0 ≤ g) (g2 : g ≤ 1073741824) (u1 : 1 ≤ u) (u2 : u ≤ 1073741824) (v1 : 1 ≤ v) (v2 : v ≤ 1073741824) :
    Calls Try.prog 6 #[.agg #[.int .i64 x, .int .i64 y, .int .i64 a, .int .i64 b], .int .i64 g, .int .i64 u, .int .i64 v] w fun e w' => e = .returned (.bool true) ∧ Below w.heap.size w w' := by
  have q := run_eql_rect
  have e0 : Fx.small x y a b = true := Fx.small_iff.2 ⟨⟨x1, x2⟩, ⟨y1, y2⟩, ⟨by omega, a2⟩, ⟨by omega, b2⟩⟩
  have e1 : Fx.cut (x + a + g) = x + a + g := Fx.cut_plain (by omega) (by omega)
  have e2 : Fx.cut y = y := Fx.cut_plain (by omega) (by omega)
  have e3 : Fx.cut u = u := Fx.cut_plain (by omega) (by omega)
  have e4 : Fx.cut v = v := Fx.cut_plain (by omega) (by omega)
  have e5 : Fx.mx u 0 = u := Fx.mx_zero (by omega)
  have e6 : Fx.mx v 0 = v := Fx.mx_zero (by omega)
  obtain ⟨m, em, m1, m2, m3⟩ : ∃ m, (if b < v then v else b) = m ∧ b ≤ m ∧ v ≤ m ∧ m ≤ 1073741824 := ⟨_, rfl, by split <;> omega, by split <;> omega, by split <;> omega⟩
  -- what both have
  obtain ⟨p1, p2⟩ := @Fx.mLo_plain x a (x + a + g) u (by omega) (by omega) (by omega) (by omega) (by omega) (by omega) (by omega) (by omega)
  rw [if_pos (by unfold Fx.mn Fx.mx; (repeat' split) <;> omega)] at p1 p2
  obtain ⟨t, p3, p4, p6, p7⟩ : ∃ t, Fx.mLo y b y v = y ∧ Fx.mSz y b y v = t ∧ (b < v → t = b) ∧ (v ≤ b → t = v) := by
    obtain ⟨p3, p4⟩ := @Fx.mLo_plain y b y v (by omega) (by omega) (by omega) (by omega) (by omega) (by omega) (by omega) (by omega)
    rw [if_neg (by unfold Fx.mn Fx.mx; (repeat' split) <;> omega)] at p3 p4
    refine ⟨_, p3.trans (by unfold Fx.mx; split <;> omega), p4, ?_, ?_⟩ <;> unfold Fx.mn Fx.mx <;> (repeat' split) <;> omega
  have p6 := Lib.hid p6
  have p7 := Lib.hid p7
  have p5 : ∀ n, Fx.mOf x y a b (x + a + g) y u v n = 0 := fun n => by
    unfold Fx.mOf
    rw [p2, Fx.emp_true (.inl (Int.le_refl _))]; rfl
  -- what has both
  obtain ⟨j1, j2⟩ := @Fx.jLo_plain x a (x + a + g) u (by omega) (by omega) (by omega) (by omega) (by omega) (by omega) (by omega) (by omega)
  obtain ⟨j3, j4⟩ := @Fx.jLo_plain y b y v (by omega) (by omega) (by omega) (by omega) (by omega) (by omega) (by omega) (by omega)
  replace j1 : Fx.jLo x a (x + a + g) u = x := j1.trans (by unfold Fx.mn; split <;> omega)
  replace j2 : Fx.jSz x a (x + a + g) u = a + g + u := j2.trans (by unfold Fx.mn Fx.mx; (repeat' split) <;> omega)
  replace j3 : Fx.jLo y b y v = y := j3.trans (by unfold Fx.mn; split <;> omega)
  replace j4 : Fx.jSz y b y v = m := j4.trans (by rw [← em]; unfold Fx.mn Fx.mx; (repeat' split) <;> omega)
  have j5 : ∀ k l n, Fx.jOf a b u v k l n = n := fun k l n => by
    unfold Fx.jOf
    rw [Fx.emp_false a1 b1, Fx.emp_false (by omega) (by omega)]; rfl
  have c1 : Fx.cut x = x := Fx.cut_plain (by omega) (by omega)
  have c2 : Fx.cut (a + g + u) = a + g + u := Fx.cut_plain (by omega) (by omega)
  have c3 : Fx.cut m = m := Fx.cut_plain (by omega) (by omega)
  have c4 : Fx.mx (a + g + u) 0 = a + g + u := Fx.mx_zero (by omega)
  have c5 : Fx.mx m 0 = m := Fx.mx_zero (by omega)
  -- what has both, and each of them
  obtain ⟨k1, k2⟩ := @Fx.mLo_plain x (a + g + u) x a (by omega) (by omega) (by omega) (by omega) (by omega) (by omega) (by omega) (by omega)
  rw [if_neg (by unfold Fx.mn Fx.mx; (repeat' split) <;> omega)] at k1 k2
  replace k1 : Fx.mLo x (a + g + u) x a = x := k1.trans (by unfold Fx.mx; split <;> omega)
  replace k2 : Fx.mSz x (a + g + u) x a = a := k2.trans (by unfold Fx.mn Fx.mx; (repeat' split) <;> omega)
  obtain ⟨k3, k4⟩ := @Fx.mLo_plain y m y b (by omega) (by omega) (by omega) (by omega) (by omega) (by omega) (by omega) (by omega)
  rw [if_neg (by unfold Fx.mn Fx.mx; (repeat' split) <;> omega)] at k3 k4
  replace k3 : Fx.mLo y m y b = y := k3.trans (by unfold Fx.mx; split <;> omega)
  replace k4 : Fx.mSz y m y b = b := k4.trans (by unfold Fx.mn Fx.mx; (repeat' split) <;> omega)
  have k5 : ∀ n, Fx.mOf x y (a + g + u) m x y a b n = n := fun n => by
    unfold Fx.mOf
    rw [k2, k4, Fx.emp_false a1 b1]; rfl
  obtain ⟨l1, l2⟩ := @Fx.mLo_plain x (a + g + u) (x + a + g) u (by omega) (by omega) (by omega) (by omega) (by omega) (by omega) (by omega) (by omega)
  rw [if_neg (by unfold Fx.mn Fx.mx; (repeat' split) <;> omega)] at l1 l2
  replace l1 : Fx.mLo x (a + g + u) (x + a + g) u = x + a + g := l1.trans (by unfold Fx.mx; split <;> omega)
  replace l2 : Fx.mSz x (a + g + u) (x + a + g) u = u := l2.trans (by unfold Fx.mn Fx.mx; (repeat' split) <;> omega)
  obtain ⟨l3, l4⟩ := @Fx.mLo_plain y m y v (by omega) (by omega) (by omega) (by omega) (by omega) (by omega) (by omega) (by omega)
  rw [if_neg (by unfold Fx.mn Fx.mx; (repeat' split) <;> omega)] at l3 l4
  replace l3 : Fx.mLo y m y v = y := l3.trans (by unfold Fx.mx; split <;> omega)
  replace l4 : Fx.mSz y m y v = v := l4.trans (by unfold Fx.mn Fx.mx; (repeat' split) <;> omega)
  have l5 : ∀ n, Fx.mOf x y (a + g + u) m (x + a + g) y u v n = n := fun n => by
    unfold Fx.mOf
    rw [l2, l4, Fx.emp_false (by omega) (by omega)]; rfl
  have em := Lib.hid em
  have d1 : (a == 0) = false := by simp; omega
  have d2 : (b == 0) = false := by simp; omega
  have d3 : decide (g < 0) = false := by simp; omega
  have d4 : decide (1073741824 < g) = false := by simp; omega
  have d5 : decide (u < 1) = false := by simp; omega
  have d6 : decide (1073741824 < u) = false := by simp; omega
  have d7 : decide (v < 1) = false := by simp; omega
  have d8 : decide (1073741824 < v) = false := by simp; omega
  have r1 : IntKind.i64.wrap (x + a) = x + a := IntWalk.i64_in _ (by omega)
  have r2 : IntKind.i64.wrap (x + a + g) = x + a + g := IntWalk.i64_in _ (by omega)
  have r3 : IntKind.i64.wrap (a + g) = a + g := IntWalk.i64_in _ (by omega)
  have r4 : IntKind.i64.wrap (a + g + u) = a + g + u := IntWalk.i64_in _ (by omega)
  go_enter Try.func6, Try.ntmps6
  go_upto_region 1 with (fail)
  (generalize hW : World.alloc w _ = W0; have A0 : At W0 (w.heap.size) (.cells #[.int .i64 x, .int .i64 y, .int .i64 a, .int .i64 b] 23) := (by ((rw [← hW]) <;> exact At.new' _ (by first | done | rfl | simp))); have hB : Below w.heap.size w W0 := (by ((rw [← hW]) <;> exact Below.alloc' (Below.refl _ _) _)); clear hW; obtain ⟨l0, c0_0, c0_1, c0_2, c0_3⟩ := At.four A0)
  go_upto_region 6 with (first | (go_at_call 7; (with_reducible refine (rworks_any _).mono ?_); rintro e w' ⟨rfl, hb⟩; (clear l0 c0_0 c0_1 c0_2 c0_3); (replace hB := Below.after2 (by first | exact hB | exact Below.alloc' hB _ | exact Below.alloc' (Below.alloc' hB _) _) (Nat.le_refl _) hb); replace A0 := At.keep (by first | exact A0 | exact At.alloc A0 _ | exact At.alloc (At.alloc A0 _) _) hb; clear hb; obtain ⟨l0, c0_0, c0_1, c0_2, c0_3⟩ := At.four A0) | (go_at_call 8; (with_reducible refine (small_any _ _ _ _ _).mono ?_); rintro e w' ⟨rfl, hb⟩; (clear l0 c0_0 c0_1 c0_2 c0_3); (replace hB := Below.after2 (by first | exact hB | exact Below.alloc' hB _ | exact Below.alloc' (Below.alloc' hB _) _) (Nat.le_refl _) hb); replace A0 := At.keep (by first | exact A0 | exact At.alloc A0 _ | exact At.alloc (At.alloc A0 _) _) hb; clear hb; obtain ⟨l0, c0_0, c0_1, c0_2, c0_3⟩ := At.four A0))
  go_upto_region 7 with (first | (go_at_call 16; (with_reducible refine (ofR_any _ _ _ _ _).mono ?_); rintro e w' ⟨rfl, hb⟩; (clear l0 c0_0 c0_1 c0_2 c0_3); (replace hB := Below.after2 (by first | exact hB | exact Below.alloc' hB _ | exact Below.alloc' (Below.alloc' hB _) _) (Nat.le_refl _) hb); replace A0 := At.keep (by first | exact A0 | exact At.alloc A0 _ | exact At.alloc (At.alloc A0 _) _) hb; clear hb; obtain ⟨l0, c0_0, c0_1, c0_2, c0_3⟩ := At.four A0))
  (generalize hW : World.alloc _ _ = W1; clear l0 c0_0 c0_1 c0_2 c0_3; have A1 : At W1 _ _ := hW ▸ At.new _ _; replace A0 : At W1 _ _ := hW ▸ At.alloc A0 _; replace hB : Below w.heap.size w W1 := hW ▸ Below.alloc' hB _; clear hW; obtain ⟨l0, c0_0, c0_1, c0_2, c0_3⟩ := At.four A0; obtain ⟨l1, c1_0, c1_1, c1_2, c1_3⟩ := At.four A1)
  go_upto_region 8 with (first | (go_at_call 20; (with_reducible refine (joinR_any _ _ _ _ _ _ _ _ _).mono ?_); rintro e w' ⟨rfl, hb⟩; (clear l0 c0_0 c0_1 c0_2 c0_3 l1 c1_0 c1_1 c1_2 c1_3); (replace hB := Below.after2 (by first | exact hB | exact Below.alloc' hB _ | exact Below.alloc' (Below.alloc' hB _) _) (Nat.le_refl _) hb); replace A0 := At.keep (by first | exact A0 | exact At.alloc A0 _ | exact At.alloc (At.alloc A0 _) _) hb; replace A1 := At.keep (by first | exact A1 | exact At.alloc A1 _ | exact At.alloc (At.alloc A1 _) _) hb; clear hb; obtain ⟨l0, c0_0, c0_1, c0_2, c0_3⟩ := At.four A0; obtain ⟨l1, c1_0, c1_1, c1_2, c1_3⟩ := At.four A1))
  (generalize hW : World.alloc _ _ = W2; clear l0 c0_0 c0_1 c0_2 c0_3 l1 c1_0 c1_1 c1_2 c1_3; have A2 : At W2 _ _ := hW ▸ At.new _ _; replace A0 : At W2 _ _ := hW ▸ At.alloc A0 _; replace A1 : At W2 _ _ := hW ▸ At.alloc A1 _; replace hB : Below w.heap.size w W2 := hW ▸ Below.alloc' hB _; clear hW; obtain ⟨l0, c0_0, c0_1, c0_2, c0_3⟩ := At.four A0; obtain ⟨l1, c1_0, c1_1, c1_2, c1_3⟩ := At.four A1; obtain ⟨l2, c2_0, c2_1, c2_2, c2_3⟩ := At.four A2)
  by_cases hm : b < v
  · obtain rfl : v = m := by have := em.out; rw [if_pos hm] at this; exact this
    obtain rfl := p6.out hm
    refine Drawn.wp_region_from (Below.refl _ _) (by kernel_rfl) (by kernel_rfl) (by kernel_rfl) ?_
    (repeat (first | (refine Drawn.seq_skip (by rfl) ?_; (try simp only [Act.put, List.setIfInBounds_toArray, List.set_cons_zero, List.set_cons_succ])) | (refine Drawn.seq_call (o := ⟨_, .call ⟨.value _, _, _⟩, _, _, _, _⟩) (by rfl) (by intro w2 hS; go_simp; first | done | with_reducible rfl | exact ⟨rfl, rfl⟩) (by intro w2 hS; first | ((with_reducible refine (meetR_any _ _ _ _ _ _ _ _ _).mono ?_); rintro e w' ⟨rfl, hb⟩; exact ⟨rfl, Below.after hS hb⟩) | ((with_reducible refine (ofR_any _ _ _ _ _).mono ?_); rintro e w' ⟨rfl, hb⟩; exact ⟨rfl, Below.after hS hb⟩)) ?_; (try simp only [Act.put, List.setIfInBounds_toArray, List.set_cons_zero, List.set_cons_succ])) | (refine Drawn.seq_value (by rfl) (by intro w2 hS; obtain ⟨hc, hf⟩ := bcell hS; go_simp; first | done | with_reducible rfl | exact ⟨rfl, rfl⟩) ?_; (try simp only [Act.put, List.setIfInBounds_toArray, List.set_cons_zero, List.set_cons_succ]))))
    refine Drawn.seq_end ?_; intro w2 hS
    go_wp2
    go_ret
    exact ⟨rfl, Below.after2 hB (Nat.le_refl _) hS⟩
  · obtain rfl : b = m := by have := em.out; rw [if_neg hm] at this; exact this
    have hm' : v ≤ b := by omega
    obtain rfl := p7.out hm'
    refine Drawn.wp_region_from (Below.refl _ _) (by kernel_rfl) (by kernel_rfl) (by kernel_rfl) ?_
    (repeat (first | (refine Drawn.seq_skip (by rfl) ?_; (try simp only [Act.put, List.setIfInBounds_toArray, List.set_cons_zero, List.set_cons_succ])) | (refine Drawn.seq_call (o := ⟨_, .call ⟨.value _, _, _⟩, _, _, _, _⟩) (by rfl) (by intro w2 hS; go_simp; first | done | with_reducible rfl | exact ⟨rfl, rfl⟩) (by intro w2 hS; first | ((with_reducible refine (meetR_any _ _ _ _ _ _ _ _ _).mono ?_); rintro e w' ⟨rfl, hb⟩; exact ⟨rfl, Below.after hS hb⟩) | ((with_reducible refine (ofR_any _ _ _ _ _).mono ?_); rintro e w' ⟨rfl, hb⟩; exact ⟨rfl, Below.after hS hb⟩)) ?_; (try simp only [Act.put, List.setIfInBounds_toArray, List.set_cons_zero, List.set_cons_succ])) | (refine Drawn.seq_value (by rfl) (by intro w2 hS; obtain ⟨hc, hf⟩ := bcell hS; go_simp; first | done | with_reducible rfl | exact ⟨rfl, rfl⟩) ?_; (try simp only [Act.put, List.setIfInBounds_toArray, List.set_cons_zero, List.set_cons_succ]))))
    refine Drawn.seq_end ?_; intro w2 hS
    go_wp2
    go_ret
    exact ⟨rfl, Below.after2 hB (Nat.le_refl _) hS⟩

set_option maxRecDepth 100000 in
set_option maxHeartbeats 8000000 in
theorem far_walk (x y a b g u v : Int) (w : World) : Calls Try.prog 6 #[.agg #[.int .i64 x, .int .i64 y, .int .i64 a, .int .i64 b], .int .i64 g, .int .i64 u, .int .i64 v] w fun e w' => e = .returned (.bool true) ∧ Below w.heap.size w w' := by
  cases e0 : Fx.small x y a b with
  | false =>
    go_enter Try.func6, Try.ntmps6
    go_upto_region 1 with (fail)
    (generalize hW : World.alloc w _ = W0; have A0 : At W0 (w.heap.size) (.cells #[.int .i64 x, .int .i64 y, .int .i64 a, .int .i64 b] 23) := (by ((rw [← hW]) <;> exact At.new' _ (by first | done | rfl | simp))); have hB : Below w.heap.size w W0 := (by ((rw [← hW]) <;> exact Below.alloc' (Below.refl _ _) _)); clear hW; obtain ⟨l0, c0_0, c0_1, c0_2, c0_3⟩ := At.four A0)
    go_wp2_with (first | (go_at_call 7; (with_reducible refine (rworks_any _).mono ?_); rintro e w' ⟨rfl, hb⟩; (clear l0 c0_0 c0_1 c0_2 c0_3); (replace hB := Below.after2 (by first | exact hB | exact Below.alloc' hB _ | exact Below.alloc' (Below.alloc' hB _) _) (Nat.le_refl _) hb); replace A0 := At.keep (by first | exact A0 | exact At.alloc A0 _ | exact At.alloc (At.alloc A0 _) _) hb; clear hb; obtain ⟨l0, c0_0, c0_1, c0_2, c0_3⟩ := At.four A0) | (go_at_call 8; (with_reducible refine (small_any _ _ _ _ _).mono ?_); rintro e w' ⟨rfl, hb⟩; (clear l0 c0_0 c0_1 c0_2 c0_3); (replace hB := Below.after2 (by first | exact hB | exact Below.alloc' hB _ | exact Below.alloc' (Below.alloc' hB _) _) (Nat.le_refl _) hb); replace A0 := At.keep (by first | exact A0 | exact At.alloc A0 _ | exact At.alloc (At.alloc A0 _) _) hb; clear hb; obtain ⟨l0, c0_0, c0_1, c0_2, c0_3⟩ := At.four A0))
    go_ret
    exact ⟨rfl, hB⟩
  | true =>
    obtain ⟨⟨x1, x2⟩, ⟨y1, y2⟩, ⟨a1, a2⟩, ⟨b1, b2⟩⟩ := Fx.small_iff.1 e0
    by_cases h : (0 < a ∧ 0 < b) ∧ (0 ≤ g ∧ g ≤ 1073741824) ∧ (1 ≤ u ∧ u ≤ 1073741824) ∧ (1 ≤ v ∧ v ≤ 1073741824)
    · obtain ⟨⟨a0, b0⟩, ⟨g1, g2⟩, ⟨u1, u2⟩, ⟨v1, v2⟩⟩ := h
      exact far_in x y a b g u v w x1 x2 y1 y2 a0 a2 b0 b2 g1 g2 u1 u2 v1 v2
    · have H := Lib.hid h
      clear h
      go_enter Try.func6, Try.ntmps6
      go_upto_region 1 with (fail)
      (generalize hW : World.alloc w _ = W0; have A0 : At W0 (w.heap.size) (.cells #[.int .i64 x, .int .i64 y, .int .i64 a, .int .i64 b] 23) := (by ((rw [← hW]) <;> exact At.new' _ (by first | done | rfl | simp))); have hB : Below w.heap.size w W0 := (by ((rw [← hW]) <;> exact Below.alloc' (Below.refl _ _) _)); clear hW; obtain ⟨l0, c0_0, c0_1, c0_2, c0_3⟩ := At.four A0)
      go_upto_region 6 with (first | (go_at_call 7; (with_reducible refine (rworks_any _).mono ?_); rintro e w' ⟨rfl, hb⟩; (clear l0 c0_0 c0_1 c0_2 c0_3); (replace hB := Below.after2 (by first | exact hB | exact Below.alloc' hB _ | exact Below.alloc' (Below.alloc' hB _) _) (Nat.le_refl _) hb); replace A0 := At.keep (by first | exact A0 | exact At.alloc A0 _ | exact At.alloc (At.alloc A0 _) _) hb; clear hb; obtain ⟨l0, c0_0, c0_1, c0_2, c0_3⟩ := At.four A0) | (go_at_call 8; (with_reducible refine (small_any _ _ _ _ _).mono ?_); rintro e w' ⟨rfl, hb⟩; (clear l0 c0_0 c0_1 c0_2 c0_3); (replace hB := Below.after2 (by first | exact hB | exact Below.alloc' hB _ | exact Below.alloc' (Below.alloc' hB _) _) (Nat.le_refl _) hb); replace A0 := At.keep (by first | exact A0 | exact At.alloc A0 _ | exact At.alloc (At.alloc A0 _) _) hb; clear hb; obtain ⟨l0, c0_0, c0_1, c0_2, c0_3⟩ := At.four A0))
      all_goals first
        | (go_ret; exact ⟨rfl, hB⟩)
        | (exfalso; exact H.out ⟨⟨by omega, by omega⟩, ⟨by omega, by omega⟩, ⟨by omega, by omega⟩, ⟨by omega, by omega⟩⟩)

end Go.Proofs.Ytfmbmgkckdlhfaa.Fix
