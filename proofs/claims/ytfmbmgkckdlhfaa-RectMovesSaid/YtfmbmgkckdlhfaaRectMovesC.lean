/- RectMoves, one of its cases: it returns true, and leaves all that was there as it was. -/
import Derived.Test.YtfmbmgkckdlhfaaRectLaws
import Derived.Test.YtfmbmgkckdlhfaaRectMore
import Derived.Test.YtfmbmgkckdlhfaaFour
import Derived.Test.YtfmbmgkckdlhfaaDrawnFast
import Derived.IntWalk
namespace Go.Proofs.Ytfmbmgkckdlhfaa.Fix
open Go.ChangeShapes Go.WideShapes Go.ChangeAt Go.RowKit
set_option linter.unusedVariables false

set_option maxRecDepth 100000 in
set_option maxHeartbeats 16000000 in
theorem moves_2 (x y a b u v p q s0 s1 s2 s3 : Int) (w : World) (x1 : -1073741824 ≤ x) (x2 : x ≤ 1073741824) (y1 : -1073741824 ≤ y) (y2 : y ≤ 1073741824) (a1 : 0 ≤ a) (a2 : a ≤ 1073741824) (b1 : 0 ≤ b) (b2 : b ≤ 1073741824)
    (u1 : -1073741824 ≤ u) (u2 : u ≤ 1073741824) (v1 : -1073741824 ≤ v) (v2 : v ≤ 1073741824) (p1 : -1073741824 ≤ p) (p2 : p ≤ 1073741824) (q1 : -1073741824 ≤ q) (q2 : q ≤ 1073741824)
    (s01 : 0 ≤ s0) (s02 : s0 ≤ 1073741824) (s11 : 0 ≤ s1) (s12 : s1 ≤ 1073741824) (s21 : 0 ≤ s2) (s22 : s2 ≤ 1073741824) (s31 : 0 ≤ s3) (s32 : s3 ≤ 1073741824) (hz : (decide (s0 = 0) && decide (s1 = 0) && decide (s2 = 0) && decide (s3 = 0)) = false) (ka : (a == 0) = false) (kb : (b == 0) = true) :
    Calls Try.prog 3 #[.agg #[.int .i64 x, .int .i64 y, .int .i64 a, .int .i64 b], .int .i64 u, .int .i64 v, .int .i64 p, .int .i64 q, .agg #[.int .i64 s0, .int .i64 s1, .int .i64 s2, .int .i64 s3]] w fun e w' => e = .returned (.bool true) ∧ Below w.heap.size w w' := by
  have qr := run_eql_rect
  have q4 := run_eql_four
  have q0 := guard_pt
  have e0 : Fx.small x y a b = true := Fx.small_iff.2 ⟨⟨x1, x2⟩, ⟨y1, y2⟩, ⟨a1, a2⟩, ⟨b1, b2⟩⟩
  have e1 : Fx.add x s3 = x + s3 := Fx.add_plain (by omega) (by omega) (by omega) (by omega)
  have e2 : Fx.add y s0 = y + s0 := Fx.add_plain (by omega) (by omega) (by omega) (by omega)
  have e3 : Fx.add 0 s1 = s1 := Fx.zero_add (by omega) (by omega)
  have e4 : Fx.add 0 s0 = s0 := Fx.zero_add (by omega) (by omega)
  have e5 : Fx.add s1 s3 = s1 + s3 := Fx.add_plain (by omega) (by omega) (by omega) (by omega)
  have e6 : Fx.add s0 s2 = s0 + s2 := Fx.add_plain (by omega) (by omega) (by omega) (by omega)
  have e7 : Fx.sub 0 s0 = -s0 := Fx.sub_zero (by omega) (by omega)
  have e8 : Fx.sub 0 s1 = -s1 := Fx.sub_zero (by omega) (by omega)
  have e9 : Fx.sub 0 s2 = -s2 := Fx.sub_zero (by omega) (by omega)
  have e10 : Fx.sub 0 s3 = -s3 := Fx.sub_zero (by omega) (by omega)
  have e11 : Fx.add x (-s3) = x - s3 := by rw [Fx.add_plain (by omega) (by omega) (by omega) (by omega)]; omega
  have e12 : Fx.add y (-s0) = y - s0 := by rw [Fx.add_plain (by omega) (by omega) (by omega) (by omega)]; omega
  have e13 : Fx.add 0 (-s1) = -s1 := Fx.zero_add (by omega) (by omega)
  have e14 : Fx.add 0 (-s0) = -s0 := Fx.zero_add (by omega) (by omega)
  have e15 : Fx.add (-s1) (-s3) = -s1 - s3 := by rw [Fx.add_plain (by omega) (by omega) (by omega) (by omega)]; omega
  have e16 : Fx.add (-s0) (-s2) = -s0 - s2 := by rw [Fx.add_plain (by omega) (by omega) (by omega) (by omega)]; omega
  have e17 : Fx.less a (-s1 - s3) = a + s1 + s3 := by rw [Fx.less_plain (by omega) (by omega) (by omega) (by omega)]; split <;> omega
  have e18 : Fx.less b (-s0 - s2) = b + s0 + s2 := by rw [Fx.less_plain (by omega) (by omega) (by omega) (by omega)]; split <;> omega
  have e19 : Fx.add (x - s3) s3 = x := by rw [Fx.add_plain (by omega) (by omega) (by omega) (by omega)]; omega
  have e20 : Fx.add (y - s0) s0 = y := by rw [Fx.add_plain (by omega) (by omega) (by omega) (by omega)]; omega
  have e21 : Fx.less (a + s1 + s3) (s1 + s3) = a := by rw [Fx.less_plain (by omega) (by omega) (by omega) (by omega)]; split <;> omega
  have e22 : Fx.less (b + s0 + s2) (s0 + s2) = b := by rw [Fx.less_plain (by omega) (by omega) (by omega) (by omega)]; split <;> omega
  have i2 : Fx.innR x y a b (x - s3) (y - s0) (a + s1 + s3) (b + s0 + s2) = true := by
    rw [Fx.innR_plain (by omega) (by omega) (by omega) (by omega) (by omega) (by omega) (by omega) (by omega) (by omega) (by omega) (by omega) (by omega) (by omega) (by omega) (by omega) (by omega)]
    simp; omega
  obtain ⟨m, e23, m1⟩ : ∃ m, Fx.less a (s1 + s3) = m ∧ ((a - (s1 + s3) < 0 ∧ m = 0) ∨ (0 ≤ a - (s1 + s3) ∧ m = a - (s1 + s3))) := by
    rw [Fx.less_plain (by omega) (by omega) (by omega) (by omega)]
    refine ⟨_, rfl, ?_⟩
    split <;> omega
  obtain ⟨r, e24, r1⟩ : ∃ r, Fx.less b (s0 + s2) = r ∧ ((b - (s0 + s2) < 0 ∧ r = 0) ∨ (0 ≤ b - (s0 + s2) ∧ r = b - (s0 + s2))) := by
    rw [Fx.less_plain (by omega) (by omega) (by omega) (by omega)]
    refine ⟨_, rfl, ?_⟩
    split <;> omega
  obtain ⟨B, hB0, HB⟩ : ∃ B, (decide (x + s3 = x) && decide (y + s0 = y) && decide (m = a) && decide (r = b)) = B ∧ Hid (B = true ↔ (s3 = 0 ∧ s0 = 0 ∧ (s1 = 0 ∨ a = 0) ∧ (s2 = 0 ∨ b = 0))) :=
    ⟨_, rfl, Lib.hid (by simp only [Bool.and_eq_true, decide_eq_true_iff]; omega)⟩
  have m1 := Lib.hid m1
  have r1 := Lib.hid r1
  have c1 : Fx.add x u = x + u := Fx.add_plain (by omega) (by omega) (by omega) (by omega)
  have c2 : Fx.add y v = y + v := Fx.add_plain (by omega) (by omega) (by omega) (by omega)
  have c3 : Fx.cut (x + u) = x + u := Fx.cut_plain (by omega) (by omega)
  have c4 : Fx.cut (y + v) = y + v := Fx.cut_plain (by omega) (by omega)
  have c5 : Fx.add (x + u) (-u) = x := by rw [Fx.add_plain (by omega) (by omega) (by omega) (by omega)]; omega
  have c6 : Fx.add (y + v) (-v) = y := by rw [Fx.add_plain (by omega) (by omega) (by omega) (by omega)]; omega
  have c7 : Fx.cut x = x := Fx.cut_plain (by omega) (by omega)
  have c8 : Fx.cut y = y := Fx.cut_plain (by omega) (by omega)
  have c9 : Fx.add p u = p + u := Fx.add_plain (by omega) (by omega) (by omega) (by omega)
  have c10 : Fx.add q v = q + v := Fx.add_plain (by omega) (by omega) (by omega) (by omega)
  have c11 : Fx.cut (p + u) = p + u := Fx.cut_plain (by omega) (by omega)
  have c12 : Fx.cut (q + v) = q + v := Fx.cut_plain (by omega) (by omega)
  have c13 : Fx.cut p = p := Fx.cut_plain (by omega) (by omega)
  have c14 : Fx.cut q = q := Fx.cut_plain (by omega) (by omega)
  have c15 : Fx.hasR (x + u) (y + v) a b (p + u) (q + v) = Fx.hasR x y a b p q := by
    rw [Fx.hasR_plain (by omega) (by omega) (by omega) (by omega) (by omega) (by omega) (by omega) (by omega), Fx.hasR_plain (by omega) (by omega) (by omega) (by omega) (by omega) (by omega) (by omega) (by omega), decide_eq_decide]
    omega
  have d0 : decide (s0 < 0) = false := by simp; omega
  have d1 : decide (s1 < 0) = false := by simp; omega
  have d2 : decide (s2 < 0) = false := by simp; omega
  have d3 : decide (s3 < 0) = false := by simp; omega
  have d4 : decide (1073741824 < s0) = false := by simp; omega
  have d5 : decide (1073741824 < s1) = false := by simp; omega
  have d6 : decide (1073741824 < s2) = false := by simp; omega
  have d7 : decide (1073741824 < s3) = false := by simp; omega
  have d8 : decide (u < -1073741824) = false := by simp; omega
  have d9 : decide (1073741824 < u) = false := by simp; omega
  have d10 : decide (v < -1073741824) = false := by simp; omega
  have d11 : decide (1073741824 < v) = false := by simp; omega
  have d12 : decide (p < -1073741824) = false := by simp; omega
  have d13 : decide (1073741824 < p) = false := by simp; omega
  have d14 : decide (q < -1073741824) = false := by simp; omega
  have d15 : decide (1073741824 < q) = false := by simp; omega
  have g1 : IntKind.i64.wrap (-u) = -u := IntWalk.i64_in _ (by omega)
  have g2 : IntKind.i64.wrap (-v) = -v := IntWalk.i64_in _ (by omega)
  have HZ : Hid (¬ (s0 = 0 ∧ s1 = 0 ∧ s2 = 0 ∧ s3 = 0)) := Lib.hid (by simpa [and_assoc] using hz)
  have HA : Hid (¬ a = 0) := Lib.hid (by simpa using ka)
  have HH : Hid (b = 0) := Lib.hid (by simpa using kb)
  go_enter Try.func3, Try.ntmps3
  go_upto_region 1 with (fail)
  (generalize hW : World.alloc (World.alloc w _) _ = W0; have A0 : At W0 (w.heap.size) (.cells #[.int .i64 x, .int .i64 y, .int .i64 a, .int .i64 b] 23) := (by ((rw [← hW]) <;> exact At.alloc (At.new' _ (by first | done | rfl | simp)) _)); have A1 : At W0 (w.heap.size + 1) (.cells #[.int .i64 s0, .int .i64 s1, .int .i64 s2, .int .i64 s3] 24) := (by ((rw [← hW]) <;> exact At.new' _ (by first | done | rfl | simp))); have hB : Below w.heap.size w W0 := (by ((rw [← hW]) <;> exact Below.alloc' (Below.alloc' (Below.refl _ _) _) _)); clear hW; obtain ⟨l0, c0_0, c0_1, c0_2, c0_3⟩ := At.four A0; obtain ⟨l1, c1_0, c1_1, c1_2, c1_3⟩ := At.four A1)
  go_wp2_with (first | (go_at_call 7; (with_reducible refine (rworks_any _).mono ?_); rintro e w' ⟨rfl, hb⟩; (clear l0 c0_0 c0_1 c0_2 c0_3 l1 c1_0 c1_1 c1_2 c1_3); (replace hB := Below.after2 (by first | exact hB | exact Below.alloc' hB _ | exact Below.alloc' (Below.alloc' hB _) _) (Nat.le_refl _) hb); replace A0 := At.keep (by first | exact A0 | exact At.alloc A0 _ | exact At.alloc (At.alloc A0 _) _) hb; replace A1 := At.keep (by first | exact A1 | exact At.alloc A1 _ | exact At.alloc (At.alloc A1 _) _) hb; clear hb; obtain ⟨l0, c0_0, c0_1, c0_2, c0_3⟩ := At.four A0; obtain ⟨l1, c1_0, c1_1, c1_2, c1_3⟩ := At.four A1) | (go_at_call 8; (with_reducible refine (small_any _ _ _ _ _).mono ?_); rintro e w' ⟨rfl, hb⟩; (clear l0 c0_0 c0_1 c0_2 c0_3 l1 c1_0 c1_1 c1_2 c1_3); (replace hB := Below.after2 (by first | exact hB | exact Below.alloc' hB _ | exact Below.alloc' (Below.alloc' hB _) _) (Nat.le_refl _) hb); replace A0 := At.keep (by first | exact A0 | exact At.alloc A0 _ | exact At.alloc (At.alloc A0 _) _) hb; replace A1 := At.keep (by first | exact A1 | exact At.alloc A1 _ | exact At.alloc (At.alloc A1 _) _) hb; clear hb; obtain ⟨l0, c0_0, c0_1, c0_2, c0_3⟩ := At.four A0; obtain ⟨l1, c1_0, c1_1, c1_2, c1_3⟩ := At.four A1))
  refine wp_loop_rounds 5 ?_
  repeat (rw [rounds_succ]; go_upto_region 11 with (fail))
  go_upto_region 14 with (first | (go_at_call 9; (with_reducible refine (of_any _ _ _).mono ?_); rintro e w' ⟨rfl, rfl⟩) | (go_at_call 10; (with_reducible refine (moveR_any _ _ _ _ _ _ _).mono ?_); rintro e w' ⟨rfl, hb⟩; (clear l0 c0_0 c0_1 c0_2 c0_3 l1 c1_0 c1_1 c1_2 c1_3); (replace hB := Below.after2 (by first | exact hB | exact Below.alloc' hB _ | exact Below.alloc' (Below.alloc' hB _) _) (Nat.le_refl _) hb); replace A0 := At.keep (by first | exact A0 | exact At.alloc A0 _ | exact At.alloc (At.alloc A0 _) _) hb; replace A1 := At.keep (by first | exact A1 | exact At.alloc A1 _ | exact At.alloc (At.alloc A1 _) _) hb; clear hb; obtain ⟨l0, c0_0, c0_1, c0_2, c0_3⟩ := At.four A0; obtain ⟨l1, c1_0, c1_1, c1_2, c1_3⟩ := At.four A1))
  (generalize hW : World.alloc _ _ = W1; clear l0 c0_0 c0_1 c0_2 c0_3 l1 c1_0 c1_1 c1_2 c1_3; have A2 : At W1 _ _ := hW ▸ At.new _ _; replace A0 : At W1 _ _ := hW ▸ At.alloc A0 _; replace A1 : At W1 _ _ := hW ▸ At.alloc A1 _; replace hB : Below w.heap.size w W1 := hW ▸ Below.alloc' hB _; clear hW; obtain ⟨l0, c0_0, c0_1, c0_2, c0_3⟩ := At.four A0; obtain ⟨l1, c1_0, c1_1, c1_2, c1_3⟩ := At.four A1; obtain ⟨l2, c2_0, c2_1, c2_2, c2_3⟩ := At.four A2)
  go_upto_region 15 with (first | (go_at_call 11; (with_reducible refine (outsetR_any _ _ _ _ _ _ _ _ _).mono ?_); rintro e w' ⟨rfl, hb⟩; (clear l0 c0_0 c0_1 c0_2 c0_3 l1 c1_0 c1_1 c1_2 c1_3 l2 c2_0 c2_1 c2_2 c2_3); (replace hB := Below.after2 (by first | exact hB | exact Below.alloc' hB _ | exact Below.alloc' (Below.alloc' hB _) _) (Nat.le_refl _) hb); replace A0 := At.keep (by first | exact A0 | exact At.alloc A0 _ | exact At.alloc (At.alloc A0 _) _) hb; replace A1 := At.keep (by first | exact A1 | exact At.alloc A1 _ | exact At.alloc (At.alloc A1 _) _) hb; replace A2 := At.keep (by first | exact A2 | exact At.alloc A2 _ | exact At.alloc (At.alloc A2 _) _) hb; clear hb; obtain ⟨l0, c0_0, c0_1, c0_2, c0_3⟩ := At.four A0; obtain ⟨l1, c1_0, c1_1, c1_2, c1_3⟩ := At.four A1; obtain ⟨l2, c2_0, c2_1, c2_2, c2_3⟩ := At.four A2))
  (generalize hW : World.alloc _ _ = W2; clear l0 c0_0 c0_1 c0_2 c0_3 l1 c1_0 c1_1 c1_2 c1_3 l2 c2_0 c2_1 c2_2 c2_3; have A3 : At W2 _ _ := hW ▸ At.new _ _; replace A0 : At W2 _ _ := hW ▸ At.alloc A0 _; replace A1 : At W2 _ _ := hW ▸ At.alloc A1 _; replace A2 : At W2 _ _ := hW ▸ At.alloc A2 _; replace hB : Below w.heap.size w W2 := hW ▸ Below.alloc' hB _; clear hW; obtain ⟨l0, c0_0, c0_1, c0_2, c0_3⟩ := At.four A0; obtain ⟨l1, c1_0, c1_1, c1_2, c1_3⟩ := At.four A1; obtain ⟨l2, c2_0, c2_1, c2_2, c2_3⟩ := At.four A2; obtain ⟨l3, c3_0, c3_1, c3_2, c3_3⟩ := At.four A3)
  refine Drawn.wp_region_fast (Below.refl _ _) (by kernel_rfl) (by kernel_rfl) (by kernel_rfl) ?_
  (repeat (first | (refine Drawn.seq_skip (by rfl) ?_; (try simp only [Act.put, List.setIfInBounds_toArray, List.set_cons_zero, List.set_cons_succ])) | (refine Drawn.seq_call (o := ⟨_, .call ⟨.value _, _, _⟩, _, _, _, _⟩) (by rfl) (by intro w2 hS; go_simp; first | done | with_reducible rfl | exact ⟨rfl, rfl⟩) (by intro w2 hS; first | ((with_reducible refine (of_any _ _ _).mono ?_); rintro e w' ⟨rfl, rfl⟩; exact ⟨rfl, hS⟩) | ((with_reducible refine (padd_any _ _ _ _ _).mono ?_); rintro e w' ⟨rfl, rfl⟩; exact ⟨rfl, hS⟩) | ((with_reducible refine (moveR_any _ _ _ _ _ _ _).mono ?_); rintro e w' ⟨rfl, hb⟩; exact ⟨rfl, Below.after hS hb⟩) | ((with_reducible refine (hasR_any _ _ _ _ _ _ _).mono ?_); rintro e w' ⟨rfl, hb⟩; exact ⟨rfl, Below.after hS hb⟩) | ((with_reducible refine (insetR_any _ _ _ _ _ _ _ _ _).mono ?_); rintro e w' ⟨rfl, hb⟩; exact ⟨rfl, Below.after hS hb⟩) | ((with_reducible refine (inR_any _ _ _ _ _ _ _ _ _).mono ?_); rintro e w' ⟨rfl, hb⟩; exact ⟨rfl, Below.after hS hb⟩)) ?_; (try simp only [Act.put, List.setIfInBounds_toArray, List.set_cons_zero, List.set_cons_succ])) | (refine Drawn.seq_value (by rfl) (by intro w2 hS; obtain ⟨hc, hf⟩ := bcell hS; go_simp; first | done | with_reducible rfl | exact ⟨rfl, rfl⟩) ?_; (try simp only [Act.put, List.setIfInBounds_toArray, List.set_cons_zero, List.set_cons_succ]))))
  by_cases h0 : s0 = 0
  · by_cases h1 : s1 = 0
    · by_cases h3 : s3 = 0
      · have k0 : (s0 == 0) = true := by simpa using h0
        have k1 : (s1 == 0) = true := by simpa using h1
        have k3 : (s3 == 0) = true := by simpa using h3
        obtain rfl : B = true := by
          exact HB.out.2 (by have := HZ.out; have := HA.out; have := HH.out; omega)
        clear HB HZ
        clear h0 h1 h3
        simp only [k0]
        (repeat (first | (refine Drawn.seq_skip (by rfl) ?_; (try simp only [Act.put, List.setIfInBounds_toArray, List.set_cons_zero, List.set_cons_succ])) | (refine Drawn.seq_call (o := ⟨_, .call ⟨.value _, _, _⟩, _, _, _, _⟩) (by rfl) (by intro w2 hS; go_simp; first | done | with_reducible rfl | exact ⟨rfl, rfl⟩) (by intro w2 hS; first | ((with_reducible refine (of_any _ _ _).mono ?_); rintro e w' ⟨rfl, rfl⟩; exact ⟨rfl, hS⟩) | ((with_reducible refine (padd_any _ _ _ _ _).mono ?_); rintro e w' ⟨rfl, rfl⟩; exact ⟨rfl, hS⟩) | ((with_reducible refine (moveR_any _ _ _ _ _ _ _).mono ?_); rintro e w' ⟨rfl, hb⟩; exact ⟨rfl, Below.after hS hb⟩) | ((with_reducible refine (hasR_any _ _ _ _ _ _ _).mono ?_); rintro e w' ⟨rfl, hb⟩; exact ⟨rfl, Below.after hS hb⟩) | ((with_reducible refine (insetR_any _ _ _ _ _ _ _ _ _).mono ?_); rintro e w' ⟨rfl, hb⟩; exact ⟨rfl, Below.after hS hb⟩) | ((with_reducible refine (inR_any _ _ _ _ _ _ _ _ _).mono ?_); rintro e w' ⟨rfl, hb⟩; exact ⟨rfl, Below.after hS hb⟩)) ?_; (try simp only [Act.put, List.setIfInBounds_toArray, List.set_cons_zero, List.set_cons_succ])) | (refine Drawn.seq_value (by rfl) (by intro w2 hS; obtain ⟨hc, hf⟩ := bcell hS; go_simp; first | done | with_reducible rfl | exact ⟨rfl, rfl⟩) ?_; (try simp only [Act.put, List.setIfInBounds_toArray, List.set_cons_zero, List.set_cons_succ]))))
        refine Drawn.seq_end ?_; intro w2 hS
        go_wp2
        go_ret
        exact ⟨rfl, Below.after2 hB (Nat.le_refl _) hS⟩
      · have k0 : (s0 == 0) = true := by simpa using h0
        have k1 : (s1 == 0) = true := by simpa using h1
        have k3 : (s3 == 0) = false := by simpa using h3
        obtain rfl : B = false := by
          cases B with
          | false => rfl
          | true => exfalso; have := HB.out.1 rfl; have := HZ.out; have := HA.out; have := HH.out; omega
        clear HB HZ
        clear h0 h1 h3
        simp only [k0]
        (repeat (first | (refine Drawn.seq_skip (by rfl) ?_; (try simp only [Act.put, List.setIfInBounds_toArray, List.set_cons_zero, List.set_cons_succ])) | (refine Drawn.seq_call (o := ⟨_, .call ⟨.value _, _, _⟩, _, _, _, _⟩) (by rfl) (by intro w2 hS; go_simp; first | done | with_reducible rfl | exact ⟨rfl, rfl⟩) (by intro w2 hS; first | ((with_reducible refine (of_any _ _ _).mono ?_); rintro e w' ⟨rfl, rfl⟩; exact ⟨rfl, hS⟩) | ((with_reducible refine (padd_any _ _ _ _ _).mono ?_); rintro e w' ⟨rfl, rfl⟩; exact ⟨rfl, hS⟩) | ((with_reducible refine (moveR_any _ _ _ _ _ _ _).mono ?_); rintro e w' ⟨rfl, hb⟩; exact ⟨rfl, Below.after hS hb⟩) | ((with_reducible refine (hasR_any _ _ _ _ _ _ _).mono ?_); rintro e w' ⟨rfl, hb⟩; exact ⟨rfl, Below.after hS hb⟩) | ((with_reducible refine (insetR_any _ _ _ _ _ _ _ _ _).mono ?_); rintro e w' ⟨rfl, hb⟩; exact ⟨rfl, Below.after hS hb⟩) | ((with_reducible refine (inR_any _ _ _ _ _ _ _ _ _).mono ?_); rintro e w' ⟨rfl, hb⟩; exact ⟨rfl, Below.after hS hb⟩)) ?_; (try simp only [Act.put, List.setIfInBounds_toArray, List.set_cons_zero, List.set_cons_succ])) | (refine Drawn.seq_value (by rfl) (by intro w2 hS; obtain ⟨hc, hf⟩ := bcell hS; go_simp; first | done | with_reducible rfl | exact ⟨rfl, rfl⟩) ?_; (try simp only [Act.put, List.setIfInBounds_toArray, List.set_cons_zero, List.set_cons_succ]))))
        refine Drawn.seq_end ?_; intro w2 hS
        go_wp2
        go_ret
        exact ⟨rfl, Below.after2 hB (Nat.le_refl _) hS⟩
    · have k0 : (s0 == 0) = true := by simpa using h0
      have k1 : (s1 == 0) = false := by simpa using h1
      obtain rfl : B = false := by
        cases B with
        | false => rfl
        | true => exfalso; have := HB.out.1 rfl; have := HZ.out; have := HA.out; have := HH.out; omega
      clear HB HZ
      clear h0 h1
      simp only [k0]
      (repeat (first | (refine Drawn.seq_skip (by rfl) ?_; (try simp only [Act.put, List.setIfInBounds_toArray, List.set_cons_zero, List.set_cons_succ])) | (refine Drawn.seq_call (o := ⟨_, .call ⟨.value _, _, _⟩, _, _, _, _⟩) (by rfl) (by intro w2 hS; go_simp; first | done | with_reducible rfl | exact ⟨rfl, rfl⟩) (by intro w2 hS; first | ((with_reducible refine (of_any _ _ _).mono ?_); rintro e w' ⟨rfl, rfl⟩; exact ⟨rfl, hS⟩) | ((with_reducible refine (padd_any _ _ _ _ _).mono ?_); rintro e w' ⟨rfl, rfl⟩; exact ⟨rfl, hS⟩) | ((with_reducible refine (moveR_any _ _ _ _ _ _ _).mono ?_); rintro e w' ⟨rfl, hb⟩; exact ⟨rfl, Below.after hS hb⟩) | ((with_reducible refine (hasR_any _ _ _ _ _ _ _).mono ?_); rintro e w' ⟨rfl, hb⟩; exact ⟨rfl, Below.after hS hb⟩) | ((with_reducible refine (insetR_any _ _ _ _ _ _ _ _ _).mono ?_); rintro e w' ⟨rfl, hb⟩; exact ⟨rfl, Below.after hS hb⟩) | ((with_reducible refine (inR_any _ _ _ _ _ _ _ _ _).mono ?_); rintro e w' ⟨rfl, hb⟩; exact ⟨rfl, Below.after hS hb⟩)) ?_; (try simp only [Act.put, List.setIfInBounds_toArray, List.set_cons_zero, List.set_cons_succ])) | (refine Drawn.seq_value (by rfl) (by intro w2 hS; obtain ⟨hc, hf⟩ := bcell hS; go_simp; first | done | with_reducible rfl | exact ⟨rfl, rfl⟩) ?_; (try simp only [Act.put, List.setIfInBounds_toArray, List.set_cons_zero, List.set_cons_succ]))))
      refine Drawn.seq_end ?_; intro w2 hS
      go_wp2
      go_ret
      exact ⟨rfl, Below.after2 hB (Nat.le_refl _) hS⟩
  · have k0 : (s0 == 0) = false := by simpa using h0
    obtain rfl : B = false := by
      cases B with
      | false => rfl
      | true => exfalso; have := HB.out.1 rfl; have := HZ.out; have := HA.out; have := HH.out; omega
    clear HB HZ
    clear h0
    simp only [k0]
    (repeat (first | (refine Drawn.seq_skip (by rfl) ?_; (try simp only [Act.put, List.setIfInBounds_toArray, List.set_cons_zero, List.set_cons_succ])) | (refine Drawn.seq_call (o := ⟨_, .call ⟨.value _, _, _⟩, _, _, _, _⟩) (by rfl) (by intro w2 hS; go_simp; first | done | with_reducible rfl | exact ⟨rfl, rfl⟩) (by intro w2 hS; first | ((with_reducible refine (of_any _ _ _).mono ?_); rintro e w' ⟨rfl, rfl⟩; exact ⟨rfl, hS⟩) | ((with_reducible refine (padd_any _ _ _ _ _).mono ?_); rintro e w' ⟨rfl, rfl⟩; exact ⟨rfl, hS⟩) | ((with_reducible refine (moveR_any _ _ _ _ _ _ _).mono ?_); rintro e w' ⟨rfl, hb⟩; exact ⟨rfl, Below.after hS hb⟩) | ((with_reducible refine (hasR_any _ _ _ _ _ _ _).mono ?_); rintro e w' ⟨rfl, hb⟩; exact ⟨rfl, Below.after hS hb⟩) | ((with_reducible refine (insetR_any _ _ _ _ _ _ _ _ _).mono ?_); rintro e w' ⟨rfl, hb⟩; exact ⟨rfl, Below.after hS hb⟩) | ((with_reducible refine (inR_any _ _ _ _ _ _ _ _ _).mono ?_); rintro e w' ⟨rfl, hb⟩; exact ⟨rfl, Below.after hS hb⟩)) ?_; (try simp only [Act.put, List.setIfInBounds_toArray, List.set_cons_zero, List.set_cons_succ])) | (refine Drawn.seq_value (by rfl) (by intro w2 hS; obtain ⟨hc, hf⟩ := bcell hS; go_simp; first | done | with_reducible rfl | exact ⟨rfl, rfl⟩) ?_; (try simp only [Act.put, List.setIfInBounds_toArray, List.set_cons_zero, List.set_cons_succ]))))
    refine Drawn.seq_end ?_; intro w2 hS
    go_wp2
    go_ret
    exact ⟨rfl, Below.after2 hB (Nat.le_refl _) hS⟩

end Go.Proofs.Ytfmbmgkckdlhfaa.Fix
