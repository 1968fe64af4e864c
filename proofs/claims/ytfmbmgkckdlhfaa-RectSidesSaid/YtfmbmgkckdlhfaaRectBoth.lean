/- RectSides: it returns true, and leaves all that was there as it was. -/
import Derived.Test.YtfmbmgkckdlhfaaRectLaws
import Derived.Test.YtfmbmgkckdlhfaaRectMore
import Derived.IntWalk
namespace Go.Proofs.Ytfmbmgkckdlhfaa.Fix
open Go.ChangeShapes Go.WideShapes Go.ChangeAt Go.RowKit
set_option linter.unusedVariables false

set_option maxRecDepth 100000 in
set_option maxHeartbeats 8000000 in
theorem sides_in (x y a b s0 s1 s2 s3 : Int) (w : World) (x1 : -1073741824 ≤ x) (x2 : x ≤ 1073741824) (y1 : -1073741824 ≤ y) (y2 : y ≤ 1073741824) (a1 : 0 ≤ a) (a2 : a ≤ 1073741824) (b1 : 0 ≤ b) (b2 : b ≤ 1073741824)
    (s01 : 0 ≤ s0) (s02 : s0 ≤ 1073741824) (s11 : 0 ≤ s1) (s12 : s1 ≤ 1073741824) (s21 : 0 ≤ s2) (s22 : s2 ≤ 1073741824) (s31 : 0 ≤ s3) (s32 : s3 ≤ 1073741824) :
    Calls Try.prog 4 #[.agg #[.int .i64 x, .int .i64 y, .int .i64 a, .int .i64 b], .agg #[.int .i64 s0, .int .i64 s1, .int .i64 s2, .int .i64 s3]] w fun e w' => e = .returned (.bool true) ∧ Below w.heap.size w w' := by
  have e0 : Fx.small x y a b = true := Fx.small_iff.2 ⟨⟨x1, x2⟩, ⟨y1, y2⟩, ⟨a1, a2⟩, ⟨b1, b2⟩⟩
  have e1 : Fx.add x s3 = x + s3 := Fx.add_plain (by omega) (by omega) (by omega) (by omega)
  have e2 : Fx.add y s0 = y + s0 := Fx.add_plain (by omega) (by omega) (by omega) (by omega)
  have e3 : Fx.add 0 s1 = s1 := Fx.zero_add (by omega) (by omega)
  have e4 : Fx.add 0 s0 = s0 := Fx.zero_add (by omega) (by omega)
  have e5 : Fx.add s1 s3 = s1 + s3 := Fx.add_plain (by omega) (by omega) (by omega) (by omega)
  have e6 : Fx.add s0 s2 = s0 + s2 := Fx.add_plain (by omega) (by omega) (by omega) (by omega)
  have e7 : Fx.sub 0 s0 = -s0 := Fx.sub_zero (by omega) (by omega)
  have e8 : Fx.sub 0 s1 = -s1 := Fx.sub_zero (by omega) (by omega)
  have e9 : Fx.sub 0 s2 = -s2 := Fx.sub_zero (by omega) (by omega)
  have e10 : Fx.sub 0 s3 = -s3 := Fx.sub_zero (by omega) (by omega)
  have e11 : Fx.add x (-s3) = x - s3 := by rw [Fx.add_plain (by omega) (by omega) (by omega) (by omega)]; omega
  have e12 : Fx.add y (-s0) = y - s0 := by rw [Fx.add_plain (by omega) (by omega) (by omega) (by omega)]; omega
  have e13 : Fx.add 0 (-s1) = -s1 := Fx.zero_add (by omega) (by omega)
  have e14 : Fx.add 0 (-s0) = -s0 := Fx.zero_add (by omega) (by omega)
  have e15 : Fx.add (-s1) (-s3) = -s1 - s3 := by rw [Fx.add_plain (by omega) (by omega) (by omega) (by omega)]; omega
  have e16 : Fx.add (-s0) (-s2) = -s0 - s2 := by rw [Fx.add_plain (by omega) (by omega) (by omega) (by omega)]; omega
  have e17 : Fx.less a (-s1 - s3) = a + s1 + s3 := by rw [Fx.less_plain (by omega) (by omega) (by omega) (by omega)]; split <;> omega
  have e18 : Fx.less b (-s0 - s2) = b + s0 + s2 := by rw [Fx.less_plain (by omega) (by omega) (by omega) (by omega)]; split <;> omega
  obtain ⟨p, e19, p1, p2⟩ : ∃ p, Fx.less a (s1 + s3) = p ∧ 0 ≤ p ∧ p ≤ a ∧ ((a - s1 - s3 < 0 ∧ p = 0) ∨ (0 ≤ a - s1 - s3 ∧ p = a - s1 - s3)) := by
    rw [Fx.less_plain (by omega) (by omega) (by omega) (by omega)]
    refine ⟨_, rfl, ?_⟩
    split <;> omega
  obtain ⟨r, e20, r1, r2⟩ : ∃ r, Fx.less b (s0 + s2) = r ∧ 0 ≤ r ∧ r ≤ b ∧ ((b - s0 - s2 < 0 ∧ r = 0) ∨ (0 ≤ b - s0 - s2 ∧ r = b - s0 - s2)) := by
    rw [Fx.less_plain (by omega) (by omega) (by omega) (by omega)]
    refine ⟨_, rfl, ?_⟩
    split <;> omega
  obtain ⟨p2, p3⟩ := p2
  obtain ⟨r2, r3⟩ := r2
  have i1 : Fx.innR (x + s3) (y + s0) p r x y a b = true := by
    rw [Fx.innR_plain (by omega) (by omega) (by omega) (by omega) (by omega) (by omega) (by omega) (by omega) (by omega) (by omega) (by omega) (by omega) (by omega) (by omega) (by omega) (by omega)]
    simp; omega
  have i2 : Fx.innR x y a b (x - s3) (y - s0) (a + s1 + s3) (b + s0 + s2) = true := by
    rw [Fx.innR_plain (by omega) (by omega) (by omega) (by omega) (by omega) (by omega) (by omega) (by omega) (by omega) (by omega) (by omega) (by omega) (by omega) (by omega) (by omega) (by omega)]
    simp; omega
  have p3 := Lib.hid p3
  have r3 := Lib.hid r3
  have d0 : decide (s0 < 0) = false := by simp; omega
  have d1 : decide (s1 < 0) = false := by simp; omega
  have d2 : decide (s2 < 0) = false := by simp; omega
  have d3 : decide (s3 < 0) = false := by simp; omega
  have d4 : decide (1073741824 < s0) = false := by simp; omega
  have d5 : decide (1073741824 < s1) = false := by simp; omega
  have d6 : decide (1073741824 < s2) = false := by simp; omega
  have d7 : decide (1073741824 < s3) = false := by simp; omega
  have d8 : decide (0 ≤ p) = true := by simp; omega
  have d9 : decide (0 ≤ r) = true := by simp; omega
  have g1 : IntKind.i64.wrap (a - s1) = a - s1 := IntWalk.i64_in _ (by omega)
  have g2 : IntKind.i64.wrap (a - s1 - s3) = a - s1 - s3 := IntWalk.i64_in _ (by omega)
  have g3 : IntKind.i64.wrap (b + s0) = b + s0 := IntWalk.i64_in _ (by omega)
  have g4 : IntKind.i64.wrap (b + s0 + s2) = b + s0 + s2 := IntWalk.i64_in _ (by omega)
  have g5 : IntKind.i64.wrap (x + s3) = x + s3 := IntWalk.i64_in _ (by omega)
  have g6 : IntKind.i64.wrap (y - s0) = y - s0 := IntWalk.i64_in _ (by omega)
  go_enter Try.func4, Try.ntmps4
  go_upto_region 1 with (fail)
  (generalize hW : World.alloc (World.alloc w _) _ = W0; have A0 : At W0 (w.heap.size) (.cells #[.int .i64 x, .int .i64 y, .int .i64 a, .int .i64 b] 23) := (by ((rw [← hW]) <;> exact At.alloc (At.new' _ (by first | done | rfl | simp)) _)); have A1 : At W0 (w.heap.size + 1) (.cells #[.int .i64 s0, .int .i64 s1, .int .i64 s2, .int .i64 s3] 24) := (by ((rw [← hW]) <;> exact At.new' _ (by first | done | rfl | simp))); have hB : Below w.heap.size w W0 := (by ((rw [← hW]) <;> exact Below.alloc' (Below.alloc' (Below.refl _ _) _) _)); clear hW; obtain ⟨l0, c0_0, c0_1, c0_2, c0_3⟩ := At.four A0; obtain ⟨l1, c1_0, c1_1, c1_2, c1_3⟩ := At.four A1)
  go_wp2_with (first | (go_at_call 7; (with_reducible refine (rworks_any _).mono ?_); rintro e w' ⟨rfl, hb⟩; (clear l0 c0_0 c0_1 c0_2 c0_3 l1 c1_0 c1_1 c1_2 c1_3); (replace hB := Below.after2 (by first | exact hB | exact Below.alloc' hB _ | exact Below.alloc' (Below.alloc' hB _) _) (Nat.le_refl _) hb); replace A0 := At.keep (by first | exact A0 | exact At.alloc A0 _ | exact At.alloc (At.alloc A0 _) _) hb; replace A1 := At.keep (by first | exact A1 | exact At.alloc A1 _ | exact At.alloc (At.alloc A1 _) _) hb; clear hb; obtain ⟨l0, c0_0, c0_1, c0_2, c0_3⟩ := At.four A0; obtain ⟨l1, c1_0, c1_1, c1_2, c1_3⟩ := At.four A1) | (go_at_call 8; (with_reducible refine (small_any _ _ _ _ _).mono ?_); rintro e w' ⟨rfl, hb⟩; (clear l0 c0_0 c0_1 c0_2 c0_3 l1 c1_0 c1_1 c1_2 c1_3); (replace hB := Below.after2 (by first | exact hB | exact Below.alloc' hB _ | exact Below.alloc' (Below.alloc' hB _) _) (Nat.le_refl _) hb); replace A0 := At.keep (by first | exact A0 | exact At.alloc A0 _ | exact At.alloc (At.alloc A0 _) _) hb; replace A1 := At.keep (by first | exact A1 | exact At.alloc A1 _ | exact At.alloc (At.alloc A1 _) _) hb; clear hb; obtain ⟨l0, c0_0, c0_1, c0_2, c0_3⟩ := At.four A0; obtain ⟨l1, c1_0, c1_1, c1_2, c1_3⟩ := At.four A1))
  refine wp_loop_rounds 5 ?_
  repeat (rw [rounds_succ]; go_upto_region 11 with (fail))
  go_upto_region 12 with (first | (go_at_call 14; (with_reducible refine (insetR_any _ _ _ _ _ _ _ _ _).mono ?_); rintro e w' ⟨rfl, hb⟩; (clear l0 c0_0 c0_1 c0_2 c0_3 l1 c1_0 c1_1 c1_2 c1_3); (replace hB := Below.after2 (by first | exact hB | exact Below.alloc' hB _ | exact Below.alloc' (Below.alloc' hB _) _) (Nat.le_refl _) hb); replace A0 := At.keep (by first | exact A0 | exact At.alloc A0 _ | exact At.alloc (At.alloc A0 _) _) hb; replace A1 := At.keep (by first | exact A1 | exact At.alloc A1 _ | exact At.alloc (At.alloc A1 _) _) hb; clear hb; obtain ⟨l0, c0_0, c0_1, c0_2, c0_3⟩ := At.four A0; obtain ⟨l1, c1_0, c1_1, c1_2, c1_3⟩ := At.four A1))
  (generalize hW : World.alloc _ _ = W1; clear l0 c0_0 c0_1 c0_2 c0_3 l1 c1_0 c1_1 c1_2 c1_3; have A2 : At W1 _ _ := hW ▸ At.new _ _; replace A0 : At W1 _ _ := hW ▸ At.alloc A0 _; replace A1 : At W1 _ _ := hW ▸ At.alloc A1 _; replace hB : Below w.heap.size w W1 := hW ▸ Below.alloc' hB _; clear hW; obtain ⟨l0, c0_0, c0_1, c0_2, c0_3⟩ := At.four A0; obtain ⟨l1, c1_0, c1_1, c1_2, c1_3⟩ := At.four A1; obtain ⟨l2, c2_0, c2_1, c2_2, c2_3⟩ := At.four A2)
  go_upto_region 13 with (first | (go_at_call 11; (with_reducible refine (outsetR_any _ _ _ _ _ _ _ _ _).mono ?_); rintro e w' ⟨rfl, hb⟩; (clear l0 c0_0 c0_1 c0_2 c0_3 l1 c1_0 c1_1 c1_2 c1_3 l2 c2_0 c2_1 c2_2 c2_3); (replace hB := Below.after2 (by first | exact hB | exact Below.alloc' hB _ | exact Below.alloc' (Below.alloc' hB _) _) (Nat.le_refl _) hb); replace A0 := At.keep (by first | exact A0 | exact At.alloc A0 _ | exact At.alloc (At.alloc A0 _) _) hb; replace A1 := At.keep (by first | exact A1 | exact At.alloc A1 _ | exact At.alloc (At.alloc A1 _) _) hb; replace A2 := At.keep (by first | exact A2 | exact At.alloc A2 _ | exact At.alloc (At.alloc A2 _) _) hb; clear hb; obtain ⟨l0, c0_0, c0_1, c0_2, c0_3⟩ := At.four A0; obtain ⟨l1, c1_0, c1_1, c1_2, c1_3⟩ := At.four A1; obtain ⟨l2, c2_0, c2_1, c2_2, c2_3⟩ := At.four A2))
  (generalize hW : World.alloc _ _ = W2; clear l0 c0_0 c0_1 c0_2 c0_3 l1 c1_0 c1_1 c1_2 c1_3 l2 c2_0 c2_1 c2_2 c2_3; have A3 : At W2 _ _ := hW ▸ At.new _ _; replace A0 : At W2 _ _ := hW ▸ At.alloc A0 _; replace A1 : At W2 _ _ := hW ▸ At.alloc A1 _; replace A2 : At W2 _ _ := hW ▸ At.alloc A2 _; replace hB : Below w.heap.size w W2 := hW ▸ Below.alloc' hB _; clear hW; obtain ⟨l0, c0_0, c0_1, c0_2, c0_3⟩ := At.four A0; obtain ⟨l1, c1_0, c1_1, c1_2, c1_3⟩ := At.four A1; obtain ⟨l2, c2_0, c2_1, c2_2, c2_3⟩ := At.four A2; obtain ⟨l3, c3_0, c3_1, c3_2, c3_3⟩ := At.four A3)
  rcases p3.out with ⟨k1, rfl⟩ | ⟨k1, k2⟩
  · go_wp2_with (first | (go_at_call 15; (with_reducible refine (inR_any _ _ _ _ _ _ _ _ _).mono ?_); rintro e w' ⟨rfl, hb⟩; (clear l0 c0_0 c0_1 c0_2 c0_3 l1 c1_0 c1_1 c1_2 c1_3 l2 c2_0 c2_1 c2_2 c2_3 l3 c3_0 c3_1 c3_2 c3_3); (replace hB := Below.after2 (by first | exact hB | exact Below.alloc' hB _ | exact Below.alloc' (Below.alloc' hB _) _) (Nat.le_refl _) hb); replace A0 := At.keep (by first | exact A0 | exact At.alloc A0 _ | exact At.alloc (At.alloc A0 _) _) hb; replace A1 := At.keep (by first | exact A1 | exact At.alloc A1 _ | exact At.alloc (At.alloc A1 _) _) hb; replace A2 := At.keep (by first | exact A2 | exact At.alloc A2 _ | exact At.alloc (At.alloc A2 _) _) hb; replace A3 := At.keep (by first | exact A3 | exact At.alloc A3 _ | exact At.alloc (At.alloc A3 _) _) hb; clear hb; obtain ⟨l0, c0_0, c0_1, c0_2, c0_3⟩ := At.four A0; obtain ⟨l1, c1_0, c1_1, c1_2, c1_3⟩ := At.four A1; obtain ⟨l2, c2_0, c2_1, c2_2, c2_3⟩ := At.four A2; obtain ⟨l3, c3_0, c3_1, c3_2, c3_3⟩ := At.four A3))
    go_ret
    exact ⟨rfl, hB⟩
  · have k3 : decide (p = a - s1 - s3) = true := by simpa using k2
    clear k2
    go_wp2_with (first | (go_at_call 15; (with_reducible refine (inR_any _ _ _ _ _ _ _ _ _).mono ?_); rintro e w' ⟨rfl, hb⟩; (clear l0 c0_0 c0_1 c0_2 c0_3 l1 c1_0 c1_1 c1_2 c1_3 l2 c2_0 c2_1 c2_2 c2_3 l3 c3_0 c3_1 c3_2 c3_3); (replace hB := Below.after2 (by first | exact hB | exact Below.alloc' hB _ | exact Below.alloc' (Below.alloc' hB _) _) (Nat.le_refl _) hb); replace A0 := At.keep (by first | exact A0 | exact At.alloc A0 _ | exact At.alloc (At.alloc A0 _) _) hb; replace A1 := At.keep (by first | exact A1 | exact At.alloc A1 _ | exact At.alloc (At.alloc A1 _) _) hb; replace A2 := At.keep (by first | exact A2 | exact At.alloc A2 _ | exact At.alloc (At.alloc A2 _) _) hb; replace A3 := At.keep (by first | exact A3 | exact At.alloc A3 _ | exact At.alloc (At.alloc A3 _) _) hb; clear hb; obtain ⟨l0, c0_0, c0_1, c0_2, c0_3⟩ := At.four A0; obtain ⟨l1, c1_0, c1_1, c1_2, c1_3⟩ := At.four A1; obtain ⟨l2, c2_0, c2_1, c2_2, c2_3⟩ := At.four A2; obtain ⟨l3, c3_0, c3_1, c3_2, c3_3⟩ := At.four A3))
    go_ret
    exact ⟨rfl, hB⟩

set_option maxRecDepth 100000 in
set_option maxHeartbeats 8000000 in
theorem sides_out (x y a b s0 s1 s2 s3 : Int) (w : World) (h : ¬ ((0 ≤ s0 ∧ s0 ≤ 1073741824) ∧ (0 ≤ s1 ∧ s1 ≤ 1073741824) ∧ (0 ≤ s2 ∧ s2 ≤ 1073741824) ∧ (0 ≤ s3 ∧ s3 ≤ 1073741824))) (e0 : Fx.small x y a b = true) :
    Calls Try.prog 4 #[.agg #[.int .i64 x, .int .i64 y, .int .i64 a, .int .i64 b], .agg #[.int .i64 s0, .int .i64 s1, .int .i64 s2, .int .i64 s3]] w fun e w' => e = .returned (.bool true) ∧ Below w.heap.size w w' := by
  have H := Lib.hid h
  clear h
  go_enter Try.func4, Try.ntmps4
  go_upto_region 1 with (fail)
  (generalize hW : World.alloc (World.alloc w _) _ = W0; have A0 : At W0 (w.heap.size) (.cells #[.int .i64 x, .int .i64 y, .int .i64 a, .int .i64 b] 23) := (by ((rw [← hW]) <;> exact At.alloc (At.new' _ (by first | done | rfl | simp)) _)); have A1 : At W0 (w.heap.size + 1) (.cells #[.int .i64 s0, .int .i64 s1, .int .i64 s2, .int .i64 s3] 24) := (by ((rw [← hW]) <;> exact At.new' _ (by first | done | rfl | simp))); have hB : Below w.heap.size w W0 := (by ((rw [← hW]) <;> exact Below.alloc' (Below.alloc' (Below.refl _ _) _) _)); clear hW; obtain ⟨l0, c0_0, c0_1, c0_2, c0_3⟩ := At.four A0; obtain ⟨l1, c1_0, c1_1, c1_2, c1_3⟩ := At.four A1)
  go_wp2_with (first | (go_at_call 7; (with_reducible refine (rworks_any _).mono ?_); rintro e w' ⟨rfl, hb⟩; (clear l0 c0_0 c0_1 c0_2 c0_3 l1 c1_0 c1_1 c1_2 c1_3); (replace hB := Below.after2 (by first | exact hB | exact Below.alloc' hB _ | exact Below.alloc' (Below.alloc' hB _) _) (Nat.le_refl _) hb); replace A0 := At.keep (by first | exact A0 | exact At.alloc A0 _ | exact At.alloc (At.alloc A0 _) _) hb; replace A1 := At.keep (by first | exact A1 | exact At.alloc A1 _ | exact At.alloc (At.alloc A1 _) _) hb; clear hb; obtain ⟨l0, c0_0, c0_1, c0_2, c0_3⟩ := At.four A0; obtain ⟨l1, c1_0, c1_1, c1_2, c1_3⟩ := At.four A1) | (go_at_call 8; (with_reducible refine (small_any _ _ _ _ _).mono ?_); rintro e w' ⟨rfl, hb⟩; (clear l0 c0_0 c0_1 c0_2 c0_3 l1 c1_0 c1_1 c1_2 c1_3); (replace hB := Below.after2 (by first | exact hB | exact Below.alloc' hB _ | exact Below.alloc' (Below.alloc' hB _) _) (Nat.le_refl _) hb); replace A0 := At.keep (by first | exact A0 | exact At.alloc A0 _ | exact At.alloc (At.alloc A0 _) _) hb; replace A1 := At.keep (by first | exact A1 | exact At.alloc A1 _ | exact At.alloc (At.alloc A1 _) _) hb; clear hb; obtain ⟨l0, c0_0, c0_1, c0_2, c0_3⟩ := At.four A0; obtain ⟨l1, c1_0, c1_1, c1_2, c1_3⟩ := At.four A1))
  refine wp_loop_rounds 5 ?_
  repeat (any_goals (rw [rounds_succ]; go_upto_region 11 with (fail)))
  all_goals first
    | (go_ret; exact ⟨rfl, hB⟩)
    | (exfalso; exact H.out ⟨⟨by omega, by omega⟩, ⟨by omega, by omega⟩, ⟨by omega, by omega⟩, ⟨by omega, by omega⟩⟩)

theorem sides_walk (x y a b s0 s1 s2 s3 : Int) (w : World) : Calls Try.prog 4 #[.agg #[.int .i64 x, .int .i64 y, .int .i64 a, .int .i64 b], .agg #[.int .i64 s0, .int .i64 s1, .int .i64 s2, .int .i64 s3]] w fun e w' => e = .returned (.bool true) ∧ Below w.heap.size w w' := by
  cases e0 : Fx.small x y a b with
  | false =>
    go_enter Try.func4, Try.ntmps4
    go_upto_region 1 with (fail)
    (generalize hW : World.alloc (World.alloc w _) _ = W0; have A0 : At W0 (w.heap.size) (.cells #[.int .i64 x, .int .i64 y, .int .i64 a, .int .i64 b] 23) := (by ((rw [← hW]) <;> exact At.alloc (At.new' _ (by first | done | rfl | simp)) _)); have A1 : At W0 (w.heap.size + 1) (.cells #[.int .i64 s0, .int .i64 s1, .int .i64 s2, .int .i64 s3] 24) := (by ((rw [← hW]) <;> exact At.new' _ (by first | done | rfl | simp))); have hB : Below w.heap.size w W0 := (by ((rw [← hW]) <;> exact Below.alloc' (Below.alloc' (Below.refl _ _) _) _)); clear hW; obtain ⟨l0, c0_0, c0_1, c0_2, c0_3⟩ := At.four A0; obtain ⟨l1, c1_0, c1_1, c1_2, c1_3⟩ := At.four A1)
    go_wp2_with (first | (go_at_call 7; (with_reducible refine (rworks_any _).mono ?_); rintro e w' ⟨rfl, hb⟩; (clear l0 c0_0 c0_1 c0_2 c0_3 l1 c1_0 c1_1 c1_2 c1_3); (replace hB := Below.after2 (by first | exact hB | exact Below.alloc' hB _ | exact Below.alloc' (Below.alloc' hB _) _) (Nat.le_refl _) hb); replace A0 := At.keep (by first | exact A0 | exact At.alloc A0 _ | exact At.alloc (At.alloc A0 _) _) hb; replace A1 := At.keep (by first | exact A1 | exact At.alloc A1 _ | exact At.alloc (At.alloc A1 _) _) hb; clear hb; obtain ⟨l0, c0_0, c0_1, c0_2, c0_3⟩ := At.four A0; obtain ⟨l1, c1_0, c1_1, c1_2, c1_3⟩ := At.four A1) | (go_at_call 8; (with_reducible refine (small_any _ _ _ _ _).mono ?_); rintro e w' ⟨rfl, hb⟩; (clear l0 c0_0 c0_1 c0_2 c0_3 l1 c1_0 c1_1 c1_2 c1_3); (replace hB := Below.after2 (by first | exact hB | exact Below.alloc' hB _ | exact Below.alloc' (Below.alloc' hB _) _) (Nat.le_refl _) hb); replace A0 := At.keep (by first | exact A0 | exact At.alloc A0 _ | exact At.alloc (At.alloc A0 _) _) hb; replace A1 := At.keep (by first | exact A1 | exact At.alloc A1 _ | exact At.alloc (At.alloc A1 _) _) hb; clear hb; obtain ⟨l0, c0_0, c0_1, c0_2, c0_3⟩ := At.four A0; obtain ⟨l1, c1_0, c1_1, c1_2, c1_3⟩ := At.four A1))
    go_ret
    exact ⟨rfl, hB⟩
  | true =>
    by_cases h : (0 ≤ s0 ∧ s0 ≤ 1073741824) ∧ (0 ≤ s1 ∧ s1 ≤ 1073741824) ∧ (0 ≤ s2 ∧ s2 ≤ 1073741824) ∧ (0 ≤ s3 ∧ s3 ≤ 1073741824)
    · obtain ⟨⟨x1, x2⟩, ⟨y1, y2⟩, ⟨a1, a2⟩, ⟨b1, b2⟩⟩ := Fx.small_iff.1 e0
      obtain ⟨⟨s01, s02⟩, ⟨s11, s12⟩, ⟨s21, s22⟩, ⟨s31, s32⟩⟩ := h
      exact sides_in x y a b s0 s1 s2 s3 w x1 x2 y1 y2 a1 a2 b1 b2 s01 s02 s11 s12 s21 s22 s31 s32
    · exact sides_out x y a b s0 s1 s2 s3 w h e0

end Go.Proofs.Ytfmbmgkckdlhfaa.Fix
