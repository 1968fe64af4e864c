/- RectMoves: it returns true, and leaves all that was there as it was. -/
import Derived.Test.YtfmbmgkckdlhfaaRectMovesA
import Derived.Test.YtfmbmgkckdlhfaaRectMovesB
import Derived.Test.YtfmbmgkckdlhfaaRectMovesC
import Derived.Test.YtfmbmgkckdlhfaaRectMovesD
import Derived.Test.YtfmbmgkckdlhfaaRectMovesE
namespace Go.Proofs.Ytfmbmgkckdlhfaa.Fix
open Go.ChangeShapes Go.WideShapes Go.ChangeAt Go.RowKit
set_option linter.unusedVariables false

set_option maxRecDepth 100000 in
set_option maxHeartbeats 16000000 in
theorem moves_out (x y a b u v p q s0 s1 s2 s3 : Int) (w : World) (e0 : Fx.small x y a b = true)
    (h : ¬ (((-1073741824 ≤ u ∧ u ≤ 1073741824) ∧ (-1073741824 ≤ v ∧ v ≤ 1073741824) ∧ (-1073741824 ≤ p ∧ p ≤ 1073741824) ∧ (-1073741824 ≤ q ∧ q ≤ 1073741824)) ∧ ((0 ≤ s0 ∧ s0 ≤ 1073741824) ∧ (0 ≤ s1 ∧ s1 ≤ 1073741824) ∧ (0 ≤ s2 ∧ s2 ≤ 1073741824) ∧ (0 ≤ s3 ∧ s3 ≤ 1073741824)))) :
    Calls Try.prog 3 #[.agg #[.int .i64 x, .int .i64 y, .int .i64 a, .int .i64 b], .int .i64 u, .int .i64 v, .int .i64 p, .int .i64 q, .agg #[.int .i64 s0, .int .i64 s1, .int .i64 s2, .int .i64 s3]] w fun e w' => e = .returned (.bool true) ∧ Below w.heap.size w w' := by
  have H := Lib.hid h
  clear h
  go_enter Try.func3, Try.ntmps3
  go_upto_region 1 with (fail)
  (generalize hW : World.alloc (World.alloc w _) _ = W0; have A0 : At W0 (w.heap.size) (.cells #[.int .i64 x, .int .i64 y, .int .i64 a, .int .i64 b] 23) := (by ((rw [← hW]) <;> exact At.alloc (At.new' _ (by first | done | rfl | simp)) _)); have A1 : At W0 (w.heap.size + 1) (.cells #[.int .i64 s0, .int .i64 s1, .int .i64 s2, .int .i64 s3] 24) := (by ((rw [← hW]) <;> exact At.new' _ (by first | done | rfl | simp))); have hB : Below w.heap.size w W0 := (by ((rw [← hW]) <;> exact Below.alloc' (Below.alloc' (Below.refl _ _) _) _)); clear hW; obtain ⟨l0, c0_0, c0_1, c0_2, c0_3⟩ := At.four A0; obtain ⟨l1, c1_0, c1_1, c1_2, c1_3⟩ := At.four A1)
  go_upto_region 6 with (first | (go_at_call 7; (with_reducible refine (rworks_any _).mono ?_); rintro e w' ⟨rfl, hb⟩; (clear l0 c0_0 c0_1 c0_2 c0_3 l1 c1_0 c1_1 c1_2 c1_3); (replace hB := Below.after2 (by first | exact hB | exact Below.alloc' hB _ | exact Below.alloc' (Below.alloc' hB _) _) (Nat.le_refl _) hb); replace A0 := At.keep (by first | exact A0 | exact At.alloc A0 _ | exact At.alloc (At.alloc A0 _) _) hb; replace A1 := At.keep (by first | exact A1 | exact At.alloc A1 _ | exact At.alloc (At.alloc A1 _) _) hb; clear hb; obtain ⟨l0, c0_0, c0_1, c0_2, c0_3⟩ := At.four A0; obtain ⟨l1, c1_0, c1_1, c1_2, c1_3⟩ := At.four A1) | (go_at_call 8; (with_reducible refine (small_any _ _ _ _ _).mono ?_); rintro e w' ⟨rfl, hb⟩; (clear l0 c0_0 c0_1 c0_2 c0_3 l1 c1_0 c1_1 c1_2 c1_3); (replace hB := Below.after2 (by first | exact hB | exact Below.alloc' hB _ | exact Below.alloc' (Below.alloc' hB _) _) (Nat.le_refl _) hb); replace A0 := At.keep (by first | exact A0 | exact At.alloc A0 _ | exact At.alloc (At.alloc A0 _) _) hb; replace A1 := At.keep (by first | exact A1 | exact At.alloc A1 _ | exact At.alloc (At.alloc A1 _) _) hb; clear hb; obtain ⟨l0, c0_0, c0_1, c0_2, c0_3⟩ := At.four A0; obtain ⟨l1, c1_0, c1_1, c1_2, c1_3⟩ := At.four A1))
  all_goals first
    | (go_ret; exact ⟨rfl, hB⟩)
    | skip
  go_wp2
  refine wp_loop_rounds 5 ?_
  repeat (any_goals (rw [rounds_succ]; go_upto_region 11 with (fail)))
  all_goals first
    | (go_ret; exact ⟨rfl, hB⟩)
    | (exfalso; exact H.out ⟨⟨⟨by omega, by omega⟩, ⟨by omega, by omega⟩, ⟨by omega, by omega⟩, ⟨by omega, by omega⟩⟩, ⟨⟨by omega, by omega⟩, ⟨by omega, by omega⟩, ⟨by omega, by omega⟩, ⟨by omega, by omega⟩⟩⟩)

set_option maxRecDepth 100000 in
set_option maxHeartbeats 16000000 in
theorem rmoves_walk (x y a b u v p q s0 s1 s2 s3 : Int) (w : World) : Calls Try.prog 3 #[.agg #[.int .i64 x, .int .i64 y, .int .i64 a, .int .i64 b], .int .i64 u, .int .i64 v, .int .i64 p, .int .i64 q, .agg #[.int .i64 s0, .int .i64 s1, .int .i64 s2, .int .i64 s3]] w fun e w' => e = .returned (.bool true) ∧ Below w.heap.size w w' := by
  cases e0 : Fx.small x y a b with
  | false =>
    go_enter Try.func3, Try.ntmps3
    go_upto_region 1 with (fail)
    (generalize hW : World.alloc (World.alloc w _) _ = W0; have A0 : At W0 (w.heap.size) (.cells #[.int .i64 x, .int .i64 y, .int .i64 a, .int .i64 b] 23) := (by ((rw [← hW]) <;> exact At.alloc (At.new' _ (by first | done | rfl | simp)) _)); have A1 : At W0 (w.heap.size + 1) (.cells #[.int .i64 s0, .int .i64 s1, .int .i64 s2, .int .i64 s3] 24) := (by ((rw [← hW]) <;> exact At.new' _ (by first | done | rfl | simp))); have hB : Below w.heap.size w W0 := (by ((rw [← hW]) <;> exact Below.alloc' (Below.alloc' (Below.refl _ _) _) _)); clear hW; obtain ⟨l0, c0_0, c0_1, c0_2, c0_3⟩ := At.four A0; obtain ⟨l1, c1_0, c1_1, c1_2, c1_3⟩ := At.four A1)
    go_wp2_with (first | (go_at_call 7; (with_reducible refine (rworks_any _).mono ?_); rintro e w' ⟨rfl, hb⟩; (clear l0 c0_0 c0_1 c0_2 c0_3 l1 c1_0 c1_1 c1_2 c1_3); (replace hB := Below.after2 (by first | exact hB | exact Below.alloc' hB _ | exact Below.alloc' (Below.alloc' hB _) _) (Nat.le_refl _) hb); replace A0 := At.keep (by first | exact A0 | exact At.alloc A0 _ | exact At.alloc (At.alloc A0 _) _) hb; replace A1 := At.keep (by first | exact A1 | exact At.alloc A1 _ | exact At.alloc (At.alloc A1 _) _) hb; clear hb; obtain ⟨l0, c0_0, c0_1, c0_2, c0_3⟩ := At.four A0; obtain ⟨l1, c1_0, c1_1, c1_2, c1_3⟩ := At.four A1) | (go_at_call 8; (with_reducible refine (small_any _ _ _ _ _).mono ?_); rintro e w' ⟨rfl, hb⟩; (clear l0 c0_0 c0_1 c0_2 c0_3 l1 c1_0 c1_1 c1_2 c1_3); (replace hB := Below.after2 (by first | exact hB | exact Below.alloc' hB _ | exact Below.alloc' (Below.alloc' hB _) _) (Nat.le_refl _) hb); replace A0 := At.keep (by first | exact A0 | exact At.alloc A0 _ | exact At.alloc (At.alloc A0 _) _) hb; replace A1 := At.keep (by first | exact A1 | exact At.alloc A1 _ | exact At.alloc (At.alloc A1 _) _) hb; clear hb; obtain ⟨l0, c0_0, c0_1, c0_2, c0_3⟩ := At.four A0; obtain ⟨l1, c1_0, c1_1, c1_2, c1_3⟩ := At.four A1))
    go_ret
    exact ⟨rfl, hB⟩
  | true =>
    by_cases h : ((-1073741824 ≤ u ∧ u ≤ 1073741824) ∧ (-1073741824 ≤ v ∧ v ≤ 1073741824) ∧ (-1073741824 ≤ p ∧ p ≤ 1073741824) ∧ (-1073741824 ≤ q ∧ q ≤ 1073741824)) ∧ ((0 ≤ s0 ∧ s0 ≤ 1073741824) ∧ (0 ≤ s1 ∧ s1 ≤ 1073741824) ∧ (0 ≤ s2 ∧ s2 ≤ 1073741824) ∧ (0 ≤ s3 ∧ s3 ≤ 1073741824))
    · obtain ⟨⟨x1, x2⟩, ⟨y1, y2⟩, ⟨a1, a2⟩, ⟨b1, b2⟩⟩ := Fx.small_iff.1 e0
      obtain ⟨⟨⟨u1, u2⟩, ⟨v1, v2⟩, ⟨p1, p2⟩, ⟨q1, q2⟩⟩, ⟨s01, s02⟩, ⟨s11, s12⟩, ⟨s21, s22⟩, ⟨s31, s32⟩⟩ := h
      cases hz : (decide (s0 = 0) && decide (s1 = 0) && decide (s2 = 0) && decide (s3 = 0)) with
      | true => exact moves_0 x y a b u v p q s0 s1 s2 s3 w x1 x2 y1 y2 a1 a2 b1 b2 u1 u2 v1 v2 p1 p2 q1 q2 s01 s02 s11 s12 s21 s22 s31 s32 hz
      | false =>
        cases ka : (a == 0) <;> cases kb : (b == 0)
        · exact moves_1 x y a b u v p q s0 s1 s2 s3 w x1 x2 y1 y2 a1 a2 b1 b2 u1 u2 v1 v2 p1 p2 q1 q2 s01 s02 s11 s12 s21 s22 s31 s32 hz ka kb
        · exact moves_2 x y a b u v p q s0 s1 s2 s3 w x1 x2 y1 y2 a1 a2 b1 b2 u1 u2 v1 v2 p1 p2 q1 q2 s01 s02 s11 s12 s21 s22 s31 s32 hz ka kb
        · exact moves_3 x y a b u v p q s0 s1 s2 s3 w x1 x2 y1 y2 a1 a2 b1 b2 u1 u2 v1 v2 p1 p2 q1 q2 s01 s02 s11 s12 s21 s22 s31 s32 hz ka kb
        · exact moves_4 x y a b u v p q s0 s1 s2 s3 w x1 x2 y1 y2 a1 a2 b1 b2 u1 u2 v1 v2 p1 p2 q1 q2 s01 s02 s11 s12 s21 s22 s31 s32 hz ka kb
    · exact moves_out x y a b u v p q s0 s1 s2 s3 w e0 h

end Go.Proofs.Ytfmbmgkckdlhfaa.Fix
