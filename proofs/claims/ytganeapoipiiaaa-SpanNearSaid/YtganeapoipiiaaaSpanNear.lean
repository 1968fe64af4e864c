/- SpanNear: it returns true, and leaves all that was there as it was. -/
import Derived.Test.YtganeapoipiiaaaSpanLaws
import Derived.Test.YtganeapoipiiaaaSpanMore
import Derived.Deep.Cut
import Derived.IntWalk
namespace Go.Proofs.Ytganeapoipiiaaa.Fix
open Go.ChangeShapes Go.WideShapes Go.ChangeAt Go.RowKit
set_option linter.unusedVariables false

set_option maxRecDepth 100000 in
set_option maxHeartbeats 8000000 in
theorem near_out (a b c d e f n : Int) (w : World) (h : ¬ ((-1073741824 ≤ n ∧ n ≤ 1073741824) ∧ (-1073741824 ≤ a ∧ b ≤ 1073741824 ∧ a ≤ b))) : Calls Try.prog 7 #[.agg #[.int .i64 a, .int .i64 b], .agg #[.int .i64 c, .int .i64 d], .agg #[.int .i64 e, .int .i64 f], .int .i64 n] w fun e w' => e = .returned (.bool true) ∧ Below w.heap.size w w' := by
  have H := Lib.hid h
  clear h
  go_enter Try.func7, Try.ntmps7
  go_upto_region 1 with (fail)
  (generalize hW : World.alloc (World.alloc (World.alloc w _) _) _ = W0; have A0 : At W0 (w.heap.size) (.cells #[.int .i64 a, .int .i64 b] 23) := (by ((rw [← hW]) <;> exact At.alloc (At.alloc (At.new' _ (by first | done | rfl | simp)) _) _)); have A1 : At W0 (w.heap.size + 1) (.cells #[.int .i64 c, .int .i64 d] 23) := (by ((rw [← hW]) <;> exact At.alloc (At.new' _ (by first | done | rfl | simp)) _)); have A2 : At W0 (w.heap.size + 1 + 1) (.cells #[.int .i64 e, .int .i64 f] 23) := (by ((rw [← hW]) <;> exact At.new' _ (by first | done | rfl | simp))); have hB : Below w.heap.size w W0 := (by ((rw [← hW]) <;> exact Below.alloc' (Below.alloc' (Below.alloc' (Below.refl _ _) _) _) _)); clear hW; obtain ⟨l0, c0_0, c0_1⟩ := At.two A0; obtain ⟨l1, c1_0, c1_1⟩ := At.two A1; obtain ⟨l2, c2_0, c2_1⟩ := At.two A2)
  go_upto_region 6 with (first | (go_at_call 8; (with_reducible refine (sworks_any _).mono ?_); rintro e w' ⟨rfl, hb⟩; (clear l0 c0_0 c0_1 l1 c1_0 c1_1 l2 c2_0 c2_1); (replace hB := Below.after2 (by first | exact hB | exact Below.alloc' hB _ | exact Below.alloc' (Below.alloc' hB _) _) (Nat.le_refl _) hb); replace A0 := At.keep (by first | exact A0 | exact At.alloc A0 _ | exact At.alloc (At.alloc A0 _) _) hb; replace A1 := At.keep (by first | exact A1 | exact At.alloc A1 _ | exact At.alloc (At.alloc A1 _) _) hb; replace A2 := At.keep (by first | exact A2 | exact At.alloc A2 _ | exact At.alloc (At.alloc A2 _) _) hb; clear hb; obtain ⟨l0, c0_0, c0_1⟩ := At.two A0; obtain ⟨l1, c1_0, c1_1⟩ := At.two A1; obtain ⟨l2, c2_0, c2_1⟩ := At.two A2))
  all_goals first
    | (go_ret; exact ⟨rfl, hB⟩)
    | (exfalso; exact H.out ⟨⟨by omega, by omega⟩, ⟨by omega, by omega, by omega⟩⟩)

set_option maxRecDepth 100000 in
set_option maxHeartbeats 8000000 in
theorem near_in (a b c d e f n : Int) (w : World) (h : (-1073741824 ≤ n ∧ n ≤ 1073741824) ∧ (-1073741824 ≤ a ∧ b ≤ 1073741824 ∧ a ≤ b)) : Calls Try.prog 7 #[.agg #[.int .i64 a, .int .i64 b], .agg #[.int .i64 c, .int .i64 d], .agg #[.int .i64 e, .int .i64 f], .int .i64 n] w fun e w' => e = .returned (.bool true) ∧ Below w.heap.size w w' := by
  obtain ⟨⟨n1, n2⟩, ⟨a1, b1, ab⟩⟩ := h
  obtain ⟨x, e1, x1, x2, x3⟩ : ∃ x, Fx.clamp n a b = x ∧ a ≤ x ∧ x ≤ b ∧ ((n < a ∧ x ≤ a) ∨ (a ≤ n ∧ n ≤ b ∧ x ≤ n ∧ n ≤ x) ∨ (b < n ∧ b ≤ x)) := by
    rw [Fx.clamp_plain (by omega) (by omega) (by omega) (by omega) (by omega)]
    refine ⟨_, rfl, ?_⟩
    (repeat' split) <;> omega
  have s0 : Fx.inn a b a b = true := Fx.inn_ends (by omega) (by omega)
  have X3 := Lib.hid x3
  clear x3
  go_enter Try.func7, Try.ntmps7
  go_upto_region 1 with (fail)
  (generalize hW : World.alloc (World.alloc (World.alloc w _) _) _ = W0; have A0 : At W0 (w.heap.size) (.cells #[.int .i64 a, .int .i64 b] 23) := (by ((rw [← hW]) <;> exact At.alloc (At.alloc (At.new' _ (by first | done | rfl | simp)) _) _)); have A1 : At W0 (w.heap.size + 1) (.cells #[.int .i64 c, .int .i64 d] 23) := (by ((rw [← hW]) <;> exact At.alloc (At.new' _ (by first | done | rfl | simp)) _)); have A2 : At W0 (w.heap.size + 1 + 1) (.cells #[.int .i64 e, .int .i64 f] 23) := (by ((rw [← hW]) <;> exact At.new' _ (by first | done | rfl | simp))); have hB : Below w.heap.size w W0 := (by ((rw [← hW]) <;> exact Below.alloc' (Below.alloc' (Below.alloc' (Below.refl _ _) _) _) _)); clear hW; obtain ⟨l0, c0_0, c0_1⟩ := At.two A0; obtain ⟨l1, c1_0, c1_1⟩ := At.two A1; obtain ⟨l2, c2_0, c2_1⟩ := At.two A2)
  go_upto_region 7 with (first | (go_at_call 8; (with_reducible refine (sworks_any _).mono ?_); rintro e w' ⟨rfl, hb⟩; (clear l0 c0_0 c0_1 l1 c1_0 c1_1 l2 c2_0 c2_1); (replace hB := Below.after2 (by first | exact hB | exact Below.alloc' hB _ | exact Below.alloc' (Below.alloc' hB _) _) (Nat.le_refl _) hb); replace A0 := At.keep (by first | exact A0 | exact At.alloc A0 _ | exact At.alloc (At.alloc A0 _) _) hb; replace A1 := At.keep (by first | exact A1 | exact At.alloc A1 _ | exact At.alloc (At.alloc A1 _) _) hb; replace A2 := At.keep (by first | exact A2 | exact At.alloc A2 _ | exact At.alloc (At.alloc A2 _) _) hb; clear hb; obtain ⟨l0, c0_0, c0_1⟩ := At.two A0; obtain ⟨l1, c1_0, c1_1⟩ := At.two A1; obtain ⟨l2, c2_0, c2_1⟩ := At.two A2) | (go_at_call 25; (with_reducible refine (near_any _ _ _ _).mono ?_); rintro e w' ⟨rfl, hb⟩; (clear l0 c0_0 c0_1 l1 c1_0 c1_1 l2 c2_0 c2_1); (replace hB := Below.after2 (by first | exact hB | exact Below.alloc' hB _ | exact Below.alloc' (Below.alloc' hB _) _) (Nat.le_refl _) hb); replace A0 := At.keep (by first | exact A0 | exact At.alloc A0 _ | exact At.alloc (At.alloc A0 _) _) hb; replace A1 := At.keep (by first | exact A1 | exact At.alloc A1 _ | exact At.alloc (At.alloc A1 _) _) hb; replace A2 := At.keep (by first | exact A2 | exact At.alloc A2 _ | exact At.alloc (At.alloc A2 _) _) hb; clear hb; obtain ⟨l0, c0_0, c0_1⟩ := At.two A0; obtain ⟨l1, c1_0, c1_1⟩ := At.two A1; obtain ⟨l2, c2_0, c2_1⟩ := At.two A2))
  rcases X3.out with ⟨g1, g2⟩ | ⟨g1, g2, g3, g4⟩ | ⟨g1, g2⟩
  all_goals
    clear X3
    go_upto_region 10 with (fail)
    all_goals first
      | (exfalso; omega)
      | skip
    all_goals
      clear n1 n2 a1 b1 ab e1 x1 x2
      cases hx : Fx.inn a b c d with
      | false =>
        go_wp2_with (first | (go_at_call 19; (with_reducible refine (in_any _ _ _ _ _).mono ?_); rintro e w' ⟨rfl, hb⟩; (clear l0 c0_0 c0_1 l1 c1_0 c1_1 l2 c2_0 c2_1); (replace hB := Below.after2 (by first | exact hB | exact Below.alloc' hB _ | exact Below.alloc' (Below.alloc' hB _) _) (Nat.le_refl _) hb); replace A0 := At.keep (by first | exact A0 | exact At.alloc A0 _ | exact At.alloc (At.alloc A0 _) _) hb; replace A1 := At.keep (by first | exact A1 | exact At.alloc A1 _ | exact At.alloc (At.alloc A1 _) _) hb; replace A2 := At.keep (by first | exact A2 | exact At.alloc A2 _ | exact At.alloc (At.alloc A2 _) _) hb; clear hb; obtain ⟨l0, c0_0, c0_1⟩ := At.two A0; obtain ⟨l1, c1_0, c1_1⟩ := At.two A1; obtain ⟨l2, c2_0, c2_1⟩ := At.two A2))
        go_ret
        exact ⟨rfl, hB⟩
      | true =>
        cases hy : Fx.inn c d e f with
        | false =>
          go_wp2_with (first | (go_at_call 19; (with_reducible refine (in_any _ _ _ _ _).mono ?_); rintro e w' ⟨rfl, hb⟩; (clear l0 c0_0 c0_1 l1 c1_0 c1_1 l2 c2_0 c2_1); (replace hB := Below.after2 (by first | exact hB | exact Below.alloc' hB _ | exact Below.alloc' (Below.alloc' hB _) _) (Nat.le_refl _) hb); replace A0 := At.keep (by first | exact A0 | exact At.alloc A0 _ | exact At.alloc (At.alloc A0 _) _) hb; replace A1 := At.keep (by first | exact A1 | exact At.alloc A1 _ | exact At.alloc (At.alloc A1 _) _) hb; replace A2 := At.keep (by first | exact A2 | exact At.alloc A2 _ | exact At.alloc (At.alloc A2 _) _) hb; clear hb; obtain ⟨l0, c0_0, c0_1⟩ := At.two A0; obtain ⟨l1, c1_0, c1_1⟩ := At.two A1; obtain ⟨l2, c2_0, c2_1⟩ := At.two A2))
          go_ret
          exact ⟨rfl, hB⟩
        | true =>
          cases hz : Fx.inn a b e f with
          | true =>
            go_wp2_with (first | (go_at_call 19; (with_reducible refine (in_any _ _ _ _ _).mono ?_); rintro e w' ⟨rfl, hb⟩; (clear l0 c0_0 c0_1 l1 c1_0 c1_1 l2 c2_0 c2_1); (replace hB := Below.after2 (by first | exact hB | exact Below.alloc' hB _ | exact Below.alloc' (Below.alloc' hB _) _) (Nat.le_refl _) hb); replace A0 := At.keep (by first | exact A0 | exact At.alloc A0 _ | exact At.alloc (At.alloc A0 _) _) hb; replace A1 := At.keep (by first | exact A1 | exact At.alloc A1 _ | exact At.alloc (At.alloc A1 _) _) hb; replace A2 := At.keep (by first | exact A2 | exact At.alloc A2 _ | exact At.alloc (At.alloc A2 _) _) hb; clear hb; obtain ⟨l0, c0_0, c0_1⟩ := At.two A0; obtain ⟨l1, c1_0, c1_1⟩ := At.two A1; obtain ⟨l2, c2_0, c2_1⟩ := At.two A2))
            go_ret
            exact ⟨rfl, hB⟩
          | false =>
            have hd : d ≤ c := by
              rcases Int.lt_or_le c d with h | h
              · rw [Fx.in_trans hx hy h] at hz; cases hz
              · exact h
            go_wp2_with (first | (go_at_call 19; (with_reducible refine (in_any _ _ _ _ _).mono ?_); rintro e w' ⟨rfl, hb⟩; (clear l0 c0_0 c0_1 l1 c1_0 c1_1 l2 c2_0 c2_1); (replace hB := Below.after2 (by first | exact hB | exact Below.alloc' hB _ | exact Below.alloc' (Below.alloc' hB _) _) (Nat.le_refl _) hb); replace A0 := At.keep (by first | exact A0 | exact At.alloc A0 _ | exact At.alloc (At.alloc A0 _) _) hb; replace A1 := At.keep (by first | exact A1 | exact At.alloc A1 _ | exact At.alloc (At.alloc A1 _) _) hb; replace A2 := At.keep (by first | exact A2 | exact At.alloc A2 _ | exact At.alloc (At.alloc A2 _) _) hb; clear hb; obtain ⟨l0, c0_0, c0_1⟩ := At.two A0; obtain ⟨l1, c1_0, c1_1⟩ := At.two A1; obtain ⟨l2, c2_0, c2_1⟩ := At.two A2))
            go_ret
            exact ⟨rfl, hB⟩

theorem near_walk (a b c d e f n : Int) (w : World) : Calls Try.prog 7 #[.agg #[.int .i64 a, .int .i64 b], .agg #[.int .i64 c, .int .i64 d], .agg #[.int .i64 e, .int .i64 f], .int .i64 n] w fun e w' => e = .returned (.bool true) ∧ Below w.heap.size w w' := by
  by_cases h : (-1073741824 ≤ n ∧ n ≤ 1073741824) ∧ (-1073741824 ≤ a ∧ b ≤ 1073741824 ∧ a ≤ b)
  · exact near_in a b c d e f n w h
  · exact near_out a b c d e f n w h

end Go.Proofs.Ytganeapoipiiaaa.Fix
