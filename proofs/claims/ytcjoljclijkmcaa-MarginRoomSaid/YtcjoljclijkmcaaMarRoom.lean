/- MarginRoom: it returns true, and leaves all that was there as it was. -/
import Derived.Test.YtcjoljclijkmcaaMarLaws
namespace Go.Proofs.Ytcjoljclijkmcaa.Fix
open Go.ChangeShapes Go.WideShapes Go.ChangeAt Go.RowKit
set_option linter.unusedVariables false

set_option maxHeartbeats 4000000 in
theorem mroom_out (room size bk bn ek en base : Int) (w : World)
    (h : ¬(0 ≤ room ∧ room ≤ 1073741824 ∧ 0 ≤ size ∧ size ≤ 1073741824 ∧ -1073741824 ≤ Fx.len bk bn base 0 ∧ Fx.len bk bn base 0 ≤ 1073741824 ∧ -1073741824 ≤ Fx.len ek en base 0 ∧ Fx.len ek en base 0 ≤ 1073741824)) :
    Calls Try.prog 6 #[.int .i64 room, .int .i64 size, .agg #[.int .i64 bk, .int .i64 bn], .agg #[.int .i64 ek, .int .i64 en], .int .i64 base] w fun e w' => e = .returned (.bool true) ∧ Below w.heap.size w w' := by
  have H := Lib.hid h; clear h
  go_enter Try.func6, Try.ntmps6
  go_upto_region 1 with (fail)
  (generalize hW : World.alloc (World.alloc w _) _ = W0; have A0 : At W0 (w.heap.size) (.cells #[.int .i64 bk, .int .i64 bn] 25) := (by ((rw [← hW]) <;> exact At.alloc (At.new' _ (by first | done | rfl | simp)) _)); have A1 : At W0 (w.heap.size + 1) (.cells #[.int .i64 ek, .int .i64 en] 25) := (by ((rw [← hW]) <;> exact At.new' _ (by first | done | rfl | simp))); have hB : Below w.heap.size w W0 := (by ((rw [← hW]) <;> exact Below.alloc' (Below.alloc' (Below.refl _ _) _) _)); clear hW; obtain ⟨l0, c0_0, c0_1⟩ := At.two A0; obtain ⟨l1, c1_0, c1_1⟩ := At.two A1)
  go_upto_region 9 with (first | (go_at_call 9; (with_reducible refine (mworks_any _).mono ?_); rintro e w' ⟨rfl, hb⟩; (clear l0 c0_0 c0_1 l1 c1_0 c1_1); (replace hB := Below.after2 (by first | exact hB | exact Below.alloc' hB _ | exact Below.alloc' (Below.alloc' hB _) _) (Nat.le_refl _) hb); replace A0 := At.keep (by first | exact A0 | exact At.alloc A0 _ | exact At.alloc (At.alloc A0 _) _) hb; replace A1 := At.keep (by first | exact A1 | exact At.alloc A1 _ | exact At.alloc (At.alloc A1 _) _) hb; clear hb; obtain ⟨l0, c0_0, c0_1⟩ := At.two A0; obtain ⟨l1, c1_0, c1_1⟩ := At.two A1) | (go_at_call 10; (with_reducible refine (auto_any _ _ _ _ _ _ _ _).mono ?_); rintro e w' ⟨rfl, hb⟩; (clear l0 c0_0 c0_1 l1 c1_0 c1_1); (replace hB := Below.after2 (by first | exact hB | exact Below.alloc' hB _ | exact Below.alloc' (Below.alloc' hB _) _) (Nat.le_refl _) hb); replace A0 := At.keep (by first | exact A0 | exact At.alloc A0 _ | exact At.alloc (At.alloc A0 _) _) hb; replace A1 := At.keep (by first | exact A1 | exact At.alloc A1 _ | exact At.alloc (At.alloc A1 _) _) hb; clear hb; obtain ⟨l0, c0_0, c0_1⟩ := At.two A0; obtain ⟨l1, c1_0, c1_1⟩ := At.two A1) | (go_at_call 18; (with_reducible refine (len_any _ _ _ _ _).mono ?_); rintro e w' ⟨rfl, hb⟩; (clear l0 c0_0 c0_1 l1 c1_0 c1_1); (replace hB := Below.after2 (by first | exact hB | exact Below.alloc' hB _ | exact Below.alloc' (Below.alloc' hB _) _) (Nat.le_refl _) hb); replace A0 := At.keep (by first | exact A0 | exact At.alloc A0 _ | exact At.alloc (At.alloc A0 _) _) hb; replace A1 := At.keep (by first | exact A1 | exact At.alloc A1 _ | exact At.alloc (At.alloc A1 _) _) hb; clear hb; obtain ⟨l0, c0_0, c0_1⟩ := At.two A0; obtain ⟨l1, c1_0, c1_1⟩ := At.two A1))
  all_goals first
    | (go_ret; exact ⟨rfl, hB⟩)
    | (exfalso; exact H.out ⟨by omega, by omega, by omega, by omega, by omega, by omega, by omega, by omega⟩)

set_option maxHeartbeats 4000000 in
theorem mroom_full (room size bk bn ek en base : Int) (w : World)
    (h : 0 ≤ room ∧ room ≤ 1073741824 ∧ 0 ≤ size ∧ size ≤ 1073741824 ∧ -1073741824 ≤ Fx.len bk bn base 0 ∧ Fx.len bk bn base 0 ≤ 1073741824 ∧ -1073741824 ≤ Fx.len ek en base 0 ∧ Fx.len ek en base 0 ≤ 1073741824)
    (hf : (Fx.fixd bk base && Fx.fixd ek base) = true ∨ room ≤ size + Fx.len bk bn base 0 + Fx.len ek en base 0) :
    Calls Try.prog 6 #[.int .i64 room, .int .i64 size, .agg #[.int .i64 bk, .int .i64 bn], .agg #[.int .i64 ek, .int .i64 en], .int .i64 base] w fun e w' => e = .returned (.bool true) ∧ Below w.heap.size w w' := by
  obtain ⟨h1, h2, h3, h4, h5, h6, h7, h8⟩ := h
  obtain ⟨eA, eB⟩ := (Fx.auto_roomy room size (Fx.len bk bn base 0) (Fx.len ek en base 0) (Fx.fixd bk base) (Fx.fixd ek base) Fx.len_auto Fx.len_auto h1 h2 h3 h4 h5 h6 h7 h8).1 hf
  have d1 : decide (room < 0) = false := by simp; omega
  have d2 : decide (1073741824 < room) = false := by simp; omega
  have d3 : decide (size < 0) = false := by simp; omega
  have d4 : decide (1073741824 < size) = false := by simp; omega
  have d5 : decide (Fx.len bk bn base 0 < -1073741824) = false := by simp; omega
  have d6 : decide (1073741824 < Fx.len bk bn base 0) = false := by simp; omega
  have d7 : decide (Fx.len ek en base 0 < -1073741824) = false := by simp; omega
  have d8 : decide (1073741824 < Fx.len ek en base 0) = false := by simp; omega
  cases hx : Fx.fixd bk base <;> cases hy : Fx.fixd ek base
  all_goals
    rw [hx, hy] at eA eB hf
    try replace hf : room ≤ size + Fx.len bk bn base 0 + Fx.len ek en base 0 := by simpa using hf
    try have d9 : decide (room ≤ size + Fx.len bk bn base 0 + Fx.len ek en base 0) = true := by simp; omega
    go_enter Try.func6, Try.ntmps6
    go_upto_region 1 with (fail)
    (generalize hW : World.alloc (World.alloc w _) _ = W0; have A0 : At W0 (w.heap.size) (.cells #[.int .i64 bk, .int .i64 bn] 25) := (by ((rw [← hW]) <;> exact At.alloc (At.new' _ (by first | done | rfl | simp)) _)); have A1 : At W0 (w.heap.size + 1) (.cells #[.int .i64 ek, .int .i64 en] 25) := (by ((rw [← hW]) <;> exact At.new' _ (by first | done | rfl | simp))); have hB : Below w.heap.size w W0 := (by ((rw [← hW]) <;> exact Below.alloc' (Below.alloc' (Below.refl _ _) _) _)); clear hW; obtain ⟨l0, c0_0, c0_1⟩ := At.two A0; obtain ⟨l1, c1_0, c1_1⟩ := At.two A1)
    go_wp2_with (first | (go_at_call 9; (with_reducible refine (mworks_any _).mono ?_); rintro e w' ⟨rfl, hb⟩; (clear l0 c0_0 c0_1 l1 c1_0 c1_1); (replace hB := Below.after2 (by first | exact hB | exact Below.alloc' hB _ | exact Below.alloc' (Below.alloc' hB _) _) (Nat.le_refl _) hb); replace A0 := At.keep (by first | exact A0 | exact At.alloc A0 _ | exact At.alloc (At.alloc A0 _) _) hb; replace A1 := At.keep (by first | exact A1 | exact At.alloc A1 _ | exact At.alloc (At.alloc A1 _) _) hb; clear hb; obtain ⟨l0, c0_0, c0_1⟩ := At.two A0; obtain ⟨l1, c1_0, c1_1⟩ := At.two A1) | (go_at_call 10; (with_reducible refine (auto_any _ _ _ _ _ _ _ _).mono ?_); rintro e w' ⟨rfl, hb⟩; (clear l0 c0_0 c0_1 l1 c1_0 c1_1); (replace hB := Below.after2 (by first | exact hB | exact Below.alloc' hB _ | exact Below.alloc' (Below.alloc' hB _) _) (Nat.le_refl _) hb); replace A0 := At.keep (by first | exact A0 | exact At.alloc A0 _ | exact At.alloc (At.alloc A0 _) _) hb; replace A1 := At.keep (by first | exact A1 | exact At.alloc A1 _ | exact At.alloc (At.alloc A1 _) _) hb; clear hb; obtain ⟨l0, c0_0, c0_1⟩ := At.two A0; obtain ⟨l1, c1_0, c1_1⟩ := At.two A1) | (go_at_call 18; (with_reducible refine (len_any _ _ _ _ _).mono ?_); rintro e w' ⟨rfl, hb⟩; (clear l0 c0_0 c0_1 l1 c1_0 c1_1); (replace hB := Below.after2 (by first | exact hB | exact Below.alloc' hB _ | exact Below.alloc' (Below.alloc' hB _) _) (Nat.le_refl _) hb); replace A0 := At.keep (by first | exact A0 | exact At.alloc A0 _ | exact At.alloc (At.alloc A0 _) _) hb; replace A1 := At.keep (by first | exact A1 | exact At.alloc A1 _ | exact At.alloc (At.alloc A1 _) _) hb; clear hb; obtain ⟨l0, c0_0, c0_1⟩ := At.two A0; obtain ⟨l1, c1_0, c1_1⟩ := At.two A1) | (go_at_call 19; (with_reducible refine (fixed_any _ _ _ _).mono ?_); rintro e w' ⟨rfl, hb⟩; (clear l0 c0_0 c0_1 l1 c1_0 c1_1); (replace hB := Below.after2 (by first | exact hB | exact Below.alloc' hB _ | exact Below.alloc' (Below.alloc' hB _) _) (Nat.le_refl _) hb); replace A0 := At.keep (by first | exact A0 | exact At.alloc A0 _ | exact At.alloc (At.alloc A0 _) _) hb; replace A1 := At.keep (by first | exact A1 | exact At.alloc A1 _ | exact At.alloc (At.alloc A1 _) _) hb; clear hb; obtain ⟨l0, c0_0, c0_1⟩ := At.two A0; obtain ⟨l1, c1_0, c1_1⟩ := At.two A1))
    go_ret
    exact ⟨rfl, hB⟩

set_option maxHeartbeats 4000000 in
theorem mroom_part (room size bk bn ek en base : Int) (w : World)
    (h : 0 ≤ room ∧ room ≤ 1073741824 ∧ 0 ≤ size ∧ size ≤ 1073741824 ∧ -1073741824 ≤ Fx.len bk bn base 0 ∧ Fx.len bk bn base 0 ≤ 1073741824 ∧ -1073741824 ≤ Fx.len ek en base 0 ∧ Fx.len ek en base 0 ≤ 1073741824)
    (hf : ¬((Fx.fixd bk base && Fx.fixd ek base) = true ∨ room ≤ size + Fx.len bk bn base 0 + Fx.len ek en base 0)) :
    Calls Try.prog 6 #[.int .i64 room, .int .i64 size, .agg #[.int .i64 bk, .int .i64 bn], .agg #[.int .i64 ek, .int .i64 en], .int .i64 base] w fun e w' => e = .returned (.bool true) ∧ Below w.heap.size w w' := by
  obtain ⟨h1, h2, h3, h4, h5, h6, h7, h8⟩ := h
  obtain ⟨eA, eM, eC, eD, eE, eF⟩ := (Fx.auto_roomy room size (Fx.len bk bn base 0) (Fx.len ek en base 0) (Fx.fixd bk base) (Fx.fixd ek base) Fx.len_auto Fx.len_auto h1 h2 h3 h4 h5 h6 h7 h8).2 hf
  have d1 : decide (room < 0) = false := by simp; omega
  have d2 : decide (1073741824 < room) = false := by simp; omega
  have d3 : decide (size < 0) = false := by simp; omega
  have d4 : decide (1073741824 < size) = false := by simp; omega
  have d5 : decide (Fx.len bk bn base 0 < -1073741824) = false := by simp; omega
  have d6 : decide (1073741824 < Fx.len bk bn base 0) = false := by simp; omega
  have d7 : decide (Fx.len ek en base 0 < -1073741824) = false := by simp; omega
  have d8 : decide (1073741824 < Fx.len ek en base 0) = false := by simp; omega
  have d9 : decide (room ≤ size + Fx.len bk bn base 0 + Fx.len ek en base 0) = false := by simp; omega
  cases hx : Fx.fixd bk base <;> cases hy : Fx.fixd ek base
  case true.true => rw [hx, hy] at hf; exact absurd (Or.inl rfl) hf
  all_goals
    rw [hx, hy] at eA eM eC eD eE eF
    try obtain ⟨m1, m2⟩ := eM rfl rfl
    clear eM hf
    go_enter Try.func6, Try.ntmps6
    go_upto_region 1 with (fail)
    (generalize hW : World.alloc (World.alloc w _) _ = W0; have A0 : At W0 (w.heap.size) (.cells #[.int .i64 bk, .int .i64 bn] 25) := (by ((rw [← hW]) <;> exact At.alloc (At.new' _ (by first | done | rfl | simp)) _)); have A1 : At W0 (w.heap.size + 1) (.cells #[.int .i64 ek, .int .i64 en] 25) := (by ((rw [← hW]) <;> exact At.new' _ (by first | done | rfl | simp))); have hB : Below w.heap.size w W0 := (by ((rw [← hW]) <;> exact Below.alloc' (Below.alloc' (Below.refl _ _) _) _)); clear hW; obtain ⟨l0, c0_0, c0_1⟩ := At.two A0; obtain ⟨l1, c1_0, c1_1⟩ := At.two A1)
    go_wp2_with (first | (go_at_call 9; (with_reducible refine (mworks_any _).mono ?_); rintro e w' ⟨rfl, hb⟩; (clear l0 c0_0 c0_1 l1 c1_0 c1_1); (replace hB := Below.after2 (by first | exact hB | exact Below.alloc' hB _ | exact Below.alloc' (Below.alloc' hB _) _) (Nat.le_refl _) hb); replace A0 := At.keep (by first | exact A0 | exact At.alloc A0 _ | exact At.alloc (At.alloc A0 _) _) hb; replace A1 := At.keep (by first | exact A1 | exact At.alloc A1 _ | exact At.alloc (At.alloc A1 _) _) hb; clear hb; obtain ⟨l0, c0_0, c0_1⟩ := At.two A0; obtain ⟨l1, c1_0, c1_1⟩ := At.two A1) | (go_at_call 10; (with_reducible refine (auto_any _ _ _ _ _ _ _ _).mono ?_); rintro e w' ⟨rfl, hb⟩; (clear l0 c0_0 c0_1 l1 c1_0 c1_1); (replace hB := Below.after2 (by first | exact hB | exact Below.alloc' hB _ | exact Below.alloc' (Below.alloc' hB _) _) (Nat.le_refl _) hb); replace A0 := At.keep (by first | exact A0 | exact At.alloc A0 _ | exact At.alloc (At.alloc A0 _) _) hb; replace A1 := At.keep (by first | exact A1 | exact At.alloc A1 _ | exact At.alloc (At.alloc A1 _) _) hb; clear hb; obtain ⟨l0, c0_0, c0_1⟩ := At.two A0; obtain ⟨l1, c1_0, c1_1⟩ := At.two A1) | (go_at_call 18; (with_reducible refine (len_any _ _ _ _ _).mono ?_); rintro e w' ⟨rfl, hb⟩; (clear l0 c0_0 c0_1 l1 c1_0 c1_1); (replace hB := Below.after2 (by first | exact hB | exact Below.alloc' hB _ | exact Below.alloc' (Below.alloc' hB _) _) (Nat.le_refl _) hb); replace A0 := At.keep (by first | exact A0 | exact At.alloc A0 _ | exact At.alloc (At.alloc A0 _) _) hb; replace A1 := At.keep (by first | exact A1 | exact At.alloc A1 _ | exact At.alloc (At.alloc A1 _) _) hb; clear hb; obtain ⟨l0, c0_0, c0_1⟩ := At.two A0; obtain ⟨l1, c1_0, c1_1⟩ := At.two A1) | (go_at_call 19; (with_reducible refine (fixed_any _ _ _ _).mono ?_); rintro e w' ⟨rfl, hb⟩; (clear l0 c0_0 c0_1 l1 c1_0 c1_1); (replace hB := Below.after2 (by first | exact hB | exact Below.alloc' hB _ | exact Below.alloc' (Below.alloc' hB _) _) (Nat.le_refl _) hb); replace A0 := At.keep (by first | exact A0 | exact At.alloc A0 _ | exact At.alloc (At.alloc A0 _) _) hb; replace A1 := At.keep (by first | exact A1 | exact At.alloc A1 _ | exact At.alloc (At.alloc A1 _) _) hb; clear hb; obtain ⟨l0, c0_0, c0_1⟩ := At.two A0; obtain ⟨l1, c1_0, c1_1⟩ := At.two A1))
    go_ret
    exact ⟨rfl, hB⟩

theorem mroom_walk (room size bk bn ek en base : Int) (w : World) :
    Calls Try.prog 6 #[.int .i64 room, .int .i64 size, .agg #[.int .i64 bk, .int .i64 bn], .agg #[.int .i64 ek, .int .i64 en], .int .i64 base] w fun e w' => e = .returned (.bool true) ∧ Below w.heap.size w w' := by
  by_cases h : 0 ≤ room ∧ room ≤ 1073741824 ∧ 0 ≤ size ∧ size ≤ 1073741824 ∧ -1073741824 ≤ Fx.len bk bn base 0 ∧ Fx.len bk bn base 0 ≤ 1073741824 ∧ -1073741824 ≤ Fx.len ek en base 0 ∧ Fx.len ek en base 0 ≤ 1073741824
  · by_cases hf : (Fx.fixd bk base && Fx.fixd ek base) = true ∨ room ≤ size + Fx.len bk bn base 0 + Fx.len ek en base 0
    · exact mroom_full room size bk bn ek en base w h hf
    · exact mroom_part room size bk bn ek en base w h hf
  · exact mroom_out room size bk bn ek en base w h

end Go.Proofs.Ytcjoljclijkmcaa.Fix
