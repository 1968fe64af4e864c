/- LengthWithin: it returns true, and leaves all that was there as it was. -/
import Derived.Test.YthpocilmnohahaaLenLaws
import Derived.IntWalk
namespace Go.Proofs.Ythpocilmnohahaa.Fix
open Go.ChangeShapes Go.WideShapes Go.ChangeAt Go.RowKit
set_option linter.unusedVariables false
set_option linter.unusedSimpArgs false

set_option maxRecDepth 100000 in
set_option maxHeartbeats 8000000 in
theorem lwithin_1 (n m lk ln hk hn base : Int) (w : World) (h1 : Fx.fixd lk base = false) (h2 : Fx.fixd hk base = false) : Calls Try.prog 5 #[.int .i64 n, .int .i64 m, .agg #[.int .i64 lk, .int .i64 ln], .agg #[.int .i64 hk, .int .i64 hn], .int .i64 base] w fun e w' => e = .returned (.bool true) ∧ Below w.heap.size w w' := by
  have g0 := Fx.limit_ge0 n lk ln hk hn base
  have g1 := Lib.hid (Fx.within_lo n ln hk hn (lk := lk) (base := base))
  have g2 := Lib.hid (Fx.within_hi n lk ln hn (hk := hk) (base := base))
  rw [h1] at g1 g2
  rw [h2] at g2
  have g3 := Fx.limit_again n lk ln hk hn base
  have g4 := Lib.hid (@Fx.limit_more n m lk ln hk hn base)
  go_enter Try.func5, Try.ntmps5
  go_upto_region 1 with (fail)
  (generalize hW : World.alloc (World.alloc w _) _ = W0; have A0 : At W0 (w.heap.size) (.cells #[.int .i64 lk, .int .i64 ln] 24) := (by ((rw [← hW]) <;> exact At.alloc (At.new' _ (by first | done | rfl | simp)) _)); have A1 : At W0 (w.heap.size + 1) (.cells #[.int .i64 hk, .int .i64 hn] 24) := (by ((rw [← hW]) <;> exact At.new' _ (by first | done | rfl | simp))); have hB : Below w.heap.size w W0 := (by ((rw [← hW]) <;> exact Below.alloc' (Below.alloc' (Below.refl _ _) _) _)); clear hW; obtain ⟨l0, c0_0, c0_1⟩ := At.two A0; obtain ⟨l1, c1_0, c1_1⟩ := At.two A1)
  go_upto_region 10 with (first | (go_at_call 10; (with_reducible refine (lworks_any _).mono ?_); rintro e w' ⟨rfl, hb⟩; (clear l0 c0_0 c0_1 l1 c1_0 c1_1); (replace hB := Below.after2 (by first | exact hB | exact Below.alloc' hB _ | exact Below.alloc' (Below.alloc' hB _) _) (Nat.le_refl _) hb); replace A0 := At.keep (by first | exact A0 | exact At.alloc A0 _ | exact At.alloc (At.alloc A0 _) _) hb; replace A1 := At.keep (by first | exact A1 | exact At.alloc A1 _ | exact At.alloc (At.alloc A1 _) _) hb; clear hb; obtain ⟨l0, c0_0, c0_1⟩ := At.two A0; obtain ⟨l1, c1_0, c1_1⟩ := At.two A1) | (go_at_call 19; (with_reducible refine (limit_any _ _ _ _ _ _ _).mono ?_); rintro e w' ⟨rfl, hb⟩; (clear l0 c0_0 c0_1 l1 c1_0 c1_1); (replace hB := Below.after2 (by first | exact hB | exact Below.alloc' hB _ | exact Below.alloc' (Below.alloc' hB _) _) (Nat.le_refl _) hb); replace A0 := At.keep (by first | exact A0 | exact At.alloc A0 _ | exact At.alloc (At.alloc A0 _) _) hb; replace A1 := At.keep (by first | exact A1 | exact At.alloc A1 _ | exact At.alloc (At.alloc A1 _) _) hb; clear hb; obtain ⟨l0, c0_0, c0_1⟩ := At.two A0; obtain ⟨l1, c1_0, c1_1⟩ := At.two A1) | (go_at_call 13; (with_reducible refine (fixed_any _ _ _ _).mono ?_); rintro e w' ⟨rfl, hb⟩; (clear l0 c0_0 c0_1 l1 c1_0 c1_1); (replace hB := Below.after2 (by first | exact hB | exact Below.alloc' hB _ | exact Below.alloc' (Below.alloc' hB _) _) (Nat.le_refl _) hb); replace A0 := At.keep (by first | exact A0 | exact At.alloc A0 _ | exact At.alloc (At.alloc A0 _) _) hb; replace A1 := At.keep (by first | exact A1 | exact At.alloc A1 _ | exact At.alloc (At.alloc A1 _) _) hb; clear hb; obtain ⟨l0, c0_0, c0_1⟩ := At.two A0; obtain ⟨l1, c1_0, c1_1⟩ := At.two A1) | (go_at_call 11; (with_reducible refine (len_any _ _ _ _ _).mono ?_); rintro e w' ⟨rfl, hb⟩; (clear l0 c0_0 c0_1 l1 c1_0 c1_1); (replace hB := Below.after2 (by first | exact hB | exact Below.alloc' hB _ | exact Below.alloc' (Below.alloc' hB _) _) (Nat.le_refl _) hb); replace A0 := At.keep (by first | exact A0 | exact At.alloc A0 _ | exact At.alloc (At.alloc A0 _) _) hb; replace A1 := At.keep (by first | exact A1 | exact At.alloc A1 _ | exact At.alloc (At.alloc A1 _) _) hb; clear hb; obtain ⟨l0, c0_0, c0_1⟩ := At.two A0; obtain ⟨l1, c1_0, c1_1⟩ := At.two A1))
  all_goals first
    | (exfalso; have k1 := g1.out; have k2 := g2.out; simp only [cond_true, cond_false, Fx.mx] at k1 k2; (repeat' split at *) <;> first | contradiction | omega)
    | (by_cases h5 : n ≤ m
       · have h6 := g4.out h5
         go_wp2_with (first | (go_at_call 19; (with_reducible refine (limit_any _ _ _ _ _ _ _).mono ?_); rintro e w' ⟨rfl, hb⟩; (clear l0 c0_0 c0_1 l1 c1_0 c1_1); (replace hB := Below.after2 (by first | exact hB | exact Below.alloc' hB _ | exact Below.alloc' (Below.alloc' hB _) _) (Nat.le_refl _) hb); replace A0 := At.keep (by first | exact A0 | exact At.alloc A0 _ | exact At.alloc (At.alloc A0 _) _) hb; replace A1 := At.keep (by first | exact A1 | exact At.alloc A1 _ | exact At.alloc (At.alloc A1 _) _) hb; clear hb; obtain ⟨l0, c0_0, c0_1⟩ := At.two A0; obtain ⟨l1, c1_0, c1_1⟩ := At.two A1))
         all_goals first
           | (go_ret; exact ⟨rfl, hB⟩)
           | (exfalso; omega)
       · have h6 : m < n := by omega
         go_wp2_with (first | (go_at_call 19; (with_reducible refine (limit_any _ _ _ _ _ _ _).mono ?_); rintro e w' ⟨rfl, hb⟩; (clear l0 c0_0 c0_1 l1 c1_0 c1_1); (replace hB := Below.after2 (by first | exact hB | exact Below.alloc' hB _ | exact Below.alloc' (Below.alloc' hB _) _) (Nat.le_refl _) hb); replace A0 := At.keep (by first | exact A0 | exact At.alloc A0 _ | exact At.alloc (At.alloc A0 _) _) hb; replace A1 := At.keep (by first | exact A1 | exact At.alloc A1 _ | exact At.alloc (At.alloc A1 _) _) hb; clear hb; obtain ⟨l0, c0_0, c0_1⟩ := At.two A0; obtain ⟨l1, c1_0, c1_1⟩ := At.two A1))
         all_goals first
           | (go_ret; exact ⟨rfl, hB⟩)
           | (exfalso; omega))

set_option maxRecDepth 100000 in
set_option maxHeartbeats 8000000 in
theorem lwithin_2 (n m lk ln hk hn base : Int) (w : World) (h1 : Fx.fixd lk base = false) (h2 : Fx.fixd hk base = true) : Calls Try.prog 5 #[.int .i64 n, .int .i64 m, .agg #[.int .i64 lk, .int .i64 ln], .agg #[.int .i64 hk, .int .i64 hn], .int .i64 base] w fun e w' => e = .returned (.bool true) ∧ Below w.heap.size w w' := by
  have g0 := Fx.limit_ge0 n lk ln hk hn base
  have g1 := Lib.hid (Fx.within_lo n ln hk hn (lk := lk) (base := base))
  have g2 := Lib.hid (Fx.within_hi n lk ln hn (hk := hk) (base := base))
  rw [h1] at g1 g2
  rw [h2] at g2
  have g3 := Fx.limit_again n lk ln hk hn base
  have g4 := Lib.hid (@Fx.limit_more n m lk ln hk hn base)
  go_enter Try.func5, Try.ntmps5
  go_upto_region 1 with (fail)
  (generalize hW : World.alloc (World.alloc w _) _ = W0; have A0 : At W0 (w.heap.size) (.cells #[.int .i64 lk, .int .i64 ln] 24) := (by ((rw [← hW]) <;> exact At.alloc (At.new' _ (by first | done | rfl | simp)) _)); have A1 : At W0 (w.heap.size + 1) (.cells #[.int .i64 hk, .int .i64 hn] 24) := (by ((rw [← hW]) <;> exact At.new' _ (by first | done | rfl | simp))); have hB : Below w.heap.size w W0 := (by ((rw [← hW]) <;> exact Below.alloc' (Below.alloc' (Below.refl _ _) _) _)); clear hW; obtain ⟨l0, c0_0, c0_1⟩ := At.two A0; obtain ⟨l1, c1_0, c1_1⟩ := At.two A1)
  go_upto_region 10 with (first | (go_at_call 10; (with_reducible refine (lworks_any _).mono ?_); rintro e w' ⟨rfl, hb⟩; (clear l0 c0_0 c0_1 l1 c1_0 c1_1); (replace hB := Below.after2 (by first | exact hB | exact Below.alloc' hB _ | exact Below.alloc' (Below.alloc' hB _) _) (Nat.le_refl _) hb); replace A0 := At.keep (by first | exact A0 | exact At.alloc A0 _ | exact At.alloc (At.alloc A0 _) _) hb; replace A1 := At.keep (by first | exact A1 | exact At.alloc A1 _ | exact At.alloc (At.alloc A1 _) _) hb; clear hb; obtain ⟨l0, c0_0, c0_1⟩ := At.two A0; obtain ⟨l1, c1_0, c1_1⟩ := At.two A1) | (go_at_call 19; (with_reducible refine (limit_any _ _ _ _ _ _ _).mono ?_); rintro e w' ⟨rfl, hb⟩; (clear l0 c0_0 c0_1 l1 c1_0 c1_1); (replace hB := Below.after2 (by first | exact hB | exact Below.alloc' hB _ | exact Below.alloc' (Below.alloc' hB _) _) (Nat.le_refl _) hb); replace A0 := At.keep (by first | exact A0 | exact At.alloc A0 _ | exact At.alloc (At.alloc A0 _) _) hb; replace A1 := At.keep (by first | exact A1 | exact At.alloc A1 _ | exact At.alloc (At.alloc A1 _) _) hb; clear hb; obtain ⟨l0, c0_0, c0_1⟩ := At.two A0; obtain ⟨l1, c1_0, c1_1⟩ := At.two A1) | (go_at_call 13; (with_reducible refine (fixed_any _ _ _ _).mono ?_); rintro e w' ⟨rfl, hb⟩; (clear l0 c0_0 c0_1 l1 c1_0 c1_1); (replace hB := Below.after2 (by first | exact hB | exact Below.alloc' hB _ | exact Below.alloc' (Below.alloc' hB _) _) (Nat.le_refl _) hb); replace A0 := At.keep (by first | exact A0 | exact At.alloc A0 _ | exact At.alloc (At.alloc A0 _) _) hb; replace A1 := At.keep (by first | exact A1 | exact At.alloc A1 _ | exact At.alloc (At.alloc A1 _) _) hb; clear hb; obtain ⟨l0, c0_0, c0_1⟩ := At.two A0; obtain ⟨l1, c1_0, c1_1⟩ := At.two A1) | (go_at_call 11; (with_reducible refine (len_any _ _ _ _ _).mono ?_); rintro e w' ⟨rfl, hb⟩; (clear l0 c0_0 c0_1 l1 c1_0 c1_1); (replace hB := Below.after2 (by first | exact hB | exact Below.alloc' hB _ | exact Below.alloc' (Below.alloc' hB _) _) (Nat.le_refl _) hb); replace A0 := At.keep (by first | exact A0 | exact At.alloc A0 _ | exact At.alloc (At.alloc A0 _) _) hb; replace A1 := At.keep (by first | exact A1 | exact At.alloc A1 _ | exact At.alloc (At.alloc A1 _) _) hb; clear hb; obtain ⟨l0, c0_0, c0_1⟩ := At.two A0; obtain ⟨l1, c1_0, c1_1⟩ := At.two A1))
  all_goals first
    | (exfalso; have k1 := g1.out; have k2 := g2.out; simp only [cond_true, cond_false, Fx.mx] at k1 k2; (repeat' split at *) <;> first | contradiction | omega)
    | (by_cases h5 : n ≤ m
       · have h6 := g4.out h5
         go_wp2_with (first | (go_at_call 19; (with_reducible refine (limit_any _ _ _ _ _ _ _).mono ?_); rintro e w' ⟨rfl, hb⟩; (clear l0 c0_0 c0_1 l1 c1_0 c1_1); (replace hB := Below.after2 (by first | exact hB | exact Below.alloc' hB _ | exact Below.alloc' (Below.alloc' hB _) _) (Nat.le_refl _) hb); replace A0 := At.keep (by first | exact A0 | exact At.alloc A0 _ | exact At.alloc (At.alloc A0 _) _) hb; replace A1 := At.keep (by first | exact A1 | exact At.alloc A1 _ | exact At.alloc (At.alloc A1 _) _) hb; clear hb; obtain ⟨l0, c0_0, c0_1⟩ := At.two A0; obtain ⟨l1, c1_0, c1_1⟩ := At.two A1))
         all_goals first
           | (go_ret; exact ⟨rfl, hB⟩)
           | (exfalso; omega)
       · have h6 : m < n := by omega
         go_wp2_with (first | (go_at_call 19; (with_reducible refine (limit_any _ _ _ _ _ _ _).mono ?_); rintro e w' ⟨rfl, hb⟩; (clear l0 c0_0 c0_1 l1 c1_0 c1_1); (replace hB := Below.after2 (by first | exact hB | exact Below.alloc' hB _ | exact Below.alloc' (Below.alloc' hB _) _) (Nat.le_refl _) hb); replace A0 := At.keep (by first | exact A0 | exact At.alloc A0 _ | exact At.alloc (At.alloc A0 _) _) hb; replace A1 := At.keep (by first | exact A1 | exact At.alloc A1 _ | exact At.alloc (At.alloc A1 _) _) hb; clear hb; obtain ⟨l0, c0_0, c0_1⟩ := At.two A0; obtain ⟨l1, c1_0, c1_1⟩ := At.two A1))
         all_goals first
           | (go_ret; exact ⟨rfl, hB⟩)
           | (exfalso; omega))

set_option maxRecDepth 100000 in
set_option maxHeartbeats 8000000 in
theorem lwithin_3 (n m lk ln hk hn base : Int) (w : World) (h1 : Fx.fixd lk base = true) (h2 : Fx.fixd hk base = false) : Calls Try.prog 5 #[.int .i64 n, .int .i64 m, .agg #[.int .i64 lk, .int .i64 ln], .agg #[.int .i64 hk, .int .i64 hn], .int .i64 base] w fun e w' => e = .returned (.bool true) ∧ Below w.heap.size w w' := by
  have g0 := Fx.limit_ge0 n lk ln hk hn base
  have g1 := Lib.hid (Fx.within_lo n ln hk hn (lk := lk) (base := base))
  have g2 := Lib.hid (Fx.within_hi n lk ln hn (hk := hk) (base := base))
  rw [h1] at g1 g2
  rw [h2] at g2
  have g3 := Fx.limit_again n lk ln hk hn base
  have g4 := Lib.hid (@Fx.limit_more n m lk ln hk hn base)
  go_enter Try.func5, Try.ntmps5
  go_upto_region 1 with (fail)
  (generalize hW : World.alloc (World.alloc w _) _ = W0; have A0 : At W0 (w.heap.size) (.cells #[.int .i64 lk, .int .i64 ln] 24) := (by ((rw [← hW]) <;> exact At.alloc (At.new' _ (by first | done | rfl | simp)) _)); have A1 : At W0 (w.heap.size + 1) (.cells #[.int .i64 hk, .int .i64 hn] 24) := (by ((rw [← hW]) <;> exact At.new' _ (by first | done | rfl | simp))); have hB : Below w.heap.size w W0 := (by ((rw [← hW]) <;> exact Below.alloc' (Below.alloc' (Below.refl _ _) _) _)); clear hW; obtain ⟨l0, c0_0, c0_1⟩ := At.two A0; obtain ⟨l1, c1_0, c1_1⟩ := At.two A1)
  go_upto_region 10 with (first | (go_at_call 10; (with_reducible refine (lworks_any _).mono ?_); rintro e w' ⟨rfl, hb⟩; (clear l0 c0_0 c0_1 l1 c1_0 c1_1); (replace hB := Below.after2 (by first | exact hB | exact Below.alloc' hB _ | exact Below.alloc' (Below.alloc' hB _) _) (Nat.le_refl _) hb); replace A0 := At.keep (by first | exact A0 | exact At.alloc A0 _ | exact At.alloc (At.alloc A0 _) _) hb; replace A1 := At.keep (by first | exact A1 | exact At.alloc A1 _ | exact At.alloc (At.alloc A1 _) _) hb; clear hb; obtain ⟨l0, c0_0, c0_1⟩ := At.two A0; obtain ⟨l1, c1_0, c1_1⟩ := At.two A1) | (go_at_call 19; (with_reducible refine (limit_any _ _ _ _ _ _ _).mono ?_); rintro e w' ⟨rfl, hb⟩; (clear l0 c0_0 c0_1 l1 c1_0 c1_1); (replace hB := Below.after2 (by first | exact hB | exact Below.alloc' hB _ | exact Below.alloc' (Below.alloc' hB _) _) (Nat.le_refl _) hb); replace A0 := At.keep (by first | exact A0 | exact At.alloc A0 _ | exact At.alloc (At.alloc A0 _) _) hb; replace A1 := At.keep (by first | exact A1 | exact At.alloc A1 _ | exact At.alloc (At.alloc A1 _) _) hb; clear hb; obtain ⟨l0, c0_0, c0_1⟩ := At.two A0; obtain ⟨l1, c1_0, c1_1⟩ := At.two A1) | (go_at_call 13; (with_reducible refine (fixed_any _ _ _ _).mono ?_); rintro e w' ⟨rfl, hb⟩; (clear l0 c0_0 c0_1 l1 c1_0 c1_1); (replace hB := Below.after2 (by first | exact hB | exact Below.alloc' hB _ | exact Below.alloc' (Below.alloc' hB _) _) (Nat.le_refl _) hb); replace A0 := At.keep (by first | exact A0 | exact At.alloc A0 _ | exact At.alloc (At.alloc A0 _) _) hb; replace A1 := At.keep (by first | exact A1 | exact At.alloc A1 _ | exact At.alloc (At.alloc A1 _) _) hb; clear hb; obtain ⟨l0, c0_0, c0_1⟩ := At.two A0; obtain ⟨l1, c1_0, c1_1⟩ := At.two A1) | (go_at_call 11; (with_reducible refine (len_any _ _ _ _ _).mono ?_); rintro e w' ⟨rfl, hb⟩; (clear l0 c0_0 c0_1 l1 c1_0 c1_1); (replace hB := Below.after2 (by first | exact hB | exact Below.alloc' hB _ | exact Below.alloc' (Below.alloc' hB _) _) (Nat.le_refl _) hb); replace A0 := At.keep (by first | exact A0 | exact At.alloc A0 _ | exact At.alloc (At.alloc A0 _) _) hb; replace A1 := At.keep (by first | exact A1 | exact At.alloc A1 _ | exact At.alloc (At.alloc A1 _) _) hb; clear hb; obtain ⟨l0, c0_0, c0_1⟩ := At.two A0; obtain ⟨l1, c1_0, c1_1⟩ := At.two A1))
  all_goals first
    | (exfalso; have k1 := g1.out; have k2 := g2.out; simp only [cond_true, cond_false, Fx.mx] at k1 k2; (repeat' split at *) <;> first | contradiction | omega)
    | (by_cases h5 : n ≤ m
       · have h6 := g4.out h5
         go_wp2_with (first | (go_at_call 19; (with_reducible refine (limit_any _ _ _ _ _ _ _).mono ?_); rintro e w' ⟨rfl, hb⟩; (clear l0 c0_0 c0_1 l1 c1_0 c1_1); (replace hB := Below.after2 (by first | exact hB | exact Below.alloc' hB _ | exact Below.alloc' (Below.alloc' hB _) _) (Nat.le_refl _) hb); replace A0 := At.keep (by first | exact A0 | exact At.alloc A0 _ | exact At.alloc (At.alloc A0 _) _) hb; replace A1 := At.keep (by first | exact A1 | exact At.alloc A1 _ | exact At.alloc (At.alloc A1 _) _) hb; clear hb; obtain ⟨l0, c0_0, c0_1⟩ := At.two A0; obtain ⟨l1, c1_0, c1_1⟩ := At.two A1))
         all_goals first
           | (go_ret; exact ⟨rfl, hB⟩)
           | (exfalso; omega)
       · have h6 : m < n := by omega
         go_wp2_with (first | (go_at_call 19; (with_reducible refine (limit_any _ _ _ _ _ _ _).mono ?_); rintro e w' ⟨rfl, hb⟩; (clear l0 c0_0 c0_1 l1 c1_0 c1_1); (replace hB := Below.after2 (by first | exact hB | exact Below.alloc' hB _ | exact Below.alloc' (Below.alloc' hB _) _) (Nat.le_refl _) hb); replace A0 := At.keep (by first | exact A0 | exact At.alloc A0 _ | exact At.alloc (At.alloc A0 _) _) hb; replace A1 := At.keep (by first | exact A1 | exact At.alloc A1 _ | exact At.alloc (At.alloc A1 _) _) hb; clear hb; obtain ⟨l0, c0_0, c0_1⟩ := At.two A0; obtain ⟨l1, c1_0, c1_1⟩ := At.two A1))
         all_goals first
           | (go_ret; exact ⟨rfl, hB⟩)
           | (exfalso; omega))

set_option maxRecDepth 100000 in
set_option maxHeartbeats 8000000 in
theorem lwithin_4 (n m lk ln hk hn base : Int) (w : World) (h1 : Fx.fixd lk base = true) (h2 : Fx.fixd hk base = true) : Calls Try.prog 5 #[.int .i64 n, .int .i64 m, .agg #[.int .i64 lk, .int .i64 ln], .agg #[.int .i64 hk, .int .i64 hn], .int .i64 base] w fun e w' => e = .returned (.bool true) ∧ Below w.heap.size w w' := by
  have g0 := Fx.limit_ge0 n lk ln hk hn base
  have g1 := Lib.hid (Fx.within_lo n ln hk hn (lk := lk) (base := base))
  have g2 := Lib.hid (Fx.within_hi n lk ln hn (hk := hk) (base := base))
  rw [h1] at g1 g2
  rw [h2] at g2
  have g3 := Fx.limit_again n lk ln hk hn base
  have g4 := Lib.hid (@Fx.limit_more n m lk ln hk hn base)
  go_enter Try.func5, Try.ntmps5
  go_upto_region 1 with (fail)
  (generalize hW : World.alloc (World.alloc w _) _ = W0; have A0 : At W0 (w.heap.size) (.cells #[.int .i64 lk, .int .i64 ln] 24) := (by ((rw [← hW]) <;> exact At.alloc (At.new' _ (by first | done | rfl | simp)) _)); have A1 : At W0 (w.heap.size + 1) (.cells #[.int .i64 hk, .int .i64 hn] 24) := (by ((rw [← hW]) <;> exact At.new' _ (by first | done | rfl | simp))); have hB : Below w.heap.size w W0 := (by ((rw [← hW]) <;> exact Below.alloc' (Below.alloc' (Below.refl _ _) _) _)); clear hW; obtain ⟨l0, c0_0, c0_1⟩ := At.two A0; obtain ⟨l1, c1_0, c1_1⟩ := At.two A1)
  go_upto_region 10 with (first | (go_at_call 10; (with_reducible refine (lworks_any _).mono ?_); rintro e w' ⟨rfl, hb⟩; (clear l0 c0_0 c0_1 l1 c1_0 c1_1); (replace hB := Below.after2 (by first | exact hB | exact Below.alloc' hB _ | exact Below.alloc' (Below.alloc' hB _) _) (Nat.le_refl _) hb); replace A0 := At.keep (by first | exact A0 | exact At.alloc A0 _ | exact At.alloc (At.alloc A0 _) _) hb; replace A1 := At.keep (by first | exact A1 | exact At.alloc A1 _ | exact At.alloc (At.alloc A1 _) _) hb; clear hb; obtain ⟨l0, c0_0, c0_1⟩ := At.two A0; obtain ⟨l1, c1_0, c1_1⟩ := At.two A1) | (go_at_call 19; (with_reducible refine (limit_any _ _ _ _ _ _ _).mono ?_); rintro e w' ⟨rfl, hb⟩; (clear l0 c0_0 c0_1 l1 c1_0 c1_1); (replace hB := Below.after2 (by first | exact hB | exact Below.alloc' hB _ | exact Below.alloc' (Below.alloc' hB _) _) (Nat.le_refl _) hb); replace A0 := At.keep (by first | exact A0 | exact At.alloc A0 _ | exact At.alloc (At.alloc A0 _) _) hb; replace A1 := At.keep (by first | exact A1 | exact At.alloc A1 _ | exact At.alloc (At.alloc A1 _) _) hb; clear hb; obtain ⟨l0, c0_0, c0_1⟩ := At.two A0; obtain ⟨l1, c1_0, c1_1⟩ := At.two A1) | (go_at_call 13; (with_reducible refine (fixed_any _ _ _ _).mono ?_); rintro e w' ⟨rfl, hb⟩; (clear l0 c0_0 c0_1 l1 c1_0 c1_1); (replace hB := Below.after2 (by first | exact hB | exact Below.alloc' hB _ | exact Below.alloc' (Below.alloc' hB _) _) (Nat.le_refl _) hb); replace A0 := At.keep (by first | exact A0 | exact At.alloc A0 _ | exact At.alloc (At.alloc A0 _) _) hb; replace A1 := At.keep (by first | exact A1 | exact At.alloc A1 _ | exact At.alloc (At.alloc A1 _) _) hb; clear hb; obtain ⟨l0, c0_0, c0_1⟩ := At.two A0; obtain ⟨l1, c1_0, c1_1⟩ := At.two A1) | (go_at_call 11; (with_reducible refine (len_any _ _ _ _ _).mono ?_); rintro e w' ⟨rfl, hb⟩; (clear l0 c0_0 c0_1 l1 c1_0 c1_1); (replace hB := Below.after2 (by first | exact hB | exact Below.alloc' hB _ | exact Below.alloc' (Below.alloc' hB _) _) (Nat.le_refl _) hb); replace A0 := At.keep (by first | exact A0 | exact At.alloc A0 _ | exact At.alloc (At.alloc A0 _) _) hb; replace A1 := At.keep (by first | exact A1 | exact At.alloc A1 _ | exact At.alloc (At.alloc A1 _) _) hb; clear hb; obtain ⟨l0, c0_0, c0_1⟩ := At.two A0; obtain ⟨l1, c1_0, c1_1⟩ := At.two A1))
  all_goals first
    | (exfalso; have k1 := g1.out; have k2 := g2.out; simp only [cond_true, cond_false, Fx.mx] at k1 k2; (repeat' split at *) <;> first | contradiction | omega)
    | (by_cases h5 : n ≤ m
       · have h6 := g4.out h5
         go_wp2_with (first | (go_at_call 19; (with_reducible refine (limit_any _ _ _ _ _ _ _).mono ?_); rintro e w' ⟨rfl, hb⟩; (clear l0 c0_0 c0_1 l1 c1_0 c1_1); (replace hB := Below.after2 (by first | exact hB | exact Below.alloc' hB _ | exact Below.alloc' (Below.alloc' hB _) _) (Nat.le_refl _) hb); replace A0 := At.keep (by first | exact A0 | exact At.alloc A0 _ | exact At.alloc (At.alloc A0 _) _) hb; replace A1 := At.keep (by first | exact A1 | exact At.alloc A1 _ | exact At.alloc (At.alloc A1 _) _) hb; clear hb; obtain ⟨l0, c0_0, c0_1⟩ := At.two A0; obtain ⟨l1, c1_0, c1_1⟩ := At.two A1))
         all_goals first
           | (go_ret; exact ⟨rfl, hB⟩)
           | (exfalso; omega)
       · have h6 : m < n := by omega
         go_wp2_with (first | (go_at_call 19; (with_reducible refine (limit_any _ _ _ _ _ _ _).mono ?_); rintro e w' ⟨rfl, hb⟩; (clear l0 c0_0 c0_1 l1 c1_0 c1_1); (replace hB := Below.after2 (by first | exact hB | exact Below.alloc' hB _ | exact Below.alloc' (Below.alloc' hB _) _) (Nat.le_refl _) hb); replace A0 := At.keep (by first | exact A0 | exact At.alloc A0 _ | exact At.alloc (At.alloc A0 _) _) hb; replace A1 := At.keep (by first | exact A1 | exact At.alloc A1 _ | exact At.alloc (At.alloc A1 _) _) hb; clear hb; obtain ⟨l0, c0_0, c0_1⟩ := At.two A0; obtain ⟨l1, c1_0, c1_1⟩ := At.two A1))
         all_goals first
           | (go_ret; exact ⟨rfl, hB⟩)
           | (exfalso; omega))

theorem lwithin_walk (n m lk ln hk hn base : Int) (w : World) : Calls Try.prog 5 #[.int .i64 n, .int .i64 m, .agg #[.int .i64 lk, .int .i64 ln], .agg #[.int .i64 hk, .int .i64 hn], .int .i64 base] w fun e w' => e = .returned (.bool true) ∧ Below w.heap.size w w' := by
  cases h1 : Fx.fixd lk base <;> cases h2 : Fx.fixd hk base
  · exact lwithin_1 n m lk ln hk hn base w h1 h2
  · exact lwithin_2 n m lk ln hk hn base w h1 h2
  · exact lwithin_3 n m lk ln hk hn base w h1 h2
  · exact lwithin_4 n m lk ln hk hn base w h1 h2

end Go.Proofs.Ythpocilmnohahaa.Fix
