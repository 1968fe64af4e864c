/- AnchorSights: it returns true, and leaves all that was there as it was. Written by wip/tools/genanlaws.py. -/
import Derived.Test.YtnoofdojbgkmkaaAnLaw0
namespace Go.Proofs.Ytnoofdojbgkmkaa.Fix
open Go.ChangeShapes Go.WideShapes Go.ChangeAt Go.RowKit Go.Deep Go.Joins
set_option linter.unusedVariables false
set_option linter.unusedSimpArgs false

set_option maxHeartbeats 1000000 in
theorem ansights_walk (a b c d : Int) (w : World) :
    Calls Try.prog 8 #[.agg #[.int .i64 a, .int .i64 b], .agg #[.int .i64 c, .int .i64 d]] w fun e w' => e = .returned (.bool true) ∧ Below w.heap.size w w' := by
  by_cases h1 : c ≤ a
  · by_cases h2 : b ≤ d
    · by_cases h3 : min b d ≤ max a c
      · have HR := Lib.hid (show An.sight a b c d = 0 by unfold An.sight Fx.mn Fx.mx Fx.ends; simp only [Bool.and_eq_true, decide_eq_true_eq]; (repeat' split) <;> omega)
        have f0 : decide (c ≤ a) = true := decide_eq_true (by omega)
        have f1 : decide (b ≤ d) = true := decide_eq_true (by omega)
        have f2 : decide (min b d ≤ max a c) = true := decide_eq_true (by omega)
        have f3 : decide (max a c < min b d) = false := decide_eq_false (by omega)
        clear h1 h2 h3
        go_enter Try.func8, Try.ntmps8
        go_upto_region 1 with (fail)
        (generalize hW : World.alloc (World.alloc w _) _ = W0; have A0 : At W0 (w.heap.size) (.cells #[.int .i64 a, .int .i64 b] 24) := (by ((rw [← hW]) <;> exact At.alloc (At.new' _ (by first | done | rfl | simp)) _)); have A1 : At W0 (w.heap.size + 1) (.cells #[.int .i64 c, .int .i64 d] 24) := (by ((rw [← hW]) <;> exact At.new' _ (by first | done | rfl | simp))); have hB : Below w.heap.size w W0 := (by ((rw [← hW]) <;> exact Below.alloc' (Below.alloc' (Below.refl _ _) _) _)); clear hW; obtain ⟨l0, c0_0, c0_1⟩ := At.two A0; obtain ⟨l1, c1_0, c1_1⟩ := At.two A1)
        go_wp2_with (first | (go_at_call 9; with_reducible refine (anworks_any _).mono ?_; rintro e w' ⟨rfl, hb⟩; (clear l0 c0_0 c0_1 l1 c1_0 c1_1); (replace hB := Below.after2 (by first | exact hB | exact Below.alloc' hB _ | exact Below.alloc' (Below.alloc' hB _) _) (Nat.le_refl _) hb); replace A0 := At.keep (by first | exact A0 | exact At.alloc A0 _ | exact At.alloc (At.alloc A0 _) _) hb; replace A1 := At.keep (by first | exact A1 | exact At.alloc A1 _ | exact At.alloc (At.alloc A1 _) _) hb; clear hb; obtain ⟨l0, c0_0, c0_1⟩ := At.two A0; obtain ⟨l1, c1_0, c1_1⟩ := At.two A1) | (go_at_call 13; with_reducible refine (ansight_any _ HR.out).mono ?_; rintro e w' ⟨rfl, hb⟩; (clear l0 c0_0 c0_1 l1 c1_0 c1_1); (replace hB := Below.after2 (by first | exact hB | exact Below.alloc' hB _ | exact Below.alloc' (Below.alloc' hB _) _) (Nat.le_refl _) hb); replace A0 := At.keep (by first | exact A0 | exact At.alloc A0 _ | exact At.alloc (At.alloc A0 _) _) hb; replace A1 := At.keep (by first | exact A1 | exact At.alloc A1 _ | exact At.alloc (At.alloc A1 _) _) hb; clear hb; obtain ⟨l0, c0_0, c0_1⟩ := At.two A0; obtain ⟨l1, c1_0, c1_1⟩ := At.two A1))
        go_ret
        exact ⟨rfl, hB⟩
      · have HR := Lib.hid (show An.sight a b c d = 2 by unfold An.sight Fx.mn Fx.mx Fx.ends; simp only [Bool.and_eq_true, decide_eq_true_eq]; (repeat' split) <;> omega)
        have f0 : decide (c ≤ a) = true := decide_eq_true (by omega)
        have f1 : decide (b ≤ d) = true := decide_eq_true (by omega)
        have f2 : decide (min b d ≤ max a c) = false := decide_eq_false (by omega)
        have f3 : decide (max a c < min b d) = true := decide_eq_true (by omega)
        clear h1 h2 h3
        go_enter Try.func8, Try.ntmps8
        go_upto_region 1 with (fail)
        (generalize hW : World.alloc (World.alloc w _) _ = W0; have A0 : At W0 (w.heap.size) (.cells #[.int .i64 a, .int .i64 b] 24) := (by ((rw [← hW]) <;> exact At.alloc (At.new' _ (by first | done | rfl | simp)) _)); have A1 : At W0 (w.heap.size + 1) (.cells #[.int .i64 c, .int .i64 d] 24) := (by ((rw [← hW]) <;> exact At.new' _ (by first | done | rfl | simp))); have hB : Below w.heap.size w W0 := (by ((rw [← hW]) <;> exact Below.alloc' (Below.alloc' (Below.refl _ _) _) _)); clear hW; obtain ⟨l0, c0_0, c0_1⟩ := At.two A0; obtain ⟨l1, c1_0, c1_1⟩ := At.two A1)
        go_wp2_with (first | (go_at_call 9; with_reducible refine (anworks_any _).mono ?_; rintro e w' ⟨rfl, hb⟩; (clear l0 c0_0 c0_1 l1 c1_0 c1_1); (replace hB := Below.after2 (by first | exact hB | exact Below.alloc' hB _ | exact Below.alloc' (Below.alloc' hB _) _) (Nat.le_refl _) hb); replace A0 := At.keep (by first | exact A0 | exact At.alloc A0 _ | exact At.alloc (At.alloc A0 _) _) hb; replace A1 := At.keep (by first | exact A1 | exact At.alloc A1 _ | exact At.alloc (At.alloc A1 _) _) hb; clear hb; obtain ⟨l0, c0_0, c0_1⟩ := At.two A0; obtain ⟨l1, c1_0, c1_1⟩ := At.two A1) | (go_at_call 13; with_reducible refine (ansight_any _ HR.out).mono ?_; rintro e w' ⟨rfl, hb⟩; (clear l0 c0_0 c0_1 l1 c1_0 c1_1); (replace hB := Below.after2 (by first | exact hB | exact Below.alloc' hB _ | exact Below.alloc' (Below.alloc' hB _) _) (Nat.le_refl _) hb); replace A0 := At.keep (by first | exact A0 | exact At.alloc A0 _ | exact At.alloc (At.alloc A0 _) _) hb; replace A1 := At.keep (by first | exact A1 | exact At.alloc A1 _ | exact At.alloc (At.alloc A1 _) _) hb; clear hb; obtain ⟨l0, c0_0, c0_1⟩ := At.two A0; obtain ⟨l1, c1_0, c1_1⟩ := At.two A1))
        go_ret
        exact ⟨rfl, hB⟩
    · by_cases h3 : min b d ≤ max a c
      · have HR := Lib.hid (show An.sight a b c d = 0 by unfold An.sight Fx.mn Fx.mx Fx.ends; simp only [Bool.and_eq_true, decide_eq_true_eq]; (repeat' split) <;> omega)
        have f0 : decide (c ≤ a) = true := decide_eq_true (by omega)
        have f1 : decide (b ≤ d) = false := decide_eq_false (by omega)
        have f2 : decide (min b d ≤ max a c) = true := decide_eq_true (by omega)
        have f3 : decide (max a c < min b d) = false := decide_eq_false (by omega)
        clear h1 h2 h3
        go_enter Try.func8, Try.ntmps8
        go_upto_region 1 with (fail)
        (generalize hW : World.alloc (World.alloc w _) _ = W0; have A0 : At W0 (w.heap.size) (.cells #[.int .i64 a, .int .i64 b] 24) := (by ((rw [← hW]) <;> exact At.alloc (At.new' _ (by first | done | rfl | simp)) _)); have A1 : At W0 (w.heap.size + 1) (.cells #[.int .i64 c, .int .i64 d] 24) := (by ((rw [← hW]) <;> exact At.new' _ (by first | done | rfl | simp))); have hB : Below w.heap.size w W0 := (by ((rw [← hW]) <;> exact Below.alloc' (Below.alloc' (Below.refl _ _) _) _)); clear hW; obtain ⟨l0, c0_0, c0_1⟩ := At.two A0; obtain ⟨l1, c1_0, c1_1⟩ := At.two A1)
        go_wp2_with (first | (go_at_call 9; with_reducible refine (anworks_any _).mono ?_; rintro e w' ⟨rfl, hb⟩; (clear l0 c0_0 c0_1 l1 c1_0 c1_1); (replace hB := Below.after2 (by first | exact hB | exact Below.alloc' hB _ | exact Below.alloc' (Below.alloc' hB _) _) (Nat.le_refl _) hb); replace A0 := At.keep (by first | exact A0 | exact At.alloc A0 _ | exact At.alloc (At.alloc A0 _) _) hb; replace A1 := At.keep (by first | exact A1 | exact At.alloc A1 _ | exact At.alloc (At.alloc A1 _) _) hb; clear hb; obtain ⟨l0, c0_0, c0_1⟩ := At.two A0; obtain ⟨l1, c1_0, c1_1⟩ := At.two A1) | (go_at_call 13; with_reducible refine (ansight_any _ HR.out).mono ?_; rintro e w' ⟨rfl, hb⟩; (clear l0 c0_0 c0_1 l1 c1_0 c1_1); (replace hB := Below.after2 (by first | exact hB | exact Below.alloc' hB _ | exact Below.alloc' (Below.alloc' hB _) _) (Nat.le_refl _) hb); replace A0 := At.keep (by first | exact A0 | exact At.alloc A0 _ | exact At.alloc (At.alloc A0 _) _) hb; replace A1 := At.keep (by first | exact A1 | exact At.alloc A1 _ | exact At.alloc (At.alloc A1 _) _) hb; clear hb; obtain ⟨l0, c0_0, c0_1⟩ := At.two A0; obtain ⟨l1, c1_0, c1_1⟩ := At.two A1))
        go_ret
        exact ⟨rfl, hB⟩
      · have HR := Lib.hid (show An.sight a b c d = 1 by unfold An.sight Fx.mn Fx.mx Fx.ends; simp only [Bool.and_eq_true, decide_eq_true_eq]; (repeat' split) <;> omega)
        have f0 : decide (c ≤ a) = true := decide_eq_true (by omega)
        have f1 : decide (b ≤ d) = false := decide_eq_false (by omega)
        have f2 : decide (min b d ≤ max a c) = false := decide_eq_false (by omega)
        have f3 : decide (max a c < min b d) = true := decide_eq_true (by omega)
        clear h1 h2 h3
        go_enter Try.func8, Try.ntmps8
        go_upto_region 1 with (fail)
        (generalize hW : World.alloc (World.alloc w _) _ = W0; have A0 : At W0 (w.heap.size) (.cells #[.int .i64 a, .int .i64 b] 24) := (by ((rw [← hW]) <;> exact At.alloc (At.new' _ (by first | done | rfl | simp)) _)); have A1 : At W0 (w.heap.size + 1) (.cells #[.int .i64 c, .int .i64 d] 24) := (by ((rw [← hW]) <;> exact At.new' _ (by first | done | rfl | simp))); have hB : Below w.heap.size w W0 := (by ((rw [← hW]) <;> exact Below.alloc' (Below.alloc' (Below.refl _ _) _) _)); clear hW; obtain ⟨l0, c0_0, c0_1⟩ := At.two A0; obtain ⟨l1, c1_0, c1_1⟩ := At.two A1)
        go_wp2_with (first | (go_at_call 9; with_reducible refine (anworks_any _).mono ?_; rintro e w' ⟨rfl, hb⟩; (clear l0 c0_0 c0_1 l1 c1_0 c1_1); (replace hB := Below.after2 (by first | exact hB | exact Below.alloc' hB _ | exact Below.alloc' (Below.alloc' hB _) _) (Nat.le_refl _) hb); replace A0 := At.keep (by first | exact A0 | exact At.alloc A0 _ | exact At.alloc (At.alloc A0 _) _) hb; replace A1 := At.keep (by first | exact A1 | exact At.alloc A1 _ | exact At.alloc (At.alloc A1 _) _) hb; clear hb; obtain ⟨l0, c0_0, c0_1⟩ := At.two A0; obtain ⟨l1, c1_0, c1_1⟩ := At.two A1) | (go_at_call 13; with_reducible refine (ansight_any _ HR.out).mono ?_; rintro e w' ⟨rfl, hb⟩; (clear l0 c0_0 c0_1 l1 c1_0 c1_1); (replace hB := Below.after2 (by first | exact hB | exact Below.alloc' hB _ | exact Below.alloc' (Below.alloc' hB _) _) (Nat.le_refl _) hb); replace A0 := At.keep (by first | exact A0 | exact At.alloc A0 _ | exact At.alloc (At.alloc A0 _) _) hb; replace A1 := At.keep (by first | exact A1 | exact At.alloc A1 _ | exact At.alloc (At.alloc A1 _) _) hb; clear hb; obtain ⟨l0, c0_0, c0_1⟩ := At.two A0; obtain ⟨l1, c1_0, c1_1⟩ := At.two A1))
        go_ret
        exact ⟨rfl, hB⟩
  · by_cases h2 : b ≤ d
    · by_cases h3 : min b d ≤ max a c
      · have HR := Lib.hid (show An.sight a b c d = 0 by unfold An.sight Fx.mn Fx.mx Fx.ends; simp only [Bool.and_eq_true, decide_eq_true_eq]; (repeat' split) <;> omega)
        have f0 : decide (c ≤ a) = false := decide_eq_false (by omega)
        have f1 : decide (b ≤ d) = true := decide_eq_true (by omega)
        have f2 : decide (min b d ≤ max a c) = true := decide_eq_true (by omega)
        have f3 : decide (max a c < min b d) = false := decide_eq_false (by omega)
        clear h1 h2 h3
        go_enter Try.func8, Try.ntmps8
        go_upto_region 1 with (fail)
        (generalize hW : World.alloc (World.alloc w _) _ = W0; have A0 : At W0 (w.heap.size) (.cells #[.int .i64 a, .int .i64 b] 24) := (by ((rw [← hW]) <;> exact At.alloc (At.new' _ (by first | done | rfl | simp)) _)); have A1 : At W0 (w.heap.size + 1) (.cells #[.int .i64 c, .int .i64 d] 24) := (by ((rw [← hW]) <;> exact At.new' _ (by first | done | rfl | simp))); have hB : Below w.heap.size w W0 := (by ((rw [← hW]) <;> exact Below.alloc' (Below.alloc' (Below.refl _ _) _) _)); clear hW; obtain ⟨l0, c0_0, c0_1⟩ := At.two A0; obtain ⟨l1, c1_0, c1_1⟩ := At.two A1)
        go_wp2_with (first | (go_at_call 9; with_reducible refine (anworks_any _).mono ?_; rintro e w' ⟨rfl, hb⟩; (clear l0 c0_0 c0_1 l1 c1_0 c1_1); (replace hB := Below.after2 (by first | exact hB | exact Below.alloc' hB _ | exact Below.alloc' (Below.alloc' hB _) _) (Nat.le_refl _) hb); replace A0 := At.keep (by first | exact A0 | exact At.alloc A0 _ | exact At.alloc (At.alloc A0 _) _) hb; replace A1 := At.keep (by first | exact A1 | exact At.alloc A1 _ | exact At.alloc (At.alloc A1 _) _) hb; clear hb; obtain ⟨l0, c0_0, c0_1⟩ := At.two A0; obtain ⟨l1, c1_0, c1_1⟩ := At.two A1) | (go_at_call 13; with_reducible refine (ansight_any _ HR.out).mono ?_; rintro e w' ⟨rfl, hb⟩; (clear l0 c0_0 c0_1 l1 c1_0 c1_1); (replace hB := Below.after2 (by first | exact hB | exact Below.alloc' hB _ | exact Below.alloc' (Below.alloc' hB _) _) (Nat.le_refl _) hb); replace A0 := At.keep (by first | exact A0 | exact At.alloc A0 _ | exact At.alloc (At.alloc A0 _) _) hb; replace A1 := At.keep (by first | exact A1 | exact At.alloc A1 _ | exact At.alloc (At.alloc A1 _) _) hb; clear hb; obtain ⟨l0, c0_0, c0_1⟩ := At.two A0; obtain ⟨l1, c1_0, c1_1⟩ := At.two A1))
        go_ret
        exact ⟨rfl, hB⟩
      · have HR := Lib.hid (show An.sight a b c d = 1 by unfold An.sight Fx.mn Fx.mx Fx.ends; simp only [Bool.and_eq_true, decide_eq_true_eq]; (repeat' split) <;> omega)
        have f0 : decide (c ≤ a) = false := decide_eq_false (by omega)
        have f1 : decide (b ≤ d) = true := decide_eq_true (by omega)
        have f2 : decide (min b d ≤ max a c) = false := decide_eq_false (by omega)
        have f3 : decide (max a c < min b d) = true := decide_eq_true (by omega)
        clear h1 h2 h3
        go_enter Try.func8, Try.ntmps8
        go_upto_region 1 with (fail)
        (generalize hW : World.alloc (World.alloc w _) _ = W0; have A0 : At W0 (w.heap.size) (.cells #[.int .i64 a, .int .i64 b] 24) := (by ((rw [← hW]) <;> exact At.alloc (At.new' _ (by first | done | rfl | simp)) _)); have A1 : At W0 (w.heap.size + 1) (.cells #[.int .i64 c, .int .i64 d] 24) := (by ((rw [← hW]) <;> exact At.new' _ (by first | done | rfl | simp))); have hB : Below w.heap.size w W0 := (by ((rw [← hW]) <;> exact Below.alloc' (Below.alloc' (Below.refl _ _) _) _)); clear hW; obtain ⟨l0, c0_0, c0_1⟩ := At.two A0; obtain ⟨l1, c1_0, c1_1⟩ := At.two A1)
        go_wp2_with (first | (go_at_call 9; with_reducible refine (anworks_any _).mono ?_; rintro e w' ⟨rfl, hb⟩; (clear l0 c0_0 c0_1 l1 c1_0 c1_1); (replace hB := Below.after2 (by first | exact hB | exact Below.alloc' hB _ | exact Below.alloc' (Below.alloc' hB _) _) (Nat.le_refl _) hb); replace A0 := At.keep (by first | exact A0 | exact At.alloc A0 _ | exact At.alloc (At.alloc A0 _) _) hb; replace A1 := At.keep (by first | exact A1 | exact At.alloc A1 _ | exact At.alloc (At.alloc A1 _) _) hb; clear hb; obtain ⟨l0, c0_0, c0_1⟩ := At.two A0; obtain ⟨l1, c1_0, c1_1⟩ := At.two A1) | (go_at_call 13; with_reducible refine (ansight_any _ HR.out).mono ?_; rintro e w' ⟨rfl, hb⟩; (clear l0 c0_0 c0_1 l1 c1_0 c1_1); (replace hB := Below.after2 (by first | exact hB | exact Below.alloc' hB _ | exact Below.alloc' (Below.alloc' hB _) _) (Nat.le_refl _) hb); replace A0 := At.keep (by first | exact A0 | exact At.alloc A0 _ | exact At.alloc (At.alloc A0 _) _) hb; replace A1 := At.keep (by first | exact A1 | exact At.alloc A1 _ | exact At.alloc (At.alloc A1 _) _) hb; clear hb; obtain ⟨l0, c0_0, c0_1⟩ := At.two A0; obtain ⟨l1, c1_0, c1_1⟩ := At.two A1))
        go_ret
        exact ⟨rfl, hB⟩
    · by_cases h3 : min b d ≤ max a c
      · have HR := Lib.hid (show An.sight a b c d = 0 by unfold An.sight Fx.mn Fx.mx Fx.ends; simp only [Bool.and_eq_true, decide_eq_true_eq]; (repeat' split) <;> omega)
        have f0 : decide (c ≤ a) = false := decide_eq_false (by omega)
        have f1 : decide (b ≤ d) = false := decide_eq_false (by omega)
        have f2 : decide (min b d ≤ max a c) = true := decide_eq_true (by omega)
        have f3 : decide (max a c < min b d) = false := decide_eq_false (by omega)
        clear h1 h2 h3
        go_enter Try.func8, Try.ntmps8
        go_upto_region 1 with (fail)
        (generalize hW : World.alloc (World.alloc w _) _ = W0; have A0 : At W0 (w.heap.size) (.cells #[.int .i64 a, .int .i64 b] 24) := (by ((rw [← hW]) <;> exact At.alloc (At.new' _ (by first | done | rfl | simp)) _)); have A1 : At W0 (w.heap.size + 1) (.cells #[.int .i64 c, .int .i64 d] 24) := (by ((rw [← hW]) <;> exact At.new' _ (by first | done | rfl | simp))); have hB : Below w.heap.size w W0 := (by ((rw [← hW]) <;> exact Below.alloc' (Below.alloc' (Below.refl _ _) _) _)); clear hW; obtain ⟨l0, c0_0, c0_1⟩ := At.two A0; obtain ⟨l1, c1_0, c1_1⟩ := At.two A1)
        go_wp2_with (first | (go_at_call 9; with_reducible refine (anworks_any _).mono ?_; rintro e w' ⟨rfl, hb⟩; (clear l0 c0_0 c0_1 l1 c1_0 c1_1); (replace hB := Below.after2 (by first | exact hB | exact Below.alloc' hB _ | exact Below.alloc' (Below.alloc' hB _) _) (Nat.le_refl _) hb); replace A0 := At.keep (by first | exact A0 | exact At.alloc A0 _ | exact At.alloc (At.alloc A0 _) _) hb; replace A1 := At.keep (by first | exact A1 | exact At.alloc A1 _ | exact At.alloc (At.alloc A1 _) _) hb; clear hb; obtain ⟨l0, c0_0, c0_1⟩ := At.two A0; obtain ⟨l1, c1_0, c1_1⟩ := At.two A1) | (go_at_call 13; with_reducible refine (ansight_any _ HR.out).mono ?_; rintro e w' ⟨rfl, hb⟩; (clear l0 c0_0 c0_1 l1 c1_0 c1_1); (replace hB := Below.after2 (by first | exact hB | exact Below.alloc' hB _ | exact Below.alloc' (Below.alloc' hB _) _) (Nat.le_refl _) hb); replace A0 := At.keep (by first | exact A0 | exact At.alloc A0 _ | exact At.alloc (At.alloc A0 _) _) hb; replace A1 := At.keep (by first | exact A1 | exact At.alloc A1 _ | exact At.alloc (At.alloc A1 _) _) hb; clear hb; obtain ⟨l0, c0_0, c0_1⟩ := At.two A0; obtain ⟨l1, c1_0, c1_1⟩ := At.two A1))
        go_ret
        exact ⟨rfl, hB⟩
      · have HR := Lib.hid (show An.sight a b c d = 1 by unfold An.sight Fx.mn Fx.mx Fx.ends; simp only [Bool.and_eq_true, decide_eq_true_eq]; (repeat' split) <;> omega)
        have f0 : decide (c ≤ a) = false := decide_eq_false (by omega)
        have f1 : decide (b ≤ d) = false := decide_eq_false (by omega)
        have f2 : decide (min b d ≤ max a c) = false := decide_eq_false (by omega)
        have f3 : decide (max a c < min b d) = true := decide_eq_true (by omega)
        clear h1 h2 h3
        go_enter Try.func8, Try.ntmps8
        go_upto_region 1 with (fail)
        (generalize hW : World.alloc (World.alloc w _) _ = W0; have A0 : At W0 (w.heap.size) (.cells #[.int .i64 a, .int .i64 b] 24) := (by ((rw [← hW]) <;> exact At.alloc (At.new' _ (by first | done | rfl | simp)) _)); have A1 : At W0 (w.heap.size + 1) (.cells #[.int .i64 c, .int .i64 d] 24) := (by ((rw [← hW]) <;> exact At.new' _ (by first | done | rfl | simp))); have hB : Below w.heap.size w W0 := (by ((rw [← hW]) <;> exact Below.alloc' (Below.alloc' (Below.refl _ _) _) _)); clear hW; obtain ⟨l0, c0_0, c0_1⟩ := At.two A0; obtain ⟨l1, c1_0, c1_1⟩ := At.two A1)
        go_wp2_with (first | (go_at_call 9; with_reducible refine (anworks_any _).mono ?_; rintro e w' ⟨rfl, hb⟩; (clear l0 c0_0 c0_1 l1 c1_0 c1_1); (replace hB := Below.after2 (by first | exact hB | exact Below.alloc' hB _ | exact Below.alloc' (Below.alloc' hB _) _) (Nat.le_refl _) hb); replace A0 := At.keep (by first | exact A0 | exact At.alloc A0 _ | exact At.alloc (At.alloc A0 _) _) hb; replace A1 := At.keep (by first | exact A1 | exact At.alloc A1 _ | exact At.alloc (At.alloc A1 _) _) hb; clear hb; obtain ⟨l0, c0_0, c0_1⟩ := At.two A0; obtain ⟨l1, c1_0, c1_1⟩ := At.two A1) | (go_at_call 13; with_reducible refine (ansight_any _ HR.out).mono ?_; rintro e w' ⟨rfl, hb⟩; (clear l0 c0_0 c0_1 l1 c1_0 c1_1); (replace hB := Below.after2 (by first | exact hB | exact Below.alloc' hB _ | exact Below.alloc' (Below.alloc' hB _) _) (Nat.le_refl _) hb); replace A0 := At.keep (by first | exact A0 | exact At.alloc A0 _ | exact At.alloc (At.alloc A0 _) _) hb; replace A1 := At.keep (by first | exact A1 | exact At.alloc A1 _ | exact At.alloc (At.alloc A1 _) _) hb; clear hb; obtain ⟨l0, c0_0, c0_1⟩ := At.two A0; obtain ⟨l1, c1_0, c1_1⟩ := At.two A1))
        go_ret
        exact ⟨rfl, hB⟩

end Go.Proofs.Ytnoofdojbgkmkaa.Fix
