/- LengthValid: it returns true, and leaves all that was there as it was. -/
import Derived.Test.YthpocilmnohahaaLenLaws
import Derived.IntWalk
namespace Go.Proofs.Ythpocilmnohahaa.Fix
open Go.ChangeShapes Go.WideShapes Go.ChangeAt Go.RowKit
set_option linter.unusedVariables false

theorem lvalid_0 (k n base : Int) (w : World) (hv : Fx.valid k n = false) : Calls Try.prog 8 #[.agg #[.int .i64 k, .int .i64 n], .int .i64 base] w fun e w' => e = .returned (.bool true) ∧ Below w.heap.size w w' := by
  have h := Lib.hid (Fx.valid_false hv)
  go_enter Try.func8, Try.ntmps8
  go_upto_region 1 with (fail)
  (generalize hW : World.alloc w _ = W0; have A0 : At W0 (w.heap.size) (.cells #[.int .i64 k, .int .i64 n] 24) := (by ((rw [← hW]) <;> exact At.new' _ (by first | done | rfl | simp))); have hB : Below w.heap.size w W0 := (by ((rw [← hW]) <;> exact Below.alloc' (Below.refl _ _) _)); clear hW; obtain ⟨l0, c0_0, c0_1⟩ := At.two A0)
  go_wp2_with (first | (go_at_call 10; (with_reducible refine (lworks_any _).mono ?_); rintro e w' ⟨rfl, hb⟩; (clear l0 c0_0 c0_1); (replace hB := Below.after2 (by first | exact hB | exact Below.alloc' hB _ | exact Below.alloc' (Below.alloc' hB _) _) (Nat.le_refl _) hb); replace A0 := At.keep (by first | exact A0 | exact At.alloc A0 _ | exact At.alloc (At.alloc A0 _) _) hb; clear hb; obtain ⟨l0, c0_0, c0_1⟩ := At.two A0) | (go_at_call 15; (with_reducible refine (valid_any _ _ _).mono ?_); rintro e w' ⟨rfl, hb⟩; (clear l0 c0_0 c0_1); (replace hB := Below.after2 (by first | exact hB | exact Below.alloc' hB _ | exact Below.alloc' (Below.alloc' hB _) _) (Nat.le_refl _) hb); replace A0 := At.keep (by first | exact A0 | exact At.alloc A0 _ | exact At.alloc (At.alloc A0 _) _) hb; clear hb; obtain ⟨l0, c0_0, c0_1⟩ := At.two A0))
  all_goals go_ret
  all_goals exact ⟨ret_bool (by have := h.out; simp <;> omega), hB⟩

set_option maxHeartbeats 8000000 in
theorem lvalid_1 (n base : Int) (w : World) (hv : Fx.valid 0 n = true) (h : Fx.lv 0 n (Fx.len 0 n base 0)) : Calls Try.prog 8 #[.agg #[.int .i64 0, .int .i64 n], .int .i64 base] w fun e w' => e = .returned (.bool true) ∧ Below w.heap.size w w' := by
  simp only [Fx.lv_0] at h
  have g1 := Fx.len_le 0 n base 0
  have g2 := Fx.len_ge 0 n base 0
  go_enter Try.func8, Try.ntmps8
  go_upto_region 1 with (fail)
  (generalize hW : World.alloc w _ = W0; have A0 : At W0 (w.heap.size) (.cells #[.int .i64 0, .int .i64 n] 24) := (by ((rw [← hW]) <;> exact At.new' _ (by first | done | rfl | simp))); have hB : Below w.heap.size w W0 := (by ((rw [← hW]) <;> exact Below.alloc' (Below.refl _ _) _)); clear hW; obtain ⟨l0, c0_0, c0_1⟩ := At.two A0)
  go_wp2_with (first | (go_at_call 10; (with_reducible refine (lworks_any _).mono ?_); rintro e w' ⟨rfl, hb⟩; (clear l0 c0_0 c0_1); (replace hB := Below.after2 (by first | exact hB | exact Below.alloc' hB _ | exact Below.alloc' (Below.alloc' hB _) _) (Nat.le_refl _) hb); replace A0 := At.keep (by first | exact A0 | exact At.alloc A0 _ | exact At.alloc (At.alloc A0 _) _) hb; clear hb; obtain ⟨l0, c0_0, c0_1⟩ := At.two A0) | (go_at_call 15; (with_reducible refine (valid_any _ _ _).mono ?_); rintro e w' ⟨rfl, hb⟩; (clear l0 c0_0 c0_1); (replace hB := Below.after2 (by first | exact hB | exact Below.alloc' hB _ | exact Below.alloc' (Below.alloc' hB _) _) (Nat.le_refl _) hb); replace A0 := At.keep (by first | exact A0 | exact At.alloc A0 _ | exact At.alloc (At.alloc A0 _) _) hb; clear hb; obtain ⟨l0, c0_0, c0_1⟩ := At.two A0) | (go_at_call 11; (with_reducible refine (len_any _ _ _ _ _).mono ?_); rintro e w' ⟨rfl, hb⟩; (clear l0 c0_0 c0_1); (replace hB := Below.after2 (by first | exact hB | exact Below.alloc' hB _ | exact Below.alloc' (Below.alloc' hB _) _) (Nat.le_refl _) hb); replace A0 := At.keep (by first | exact A0 | exact At.alloc A0 _ | exact At.alloc (At.alloc A0 _) _) hb; clear hb; obtain ⟨l0, c0_0, c0_1⟩ := At.two A0))
  all_goals go_ret
  all_goals exact ⟨rfl, hB⟩

set_option maxHeartbeats 8000000 in
theorem lvalid_2 (n base : Int) (w : World) (hv : Fx.valid 1 n = true) (h : Fx.lv 1 n (Fx.len 1 n base 0)) : Calls Try.prog 8 #[.agg #[.int .i64 1, .int .i64 n], .int .i64 base] w fun e w' => e = .returned (.bool true) ∧ Below w.heap.size w w' := by
  simp only [Fx.lv_1] at h
  have g1 := Fx.len_le 1 n base 0
  have g2 := Fx.len_ge 1 n base 0
  go_enter Try.func8, Try.ntmps8
  go_upto_region 1 with (fail)
  (generalize hW : World.alloc w _ = W0; have A0 : At W0 (w.heap.size) (.cells #[.int .i64 1, .int .i64 n] 24) := (by ((rw [← hW]) <;> exact At.new' _ (by first | done | rfl | simp))); have hB : Below w.heap.size w W0 := (by ((rw [← hW]) <;> exact Below.alloc' (Below.refl _ _) _)); clear hW; obtain ⟨l0, c0_0, c0_1⟩ := At.two A0)
  go_wp2_with (first | (go_at_call 10; (with_reducible refine (lworks_any _).mono ?_); rintro e w' ⟨rfl, hb⟩; (clear l0 c0_0 c0_1); (replace hB := Below.after2 (by first | exact hB | exact Below.alloc' hB _ | exact Below.alloc' (Below.alloc' hB _) _) (Nat.le_refl _) hb); replace A0 := At.keep (by first | exact A0 | exact At.alloc A0 _ | exact At.alloc (At.alloc A0 _) _) hb; clear hb; obtain ⟨l0, c0_0, c0_1⟩ := At.two A0) | (go_at_call 15; (with_reducible refine (valid_any _ _ _).mono ?_); rintro e w' ⟨rfl, hb⟩; (clear l0 c0_0 c0_1); (replace hB := Below.after2 (by first | exact hB | exact Below.alloc' hB _ | exact Below.alloc' (Below.alloc' hB _) _) (Nat.le_refl _) hb); replace A0 := At.keep (by first | exact A0 | exact At.alloc A0 _ | exact At.alloc (At.alloc A0 _) _) hb; clear hb; obtain ⟨l0, c0_0, c0_1⟩ := At.two A0) | (go_at_call 11; (with_reducible refine (len_any _ _ _ _ _).mono ?_); rintro e w' ⟨rfl, hb⟩; (clear l0 c0_0 c0_1); (replace hB := Below.after2 (by first | exact hB | exact Below.alloc' hB _ | exact Below.alloc' (Below.alloc' hB _) _) (Nat.le_refl _) hb); replace A0 := At.keep (by first | exact A0 | exact At.alloc A0 _ | exact At.alloc (At.alloc A0 _) _) hb; clear hb; obtain ⟨l0, c0_0, c0_1⟩ := At.two A0))
  all_goals go_ret
  all_goals exact ⟨rfl, hB⟩

set_option maxHeartbeats 8000000 in
theorem lvalid_3 (n base : Int) (w : World) (hv : Fx.valid 2 n = true) (h : Fx.lv 2 n (Fx.len 2 n base 0)) : Calls Try.prog 8 #[.agg #[.int .i64 2, .int .i64 n], .int .i64 base] w fun e w' => e = .returned (.bool true) ∧ Below w.heap.size w w' := by
  simp only [Fx.lv_2] at h
  have g1 := Fx.len_le 2 n base 0
  have g2 := Fx.len_ge 2 n base 0
  go_enter Try.func8, Try.ntmps8
  go_upto_region 1 with (fail)
  (generalize hW : World.alloc w _ = W0; have A0 : At W0 (w.heap.size) (.cells #[.int .i64 2, .int .i64 n] 24) := (by ((rw [← hW]) <;> exact At.new' _ (by first | done | rfl | simp))); have hB : Below w.heap.size w W0 := (by ((rw [← hW]) <;> exact Below.alloc' (Below.refl _ _) _)); clear hW; obtain ⟨l0, c0_0, c0_1⟩ := At.two A0)
  go_wp2_with (first | (go_at_call 10; (with_reducible refine (lworks_any _).mono ?_); rintro e w' ⟨rfl, hb⟩; (clear l0 c0_0 c0_1); (replace hB := Below.after2 (by first | exact hB | exact Below.alloc' hB _ | exact Below.alloc' (Below.alloc' hB _) _) (Nat.le_refl _) hb); replace A0 := At.keep (by first | exact A0 | exact At.alloc A0 _ | exact At.alloc (At.alloc A0 _) _) hb; clear hb; obtain ⟨l0, c0_0, c0_1⟩ := At.two A0) | (go_at_call 15; (with_reducible refine (valid_any _ _ _).mono ?_); rintro e w' ⟨rfl, hb⟩; (clear l0 c0_0 c0_1); (replace hB := Below.after2 (by first | exact hB | exact Below.alloc' hB _ | exact Below.alloc' (Below.alloc' hB _) _) (Nat.le_refl _) hb); replace A0 := At.keep (by first | exact A0 | exact At.alloc A0 _ | exact At.alloc (At.alloc A0 _) _) hb; clear hb; obtain ⟨l0, c0_0, c0_1⟩ := At.two A0) | (go_at_call 11; (with_reducible refine (len_any _ _ _ _ _).mono ?_); rintro e w' ⟨rfl, hb⟩; (clear l0 c0_0 c0_1); (replace hB := Below.after2 (by first | exact hB | exact Below.alloc' hB _ | exact Below.alloc' (Below.alloc' hB _) _) (Nat.le_refl _) hb); replace A0 := At.keep (by first | exact A0 | exact At.alloc A0 _ | exact At.alloc (At.alloc A0 _) _) hb; clear hb; obtain ⟨l0, c0_0, c0_1⟩ := At.two A0))
  all_goals go_ret
  all_goals exact ⟨rfl, hB⟩

theorem lvalid_walk (k n base : Int) (w : World) : Calls Try.prog 8 #[.agg #[.int .i64 k, .int .i64 n], .int .i64 base] w fun e w' => e = .returned (.bool true) ∧ Below w.heap.size w w' := by
  cases hv : Fx.valid k n with
  | false => exact lvalid_0 k n base w hv
  | true =>
    rcases Fx.valid_true (base := base) hv with ⟨h0, h⟩ | ⟨h0, h⟩ | ⟨h0, h⟩
    · subst h0; exact lvalid_1 n base w hv h
    · subst h0; exact lvalid_2 n base w hv h
    · subst h0; exact lvalid_3 n base w hv h

end Go.Proofs.Ythpocilmnohahaa.Fix
