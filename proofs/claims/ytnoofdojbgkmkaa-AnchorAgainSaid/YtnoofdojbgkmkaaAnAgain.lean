/- AnchorAgain: it returns true, and leaves all that was there as it was. Written by wip/tools/genanlaws.py. -/
import Derived.Test.YtnoofdojbgkmkaaAnKeeps
namespace Go.Proofs.Ytnoofdojbgkmkaa.Fix
open Go.ChangeShapes Go.WideShapes Go.ChangeAt Go.RowKit Go.Deep Go.Joins
set_option linter.unusedVariables false
set_option linter.unusedSimpArgs false

theorem anagain_out (o was now m : Int) (w : World) (h : o < 1 ∨ m < o ∨ 1073741824 < m ∨ was < -1073741824 ∨ 1073741824 < was ∨ now < -1073741824 ∨ 1073741824 < now) :
    Calls Try.prog 6 #[.int .i64 o, .int .i64 was, .int .i64 now, .int .i64 m] w fun e w' => e = .returned (.bool true) ∧ Below w.heap.size w w' := by
  by_cases h0 : o < 1
  · have e0 : decide (o < 1) = true := by simp; omega
    go_enter Try.func6, Try.ntmps6
    go_wp2_with ((go_at_call 9; with_reducible refine (anworks_any _).mono ?_; rintro e w1 ⟨rfl, hB⟩))
    go_ret
    exact ⟨rfl, hB⟩
  · have e0 : decide (o < 1) = false := by simp; omega
    by_cases h1 : m < o
    · have e1 : decide (m < o) = true := by simp; omega
      go_enter Try.func6, Try.ntmps6
      go_wp2_with ((go_at_call 9; with_reducible refine (anworks_any _).mono ?_; rintro e w1 ⟨rfl, hB⟩))
      go_ret
      exact ⟨rfl, hB⟩
    · have e1 : decide (m < o) = false := by simp; omega
      by_cases h2 : 1073741824 < m
      · have e2 : decide (1073741824 < m) = true := by simp; omega
        go_enter Try.func6, Try.ntmps6
        go_wp2_with ((go_at_call 9; with_reducible refine (anworks_any _).mono ?_; rintro e w1 ⟨rfl, hB⟩))
        go_ret
        exact ⟨rfl, hB⟩
      · have e2 : decide (1073741824 < m) = false := by simp; omega
        by_cases h3 : was < -1073741824
        · have e3 : decide (was < -1073741824) = true := by simp; omega
          go_enter Try.func6, Try.ntmps6
          go_wp2_with ((go_at_call 9; with_reducible refine (anworks_any _).mono ?_; rintro e w1 ⟨rfl, hB⟩))
          go_ret
          exact ⟨rfl, hB⟩
        · have e3 : decide (was < -1073741824) = false := by simp; omega
          by_cases h4 : 1073741824 < was
          · have e4 : decide (1073741824 < was) = true := by simp; omega
            go_enter Try.func6, Try.ntmps6
            go_wp2_with ((go_at_call 9; with_reducible refine (anworks_any _).mono ?_; rintro e w1 ⟨rfl, hB⟩))
            go_ret
            exact ⟨rfl, hB⟩
          · have e4 : decide (1073741824 < was) = false := by simp; omega
            by_cases h5 : now < -1073741824
            · have e5 : decide (now < -1073741824) = true := by simp; omega
              go_enter Try.func6, Try.ntmps6
              go_wp2_with ((go_at_call 9; with_reducible refine (anworks_any _).mono ?_; rintro e w1 ⟨rfl, hB⟩))
              go_ret
              exact ⟨rfl, hB⟩
            · have e5 : decide (now < -1073741824) = false := by simp; omega
              have h6 : 1073741824 < now := by omega
              have e6 : decide (1073741824 < now) = true := by simp; omega
              go_enter Try.func6, Try.ntmps6
              go_wp2_with ((go_at_call 9; with_reducible refine (anworks_any _).mono ?_; rintro e w1 ⟨rfl, hB⟩))
              go_ret
              exact ⟨rfl, hB⟩

set_option maxHeartbeats 4000000 in
theorem anagain_core (o was now m : Int) (w : World) (h0 : 1 ≤ o) (h1 : o ≤ m) (h7 : m ≤ 1073741824) (h2 : -1073741824 ≤ was) (h3 : was ≤ 1073741824) (h4 : -1073741824 ≤ now) (h5 : now ≤ 1073741824) :
    Calls Try.prog 6 #[.int .i64 o, .int .i64 was, .int .i64 now, .int .i64 m] w fun e w' => e = .returned (.bool true) ∧ Below w.heap.size w w' := by
  have e0 : decide (o < 1) = false := by simp; omega
  have e1 : decide (m < o) = false := by simp; omega
  have e2 : decide (1073741824 < m) = false := by simp; omega
  have e3 : decide (was < -1073741824) = false := by simp; omega
  have e4 : decide (1073741824 < was) = false := by simp; omega
  have e5 : decide (now < -1073741824) = false := by simp; omega
  have e6 : decide (1073741824 < now) = false := by simp; omega
  have kp : ∀ x y n : Int, 0 ≤ n → n ≤ m → -1073741824 ≤ x → x ≤ 1073741824 → n + x - x = n → An.keep n x x m = n := fun x y n a1 a2 a3 a4 _ => by
    by_cases hz : n = 0
    · subst hz; unfold An.keep; rw [if_pos rfl]
    · rw [keep_plain (by omega) (by omega) a3 a4 a3 a4 (by omega) h7]
      (repeat' split) <;> omega
  obtain ⟨n, hn⟩ : ∃ n, An.keep o was now m = n := ⟨_, rfl⟩
  have hk := keep_plain (o := o) (was := was) (now := now) (m := m) (by omega) (by omega) h2 h3 h4 h5 (by omega) h7
  rw [hn] at hk
  have HR := Lib.hid hn
  have g1 : 0 ≤ n ∧ n ≤ m := by rw [hk]; (repeat' split) <;> omega
  obtain ⟨g1, g2⟩ := g1
  have H1 := Lib.hid (kp was was o (by omega) (by omega) h2 h3 (by omega))
  have H2 := Lib.hid (kp now now n g1 g2 h4 h5 (by omega))
  by_cases hx : o + now - was ≤ 0
  · have f1 : decide (o + now - was ≤ 0) = true := by simp; omega
    clear hk hn kp
    go_enter Try.func6, Try.ntmps6
    go_wp2_with (first | (go_at_call 9; with_reducible refine (anworks_any _).mono ?_; rintro e w1 ⟨rfl, hB⟩) | (go_at_call 17; with_reducible refine (ankeep_any _ HR.out).mono ?_; rintro e w2 ⟨rfl, hb⟩; replace hB := Below.after hB hb) | (go_at_call 17; with_reducible refine (ankeep_any _ H1.out).mono ?_; rintro e w2 ⟨rfl, hb⟩; replace hB := Below.after hB hb) | (go_at_call 17; with_reducible refine (ankeep_any _ H2.out).mono ?_; rintro e w2 ⟨rfl, hb⟩; replace hB := Below.after hB hb))
    go_ret
    exact ⟨rfl, hB⟩
  · have f1 : decide (o + now - was ≤ 0) = false := by simp; omega
    by_cases hy : m < o + now - was
    · have f2 : decide (m < o + now - was) = true := by simp; omega
      clear hk hn kp
      go_enter Try.func6, Try.ntmps6
      go_wp2_with (first | (go_at_call 9; with_reducible refine (anworks_any _).mono ?_; rintro e w1 ⟨rfl, hB⟩) | (go_at_call 17; with_reducible refine (ankeep_any _ HR.out).mono ?_; rintro e w2 ⟨rfl, hb⟩; replace hB := Below.after hB hb) | (go_at_call 17; with_reducible refine (ankeep_any _ H1.out).mono ?_; rintro e w2 ⟨rfl, hb⟩; replace hB := Below.after hB hb) | (go_at_call 17; with_reducible refine (ankeep_any _ H2.out).mono ?_; rintro e w2 ⟨rfl, hb⟩; replace hB := Below.after hB hb))
      go_ret
      exact ⟨rfl, hB⟩
    · have f2 : decide (m < o + now - was) = false := by simp; omega
      have H3 := Lib.hid (show An.keep n now was m = o by
        rw [if_neg hy, if_neg (by omega)] at hk
        rw [keep_plain (by omega) (by omega) h4 h5 h2 h3 (by omega) h7, if_neg (by omega), if_neg (by omega)]
        omega)
      clear hk hn kp
      go_enter Try.func6, Try.ntmps6
      go_wp2_with (first | (go_at_call 9; with_reducible refine (anworks_any _).mono ?_; rintro e w1 ⟨rfl, hB⟩) | (go_at_call 17; with_reducible refine (ankeep_any _ HR.out).mono ?_; rintro e w2 ⟨rfl, hb⟩; replace hB := Below.after hB hb) | (go_at_call 17; with_reducible refine (ankeep_any _ H1.out).mono ?_; rintro e w2 ⟨rfl, hb⟩; replace hB := Below.after hB hb) | (go_at_call 17; with_reducible refine (ankeep_any _ H2.out).mono ?_; rintro e w2 ⟨rfl, hb⟩; replace hB := Below.after hB hb) | (go_at_call 17; with_reducible refine (ankeep_any _ H3.out).mono ?_; rintro e w2 ⟨rfl, hb⟩; replace hB := Below.after hB hb))
      go_ret
      exact ⟨rfl, hB⟩

theorem anagain_walk (o was now m : Int) (w : World) :
    Calls Try.prog 6 #[.int .i64 o, .int .i64 was, .int .i64 now, .int .i64 m] w fun e w' => e = .returned (.bool true) ∧ Below w.heap.size w w' := by
  by_cases h : o < 1 ∨ m < o ∨ 1073741824 < m ∨ was < -1073741824 ∨ 1073741824 < was ∨ now < -1073741824 ∨ 1073741824 < now
  · exact anagain_out o was now m w h
  · exact anagain_core o was now m w (by omega) (by omega) (by omega) (by omega) (by omega) (by omega) (by omega)

end Go.Proofs.Ytnoofdojbgkmkaa.Fix
