/- AnchorKeeps: it returns true, and leaves all that was there as it was. Written by wip/tools/genanlaws.py. -/
import Derived.Test.YtnoofdojbgkmkaaAnLaw0
namespace Go.Proofs.Ytnoofdojbgkmkaa.Fix
open Go.ChangeShapes Go.WideShapes Go.ChangeAt Go.RowKit Go.Deep Go.Joins
set_option linter.unusedVariables false
set_option linter.unusedSimpArgs false

theorem keep_plain {o was now m : Int} (h0 : 0 < o) (h1 : o ≤ 1073741824) (h2 : -1073741824 ≤ was) (h3 : was ≤ 1073741824) (h4 : -1073741824 ≤ now) (h5 : now ≤ 1073741824) (h6 : 0 ≤ m) (h7 : m ≤ 1073741824) : An.keep o was now m = if m < o + now - was then m else if o + now - was < 0 then 0 else o + now - was := by
  unfold An.keep
  rw [if_neg (by omega), Fx.sub_plain (by omega) (by omega) (by omega) (by omega), Fx.add_plain (by omega) (by omega) (by omega) (by omega), Fx.clamp_plain (by omega) (by omega) (by omega) (by omega) (by omega)]
  (repeat' split) <;> omega

theorem ankeeps_out (o was now m : Int) (w : World) (h : o < 0 ∨ 1073741824 < o ∨ was < -1073741824 ∨ 1073741824 < was ∨ now < -1073741824 ∨ 1073741824 < now ∨ m < 0 ∨ 1073741824 < m) :
    Calls Try.prog 5 #[.int .i64 o, .int .i64 was, .int .i64 now, .int .i64 m] w fun e w' => e = .returned (.bool true) ∧ Below w.heap.size w w' := by
  by_cases h0 : o < 0
  · have e0 : decide (o < 0) = true := by simp; omega
    go_enter Try.func5, Try.ntmps5
    go_wp2_with ((go_at_call 9; with_reducible refine (anworks_any _).mono ?_; rintro e w1 ⟨rfl, hB⟩))
    go_ret
    exact ⟨rfl, hB⟩
  · have e0 : decide (o < 0) = false := by simp; omega
    by_cases h1 : 1073741824 < o
    · have e1 : decide (1073741824 < o) = true := by simp; omega
      go_enter Try.func5, Try.ntmps5
      go_wp2_with ((go_at_call 9; with_reducible refine (anworks_any _).mono ?_; rintro e w1 ⟨rfl, hB⟩))
      go_ret
      exact ⟨rfl, hB⟩
    · have e1 : decide (1073741824 < o) = false := by simp; omega
      by_cases h2 : was < -1073741824
      · have e2 : decide (was < -1073741824) = true := by simp; omega
        go_enter Try.func5, Try.ntmps5
        go_wp2_with ((go_at_call 9; with_reducible refine (anworks_any _).mono ?_; rintro e w1 ⟨rfl, hB⟩))
        go_ret
        exact ⟨rfl, hB⟩
      · have e2 : decide (was < -1073741824) = false := by simp; omega
        by_cases h3 : 1073741824 < was
        · have e3 : decide (1073741824 < was) = true := by simp; omega
          go_enter Try.func5, Try.ntmps5
          go_wp2_with ((go_at_call 9; with_reducible refine (anworks_any _).mono ?_; rintro e w1 ⟨rfl, hB⟩))
          go_ret
          exact ⟨rfl, hB⟩
        · have e3 : decide (1073741824 < was) = false := by simp; omega
          by_cases h4 : now < -1073741824
          · have e4 : decide (now < -1073741824) = true := by simp; omega
            go_enter Try.func5, Try.ntmps5
            go_wp2_with ((go_at_call 9; with_reducible refine (anworks_any _).mono ?_; rintro e w1 ⟨rfl, hB⟩))
            go_ret
            exact ⟨rfl, hB⟩
          · have e4 : decide (now < -1073741824) = false := by simp; omega
            by_cases h5 : 1073741824 < now
            · have e5 : decide (1073741824 < now) = true := by simp; omega
              go_enter Try.func5, Try.ntmps5
              go_wp2_with ((go_at_call 9; with_reducible refine (anworks_any _).mono ?_; rintro e w1 ⟨rfl, hB⟩))
              go_ret
              exact ⟨rfl, hB⟩
            · have e5 : decide (1073741824 < now) = false := by simp; omega
              by_cases h6 : m < 0
              · have e6 : decide (m < 0) = true := by simp; omega
                go_enter Try.func5, Try.ntmps5
                go_wp2_with ((go_at_call 9; with_reducible refine (anworks_any _).mono ?_; rintro e w1 ⟨rfl, hB⟩))
                go_ret
                exact ⟨rfl, hB⟩
              · have e6 : decide (m < 0) = false := by simp; omega
                have h7 : 1073741824 < m := by omega
                have e7 : decide (1073741824 < m) = true := by simp; omega
                go_enter Try.func5, Try.ntmps5
                go_wp2_with ((go_at_call 9; with_reducible refine (anworks_any _).mono ?_; rintro e w1 ⟨rfl, hB⟩))
                go_ret
                exact ⟨rfl, hB⟩

set_option maxHeartbeats 4000000 in
theorem ankeeps_core (o was now m : Int) (w : World) (h0 : 0 ≤ o) (h1 : o ≤ 1073741824) (h2 : -1073741824 ≤ was) (h3 : was ≤ 1073741824) (h4 : -1073741824 ≤ now) (h5 : now ≤ 1073741824) (h6 : 0 ≤ m) (h7 : m ≤ 1073741824) :
    Calls Try.prog 5 #[.int .i64 o, .int .i64 was, .int .i64 now, .int .i64 m] w fun e w' => e = .returned (.bool true) ∧ Below w.heap.size w w' := by
  have e0 : decide (o < 0) = false := by simp; omega
  have e1 : decide (1073741824 < o) = false := by simp; omega
  have e2 : decide (was < -1073741824) = false := by simp; omega
  have e3 : decide (1073741824 < was) = false := by simp; omega
  have e4 : decide (now < -1073741824) = false := by simp; omega
  have e5 : decide (1073741824 < now) = false := by simp; omega
  have e6 : decide (m < 0) = false := by simp; omega
  have e7 : decide (1073741824 < m) = false := by simp; omega
  by_cases ho : o = 0
  · subst ho
    have HR := Lib.hid (show An.keep 0 was now m = 0 by unfold An.keep; rw [if_pos rfl])
    go_enter Try.func5, Try.ntmps5
    go_wp2_with (first | (go_at_call 9; with_reducible refine (anworks_any _).mono ?_; rintro e w1 ⟨rfl, hB⟩) | (go_at_call 17; with_reducible refine (ankeep_any _ HR.out).mono ?_; rintro e w2 ⟨rfl, hb⟩; replace hB := Below.after hB hb))
    all_goals first | (exfalso; omega) | (go_ret; exact ⟨rfl, hB⟩)
  · have f0 : decide (o = 0) = false := by simp; omega
    obtain ⟨n, hn⟩ : ∃ n, An.keep o was now m = n := ⟨_, rfl⟩
    have hk := keep_plain (o := o) (was := was) (now := now) (m := m) (by omega) h1 h2 h3 h4 h5 h6 h7
    rw [hn] at hk
    have HR := Lib.hid hn
    have g1 : 0 ≤ n ∧ n ≤ m := by rw [hk]; (repeat' split) <;> omega
    obtain ⟨g1, g2⟩ := g1
    have f1 : decide (0 ≤ n) = true := by simp; omega
    have f2 : decide (n ≤ m) = true := by simp; omega
    by_cases hx : m < o + now - was
    · have k1 : m ≤ n := by rw [if_pos hx] at hk; omega
      clear hk hn f1 f2
      go_enter Try.func5, Try.ntmps5
      go_wp2_with (first | (go_at_call 9; with_reducible refine (anworks_any _).mono ?_; rintro e w1 ⟨rfl, hB⟩) | (go_at_call 17; with_reducible refine (ankeep_any _ HR.out).mono ?_; rintro e w2 ⟨rfl, hb⟩; replace hB := Below.after hB hb))
      all_goals first | (exfalso; omega) | (go_ret; exact ⟨rfl, hB⟩)
    · by_cases hy : o + now - was < 0
      · have k1 : n ≤ 0 := by rw [if_neg hx, if_pos hy] at hk; omega
        clear hk hn f1 f2
        go_enter Try.func5, Try.ntmps5
        go_wp2_with (first | (go_at_call 9; with_reducible refine (anworks_any _).mono ?_; rintro e w1 ⟨rfl, hB⟩) | (go_at_call 17; with_reducible refine (ankeep_any _ HR.out).mono ?_; rintro e w2 ⟨rfl, hb⟩; replace hB := Below.after hB hb))
        all_goals first | (exfalso; omega) | (go_ret; exact ⟨rfl, hB⟩)
      · have k1 : n ≤ o + now - was := by rw [if_neg hx, if_neg hy] at hk; omega
        have k2 : o + now - was ≤ n := by rw [if_neg hx, if_neg hy] at hk; omega
        clear hk hn f1 f2
        go_enter Try.func5, Try.ntmps5
        go_wp2_with (first | (go_at_call 9; with_reducible refine (anworks_any _).mono ?_; rintro e w1 ⟨rfl, hB⟩) | (go_at_call 17; with_reducible refine (ankeep_any _ HR.out).mono ?_; rintro e w2 ⟨rfl, hb⟩; replace hB := Below.after hB hb))
        all_goals first | (exfalso; omega) | (go_ret; exact ⟨rfl, hB⟩)

theorem ankeeps_walk (o was now m : Int) (w : World) :
    Calls Try.prog 5 #[.int .i64 o, .int .i64 was, .int .i64 now, .int .i64 m] w fun e w' => e = .returned (.bool true) ∧ Below w.heap.size w w' := by
  by_cases h : o < 0 ∨ 1073741824 < o ∨ was < -1073741824 ∨ 1073741824 < was ∨ now < -1073741824 ∨ 1073741824 < now ∨ m < 0 ∨ 1073741824 < m
  · exact ankeeps_out o was now m w h
  · exact ankeeps_core o was now m w (by omega) (by omega) (by omega) (by omega) (by omega) (by omega) (by omega) (by omega)

end Go.Proofs.Ytnoofdojbgkmkaa.Fix
