/- StickLeast, in part: returns true, and leaves all that was there as it was. Written by wip/tools/genstlaws.py. -/
import Derived.Test.YtdgphjpjgldbaaaStickL
namespace Go.Proofs.Ytdgphjpjgldbaaa.Fix
open Go.ChangeShapes Go.WideShapes Go.ChangeAt Go.RowKit Fl
set_option linter.unusedVariables false
set_option linter.unusedSimpArgs false

set_option maxRecDepth 100000 in
set_option maxHeartbeats 4000000 in
theorem stickLeast_core_tf (blo bhi ilo ihi plo phi : Int) (bby : Int) (eby : Int) (w : World) (h0 : smS blo bhi = true) (h1 : smS ilo ihi = true) (h2 : smS plo phi = true) (h3 : ¬ bby < -1073741824) (h4 : ¬ 1073741824 < bby) (h5 : ¬ eby < -1073741824) (h6 : ¬ 1073741824 < eby) : Calls Try.prog 6 #[.agg #[.int .i64 blo, .int .i64 bhi], .agg #[.int .i64 ilo, .int .i64 ihi], .agg #[.int .i64 plo, .int .i64 phi], .agg #[.bool true, .int .i64 bby], .agg #[.bool false, .int .i64 eby]] w fun e w' => e = .returned (.bool true) ∧ Below w.heap.size w w' := by
  obtain ⟨m0, n0, o0⟩ := smS_iff.1 h0
  obtain ⟨m1, n1, o1⟩ := smS_iff.1 h1
  obtain ⟨m2, n2, o2⟩ := smS_iff.1 h2
  have e3 : decide (bby < -1073741824) = false := by simp; omega
  have e4 : decide (1073741824 < bby) = false := by simp; omega
  have e5 : decide (eby < -1073741824) = false := by simp; omega
  have e6 : decide (1073741824 < eby) = false := by simp; omega
  replace h3 := Int.not_lt.1 h3
  replace h4 := Int.not_lt.1 h4
  replace h5 := Int.not_lt.1 h5
  replace h6 := Int.not_lt.1 h6
  obtain ⟨u1, u2⟩ := St.shift_bd (blo := blo) (bhi := bhi) (ilo := ilo) (ihi := ihi) (plo := plo) (phi := phi) (bby := bby) (eby := eby) true false (by unfold St.Sm; omega) (by unfold St.Sm; omega) (by unfold St.Sm; omega) (by unfold St.Sm; omega) (by unfold St.Sm; omega) (by unfold St.Sm; omega) (by unfold St.Sm; omega) (by unfold St.Sm; omega)
  obtain ⟨F1, F2, F3, F4, F5⟩ := St.shift_least (blo := blo) (bhi := bhi) (ilo := ilo) (ihi := ihi) (plo := plo) (phi := phi) (bby := bby) (eby := eby) true false (by unfold St.Sm; omega) (by unfold St.Sm; omega) (by unfold St.Sm; omega) (by unfold St.Sm; omega) (by unfold St.Sm; omega) (by unfold St.Sm; omega) (by unfold St.Sm; omega) (by unfold St.Sm; omega) o0 o1 o2 rfl
  generalize hn : St.shift blo bhi ilo ihi plo phi true bby false eby = n at *
  go_enter Try.func6, Try.ntmps6
  go_upto_region 1 with (fail)
  (generalize hW : World.alloc (World.alloc (World.alloc (World.alloc (World.alloc w _) _) _) _) _ = W0; have A0 : At W0 (w.heap.size) (.cells #[.int .i64 blo, .int .i64 bhi] 23) := (by ((rw [← hW]) <;> exact At.alloc (At.alloc (At.alloc (At.alloc (At.new' _ (by first | done | rfl | simp)) _) _) _) _)); have A1 : At W0 (w.heap.size + 1) (.cells #[.int .i64 ilo, .int .i64 ihi] 23) := (by ((rw [← hW]) <;> exact At.alloc (At.alloc (At.alloc (At.new' _ (by first | done | rfl | simp)) _) _) _)); have A2 : At W0 (w.heap.size + 1 + 1) (.cells #[.int .i64 plo, .int .i64 phi] 23) := (by ((rw [← hW]) <;> exact At.alloc (At.alloc (At.new' _ (by first | done | rfl | simp)) _) _)); have A3 : At W0 (w.heap.size + 1 + 1 + 1) (.cells #[.bool true, .int .i64 bby] 25) := (by ((rw [← hW]) <;> exact At.alloc (At.new' _ (by first | done | rfl | simp)) _)); have A4 : At W0 (w.heap.size + 1 + 1 + 1 + 1) (.cells #[.bool false, .int .i64 eby] 25) := (by ((rw [← hW]) <;> exact At.new' _ (by first | done | rfl | simp))); have hB : Below w.heap.size w W0 := (by ((rw [← hW]) <;> exact Below.alloc' (Below.alloc' (Below.alloc' (Below.alloc' (Below.alloc' (Below.refl _ _) _) _) _) _) _)); clear hW; obtain ⟨l0, c0_0, c0_1⟩ := At.two A0; obtain ⟨l1, c1_0, c1_1⟩ := At.two A1; obtain ⟨l2, c2_0, c2_1⟩ := At.two A2; obtain ⟨l3, c3_0, c3_1⟩ := At.two A3; obtain ⟨l4, c4_0, c4_1⟩ := At.two A4)
  go_upto_region 7 with (first | (go_at_call 9; (with_reducible refine (stworks_any _).mono ?_); rintro e w' ⟨rfl, hb⟩; (clear l0 c0_0 c0_1 l1 c1_0 c1_1 l2 c2_0 c2_1 l3 c3_0 c3_1 l4 c4_0 c4_1); (replace hB := Below.after2 (by first | exact hB | exact Below.alloc' hB _ | exact Below.alloc' (Below.alloc' hB _) _) (Nat.le_refl _) hb); replace A0 := At.keep (by first | exact A0 | exact At.alloc A0 _ | exact At.alloc (At.alloc A0 _) _) hb; replace A1 := At.keep (by first | exact A1 | exact At.alloc A1 _ | exact At.alloc (At.alloc A1 _) _) hb; replace A2 := At.keep (by first | exact A2 | exact At.alloc A2 _ | exact At.alloc (At.alloc A2 _) _) hb; replace A3 := At.keep (by first | exact A3 | exact At.alloc A3 _ | exact At.alloc (At.alloc A3 _) _) hb; replace A4 := At.keep (by first | exact A4 | exact At.alloc A4 _ | exact At.alloc (At.alloc A4 _) _) hb; clear hb; obtain ⟨l0, c0_0, c0_1⟩ := At.two A0; obtain ⟨l1, c1_0, c1_1⟩ := At.two A1; obtain ⟨l2, c2_0, c2_1⟩ := At.two A2; obtain ⟨l3, c3_0, c3_1⟩ := At.two A3; obtain ⟨l4, c4_0, c4_1⟩ := At.two A4) | (go_at_call 17; (with_reducible refine (stsmall_any _ _ _).mono ?_); rintro e w' ⟨rfl, hb⟩; (clear l0 c0_0 c0_1 l1 c1_0 c1_1 l2 c2_0 c2_1 l3 c3_0 c3_1 l4 c4_0 c4_1); (replace hB := Below.after2 (by first | exact hB | exact Below.alloc' hB _ | exact Below.alloc' (Below.alloc' hB _) _) (Nat.le_refl _) hb); replace A0 := At.keep (by first | exact A0 | exact At.alloc A0 _ | exact At.alloc (At.alloc A0 _) _) hb; replace A1 := At.keep (by first | exact A1 | exact At.alloc A1 _ | exact At.alloc (At.alloc A1 _) _) hb; replace A2 := At.keep (by first | exact A2 | exact At.alloc A2 _ | exact At.alloc (At.alloc A2 _) _) hb; replace A3 := At.keep (by first | exact A3 | exact At.alloc A3 _ | exact At.alloc (At.alloc A3 _) _) hb; replace A4 := At.keep (by first | exact A4 | exact At.alloc A4 _ | exact At.alloc (At.alloc A4 _) _) hb; clear hb; obtain ⟨l0, c0_0, c0_1⟩ := At.two A0; obtain ⟨l1, c1_0, c1_1⟩ := At.two A1; obtain ⟨l2, c2_0, c2_1⟩ := At.two A2; obtain ⟨l3, c3_0, c3_1⟩ := At.two A3; obtain ⟨l4, c4_0, c4_1⟩ := At.two A4) | (go_at_call 10; (with_reducible refine (shift_any _ _ _ _ _ _ _ _ _ _ _).mono ?_); rintro e w' ⟨rfl, hb⟩; (clear l0 c0_0 c0_1 l1 c1_0 c1_1 l2 c2_0 c2_1 l3 c3_0 c3_1 l4 c4_0 c4_1); (replace hB := Below.after2 (by first | exact hB | exact Below.alloc' hB _ | exact Below.alloc' (Below.alloc' hB _) _) (Nat.le_refl _) hb); replace A0 := At.keep (by first | exact A0 | exact At.alloc A0 _ | exact At.alloc (At.alloc A0 _) _) hb; replace A1 := At.keep (by first | exact A1 | exact At.alloc A1 _ | exact At.alloc (At.alloc A1 _) _) hb; replace A2 := At.keep (by first | exact A2 | exact At.alloc A2 _ | exact At.alloc (At.alloc A2 _) _) hb; replace A3 := At.keep (by first | exact A3 | exact At.alloc A3 _ | exact At.alloc (At.alloc A3 _) _) hb; replace A4 := At.keep (by first | exact A4 | exact At.alloc A4 _ | exact At.alloc (At.alloc A4 _) _) hb; clear hb; obtain ⟨l0, c0_0, c0_1⟩ := At.two A0; obtain ⟨l1, c1_0, c1_1⟩ := At.two A1; obtain ⟨l2, c2_0, c2_1⟩ := At.two A2; obtain ⟨l3, c3_0, c3_1⟩ := At.two A3; obtain ⟨l4, c4_0, c4_1⟩ := At.two A4))
  clear hn
  by_cases a1 : plo + bby ≤ blo
  · have b1 : plo + bby ≤ blo := a1
    have k0 : n = 0 := F1 (.inr a1) (.inl trivial)
    clear F1 F2 F3
    clear F4 F5
    subst k0
    cases q3 : (blo == plo + bby)
    · go_wp2
      all_goals go_ret
      all_goals exact ⟨rfl, hB⟩
    · go_wp2
      all_goals go_ret
      all_goals exact ⟨rfl, hB⟩
  · have b1 : decide (plo + bby ≤ blo) = false := by simp; omega
    have k0 : 0 ≤ n := F3 (.inl trivial)
    clear F1 F2 F3
    rcases (by omega : n = 0 ∨ 0 < n) with k | k
    · clear F4 F5
      clear k0
      subst k
      cases q3 : (blo == plo + bby)
      · go_wp2
        all_goals go_ret
        all_goals exact ⟨rfl, hB⟩
      · go_wp2
        all_goals go_ret
        all_goals exact ⟨rfl, hB⟩
    · have p4 := F4 k
      clear F4 F5
      have d0 : (n == 0) = false := by simp; omega
      have d1 : 0 ≤ n := by omega
      have d3 : decide (n < 0) = false := by simp; omega
      by_cases q1 : bhi + n = ihi
      · clear p4
        cases q3 : (blo + n == plo + bby)
        · go_wp2
          all_goals go_ret
          all_goals exact ⟨rfl, hB⟩
        · go_wp2
          all_goals go_ret
          all_goals exact ⟨rfl, hB⟩
      · have g1 : (bhi + n == ihi) = false := by simp; omega
        have q2 : blo + n = plo + bby := by omega
        clear q1 p4
        go_wp2
        all_goals go_ret
        all_goals exact ⟨rfl, hB⟩

end Go.Proofs.Ytdgphjpjgldbaaa.Fix
