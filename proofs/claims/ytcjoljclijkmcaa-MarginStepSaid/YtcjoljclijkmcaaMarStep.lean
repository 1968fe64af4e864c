/- MarginStep: it returns true, and leaves all that was there as it was. -/
import Derived.Test.YtcjoljclijkmcaaMarOrder
namespace Go.Proofs.Ytcjoljclijkmcaa.Fix
open Go.ChangeShapes Go.WideShapes Go.ChangeAt Go.RowKit
set_option linter.unusedVariables false

/-- A row of one's own, of a list and one number more, made anew in a world of which all is kept. -/
theorem append_both {W : World} {A : Option Addr} {l : List Int} {n c : Nat} (x : Int) (hI : Ints W A l) (hl : l.length = n) (hc : A = none → c = 0) (hn : n ≤ 1000) :
    ∃ v1 wa A' c' wb, (Builtin.append_ #[22, 22] 22 #[.slice none 0 0, .slice A n c]).run Try.prog W = .ok v1 wa ∧
      (Builtin.append_ #[22, 22] 22 #[v1, .slice (some ⟨wa.heap.size, 0, none⟩) 1 1]).run Try.prog (wa.alloc (.cells #[.int .i64 x] 3)) = .ok (.slice A' (n + 1) c') wb ∧
      Ints wb A' (l ++ [x]) ∧ (l ++ [x]).length = n + 1 ∧ Below W.heap.size W wb := by
  obtain ⟨v1, wa, r1, o1, b1, g1⟩ := append_ints (xs := []) (World.ownsRow_nil _ _ _ _) (Below.refl W.heap.size W) (Nat.le_refl _) hI hl hc (by omega)
  obtain ⟨v2, wb, r2, o2, b2, g2⟩ := append_int x o1 b1 g1 (by omega)
  obtain ⟨A', c', rfl, hI'⟩ := ints_of_own o2 (by simp only [maxLen]; omega)
  have hL : ([] ++ l ++ [x]).length = n + 1 := by simp [hl]
  rw [hL] at r2
  exact ⟨v1, wa, A', c', wb, r1, r2, hI', hL, b2⟩

set_option maxHeartbeats 8000000 in
theorem mstep_core (A T B : Option Addr) (s t u : List Int) (n d1 d2 d3 : Nat) (x y z : Int) (w : World) (hs : Ints w A s) (ht : Ints w T t) (hu : Ints w B u) (ls : s.length = n) (lt : t.length = n) (lu : u.length = n) (hn : n ≤ 100)
    (hc1 : A = none → d1 = 0) (hc2 : T = none → d2 = 0) (hc3 : B = none → d3 = 0) :
    Calls Try.prog 8 #[.slice A n d1, .slice T n d2, .slice B n d3, .int .i64 x, .int .i64 y, .int .i64 z] w fun e w' => e = .returned (.bool true) ∧ Below w.heap.size w w' := by
  have HS := Lib.hid hs; clear hs
  have HT := Lib.hid ht; clear ht
  have HU := Lib.hid hu; clear hu
  have LS := Lib.hid ls; clear ls
  have LT := Lib.hid lt; clear lt
  have LU := Lib.hid lu; clear lu
  have HC1 := Lib.hid hc1; clear hc1
  have HC2 := Lib.hid hc2; clear hc2
  have HC3 := Lib.hid hc3; clear hc3
  have dn : decide (100 < (n : Int)) = false := by simp; omega
  go_enter Try.func8, Try.ntmps8
  go_upto_region 9 with (go_at_call 9; with_reducible refine (mworks_any _).mono ?_; rintro e w1 ⟨rfl, hB⟩)
  obtain ⟨v1, wa, A1, e1, wb, r1, r2, I1, L1, b1⟩ := append_both x (HS.out.after hB) LS.out HC1.out (by omega)
  have hB1 := Below.after2 hB (Nat.le_refl _) b1
  obtain ⟨v3, wc, A2, e2, wd, r3, r4, I2, L2, b2⟩ := append_both y (HT.out.after hB1) LT.out HC2.out (by omega)
  have hB2 := Below.after2 hB1 (Nat.le_refl _) b2
  obtain ⟨v5, we, A3, e3, wf, r5, r6, I3, L3, b3⟩ := append_both z (HU.out.after hB2) LU.out HC3.out (by omega)
  have hB3 := Below.after2 hB2 (Nat.le_refl _) b3
  replace I1 := (I1.after b2).after b3
  replace I2 := I2.after b3
  have R1 := Lib.hid r1
  have R2 := Lib.hid r2
  have R3 := Lib.hid r3
  have R4 := Lib.hid r4
  have R5 := Lib.hid r5
  have R6 := Lib.hid r6
  replace L1 := Lib.hid L1
  replace L2 := Lib.hid L2
  replace L3 := Lib.hid L3
  clear r1 r2 r3 r4 r5 r6 b1 b2 b3 hB hB1 hB2
  go_upto_region 10 with (first | (at_builtin; refine wpList_append_run (by rfl) _ _ 22 rfl rfl rfl R1.out ?_) | (at_builtin; refine wpList_append_run (by rfl) _ _ 22 rfl rfl rfl R2.out ?_))
  go_upto_region 11 with (first | (at_builtin; refine wpList_append_run (by rfl) _ _ 22 rfl rfl rfl R3.out ?_) | (at_builtin; refine wpList_append_run (by rfl) _ _ 22 rfl rfl rfl R4.out ?_))
  go_upto_region 12 with (first | (at_builtin; refine wpList_append_run (by rfl) _ _ 22 rfl rfl rfl R5.out ?_) | (at_builtin; refine wpList_append_run (by rfl) _ _ 22 rfl rfl rfl R6.out ?_))
  clear R1 R2 R3 R4 R5 R6
  go_upto_region 13 with (go_at_call 15; with_reducible refine (stack_any A T B s t u n _ _ _ _ (HS.out.after hB3) (HT.out.after hB3) (HU.out.after hB3) LS.out LT.out LU.out (by omega)).mono ?_; rintro e wg ⟨⟨bx, rfl, Ix⟩, bg⟩)
  replace I1 := I1.after bg
  replace I2 := I2.after bg
  replace I3 := I3.after bg
  replace hB3 := Below.after2 hB3 (Nat.le_refl _) bg
  clear bg
  go_upto_region 14 with (go_at_call 15; with_reducible refine (stack_any A1 A2 A3 (s ++ [x]) (t ++ [y]) (u ++ [z]) (n + 1) _ _ _ _ I1 I2 I3 L1.out L2.out L3.out (by omega)).mono ?_; rintro e wh ⟨⟨bY, rfl, Iy⟩, bh⟩)
  replace Ix := Ix.after bh
  replace hB3 := Below.after2 hB3 (Nat.le_refl _) bh
  clear bh I1 I2 I3
  have EB : Hid (∀ k, k < n → Fx.stBeg (s ++ [x]) (t ++ [y]) (u ++ [z]) k = Fx.stBeg s t u k) := Lib.hid fun k hk => Fx.stBeg_app s t u x y z n LS.out LT.out LU.out hk
  have EE : Hid (Fx.stEnd (s ++ [x]) (t ++ [y]) (u ++ [z]) (n + 1) = Fx.add (Fx.stBeg (s ++ [x]) (t ++ [y]) (u ++ [z]) n) x) := Lib.hid (by
    rw [Fx.stEnd_succ]
    have e : (s ++ [x]).getD n 0 = x := by rw [← LS.out]; exact Fx.getD_last s x
    rw [e])
  have EN : Hid (0 < n → Fx.stBeg (s ++ [x]) (t ++ [y]) (u ++ [z]) n = Fx.add (Fx.stEnd s t u n) (Fx.coll [u.getD (n - 1) 0, y])) := Lib.hid fun h => Fx.stBeg_new s t u x y z n LS.out LT.out LU.out h
  replace Ix := Lib.hid Ix
  replace Iy := Lib.hid Iy
  rw [EE.out]
  go_wp2
  go_loopw [21] (fun i wr => ∃ k : Nat, k ≤ n ∧ i = .int .i64 k ∧ Below wh.heap.size wh wr) (fun i _ => n - (intOf i).toNat)
  case atStart => exact ⟨0, by omega, rfl, Below.refl _ _⟩
  case round =>
    obtain ⟨k, hk, rfl, hr⟩ := hrel
    by_cases hlt : k < n
    · obtain ⟨b4, o4, hA4, l4, c4⟩ := (Ix.out.after hr).at_ (k := k) (by rw [Fx.stBegs_length]; exact hlt)
      obtain ⟨b5, o5, hA5, l5, c5⟩ := (Iy.out.after hr).at_ (k := k) (by rw [Fx.stBegs_length]; omega)
      injection hA4 with hA4
      injection hA4 with h41 h42 h43
      injection hA5 with hA5
      injection hA5 with h51 h52 h53
      subst h41 h42 h51 h52
      rw [Fx.stBegs_get _ _ _ hlt] at c4
      rw [Fx.stBegs_get _ _ _ (by omega), EB.out k hlt] at c5
      simp only [Nat.zero_add] at c4 c5
      have hlt2 : (k : Int) < (n : Int) + 1 := by omega
      generalize Fx.stBeg s t u k = v at *
      go_upto_region 19 with (fail)
      refine Drawn.wp_region_from (Below.refl _ _) (by kernel_rfl) (by kernel_rfl) (by kernel_rfl) ?_
      (repeat (first | (refine Drawn.seq_skip (by rfl) ?_; (try simp only [Act.put, List.setIfInBounds_toArray, List.set_cons_zero, List.set_cons_succ])) | (refine Drawn.seq_call (o := ⟨_, .call ⟨.value _, _, _⟩, _, _, _, _⟩) (by rfl) (by intro w2 hS; go_simp; first | done | with_reducible rfl | exact ⟨rfl, rfl⟩) (by intro w2 hS; first | ((with_reducible refine (add_any _ _ _).mono ?_); rintro e w' ⟨rfl, rfl⟩; exact ⟨rfl, hS⟩)) ?_; (try simp only [Act.put, List.setIfInBounds_toArray, List.set_cons_zero, List.set_cons_succ])) | (refine Drawn.seq_value (by rfl) (by intro w2 hS; obtain ⟨hc, hf⟩ := bcell hS; go_simp; first | done | with_reducible rfl | exact ⟨rfl, rfl⟩) ?_; (try simp only [Act.put, List.setIfInBounds_toArray, List.set_cons_zero, List.set_cons_succ]))))
      refine Drawn.seq_end ?_; intro w2 hS
      go_wp2
      go_roundw
      case rel => exact ⟨k + 1, by omega, by go_num, Below.after2 hr (Nat.le_refl _) hS⟩
      case measure => simp [intOf]; omega
    · obtain rfl : k = n := by omega
      have hB4 := Below.after2 hB3 (Nat.le_refl _) hr
      obtain ⟨b5, o5, hA5, l5, c5⟩ := (Iy.out.after hr).at_ (k := k) (by rw [Fx.stBegs_length]; omega)
      injection hA5 with hA5
      injection hA5 with h51 h52 h53
      subst h51 h52
      rw [Fx.stBegs_get _ _ _ (by omega)] at c5
      simp only [Nat.zero_add] at c5
      rcases Nat.eq_zero_or_pos k with rfl | h0
      · rw [Fx.stBeg_zero] at c5 ⊢
        go_wp2_with (first | (go_at_call 20; (with_reducible refine (add_any _ _ _).mono ?_); rintro e w' ⟨rfl, rfl⟩))
        go_ret
        exact ⟨rfl, hB4⟩
      · obtain ⟨m, hm⟩ : ∃ m, k = m + 1 := ⟨k - 1, by omega⟩
        obtain ⟨b6, o6, hA6, l6, c6⟩ := (HU.out.after hB4).at_ (k := m) (by rw [LU.out]; omega)
        have EN' := EN.out h0
        rw [show k - 1 = m by omega] at EN'
        generalize u.getD m 0 = q at *
        subst hA6
        rw [EN'] at c5 ⊢
        have hw : IntKind.i64.wrap ((k : Int) - 1) = (m : Int) := by rw [IntWalk.i64_in _ (by omega)]; omega
        have hmn : m < k := by omega
        have HM := Lib.hid hm
        clear hm EN'
        go_wp2_with (first | first | (go_at_call 20; (with_reducible refine (add_any _ _ _).mono ?_); rintro e w' ⟨rfl, rfl⟩) | (go_at_call 14; with_reducible refine (pair_any _ _ _).mono ?_; rintro e w7 ⟨rfl, hb⟩; have c7 := ((bcell hb).1 _ _ l5).trans c5; replace hB4 := Below.after2 hB4 (Nat.le_refl _) hb; clear hb))
        go_ret
        exact ⟨rfl, hB4⟩

theorem mstep_out (A T B : Option Addr) (n1 n2 n3 d1 d2 d3 : Nat) (x y z : Int) (w : World) (hx1 : n1 ≤ 9223372036854775807) (hx2 : n2 ≤ 9223372036854775807) (hx3 : n3 ≤ 9223372036854775807) (h : ¬(n1 ≤ 100 ∧ n2 = n1 ∧ n3 = n1)) :
    Calls Try.prog 8 #[.slice A n1 d1, .slice T n2 d2, .slice B n3 d3, .int .i64 x, .int .i64 y, .int .i64 z] w fun e w' => e = .returned (.bool true) ∧ Below w.heap.size w w' := by
  by_cases h1 : 100 < n1
  · go_enter Try.func8, Try.ntmps8
    go_wp2_with (go_at_call 9; with_reducible refine (mworks_any _).mono ?_; rintro e w1 ⟨rfl, hB⟩)
    go_ret
    exact ⟨rfl, hB⟩
  · have e1 : decide (100 < (n1 : Int)) = false := by simp; omega
    by_cases h2 : n2 = n1
    · have h3 : ¬ n3 = n1 := fun h3 => h ⟨by omega, h2, h3⟩
      clear h
      go_enter Try.func8, Try.ntmps8
      go_wp2_with (go_at_call 9; with_reducible refine (mworks_any _).mono ?_; rintro e w1 ⟨rfl, hB⟩)
      go_ret
      exact ⟨rfl, hB⟩
    · clear h
      go_enter Try.func8, Try.ntmps8
      go_wp2_with (go_at_call 9; with_reducible refine (mworks_any _).mono ?_; rintro e w1 ⟨rfl, hB⟩)
      go_ret
      exact ⟨rfl, hB⟩

theorem mstep_walk (a0 : Option Addr) (len0 cap0 : Nat) (z0 : List Int) (a1 : Option Addr) (len1 cap1 : Nat) (z1 : List Int) (a2 : Option Addr) (len2 cap2 : Nat) (z2 : List Int) (x y z : Int) (w : World) (h0 : Row w a0 len0 cap0 z0) (h1 : Row w a1 len1 cap1 z1) (h2 : Row w a2 len2 cap2 z2) :
    Calls Try.prog 8 #[.slice a0 len0 cap0, .slice a1 len1 cap1, .slice a2 len2 cap2, .int .i64 x, .int .i64 y, .int .i64 z] w fun e w' => e = .returned (.bool true) ∧ Below w.heap.size w w' := by
  obtain ⟨s, rfl, hs, _, _, c1⟩ := ints_of_row h0
  obtain ⟨t, rfl, ht, _, _, c2⟩ := ints_of_row h1
  obtain ⟨u, rfl, hu, _, _, c3⟩ := ints_of_row h2
  have m1 := hs.1
  have m2 := ht.1
  have m3 := hu.1
  simp only [maxLen] at m1 m2 m3
  by_cases hn : s.length ≤ 100 ∧ t.length = s.length ∧ u.length = s.length
  · obtain ⟨hm, hn1, hn2⟩ := hn
    rw [hn1, hn2]
    exact mstep_core a0 a1 a2 s t u _ cap0 cap1 cap2 x y z w hs ht hu rfl hn1 hn2 hm c1 c2 c3
  · exact mstep_out a0 a1 a2 _ _ _ cap0 cap1 cap2 x y z w (by omega) (by omega) (by omega) hn

end Go.Proofs.Ytcjoljclijkmcaa.Fix
