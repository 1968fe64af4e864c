/- LinesAgain: it returns true, and leaves all that was there as it was. -/
import Derived.Test.YtabmlohobbbnbaaLinLong
import Derived.Test.YtabmlohobbbnbaaLinAgainMath
import Derived.Deep.RegionWith
namespace Go.Proofs.Ytabmlohobbbnbaa.Fix
open Go.ChangeShapes Go.WideShapes Go.ChangeAt Go.RowKit
set_option linter.unusedVariables false

theorem drop_tail {room gap : Int} {wrap : Bool} {l : List Int} {L : List (Nat × Nat)} {k at_ : Nat} (h : L.drop k = Li.tail room gap wrap l at_) (hk : k < L.length) : at_ < l.length ∧ L[k] = (at_, Li.stop room gap wrap l at_) ∧ L.drop (k + 1) = Li.tail room gap wrap l (Li.stop room gap wrap l at_) := by
  have h0 : at_ < l.length := by
    rcases Nat.lt_or_ge at_ l.length with h1 | h1
    · exact h1
    · rw [Li.tail_end _ _ _ _ h1] at h
      have := congrArg List.length h
      rw [List.length_drop] at this
      simp at this
      omega
  rw [Li.tail_step _ _ _ _ h0, List.drop_eq_getElem_cons hk] at h
  injection h with h1 h2
  exact ⟨h0, h1, h2⟩

theorem lagain_out (A B : Option Addr) (n m c d : Nat) (room gap : Int) (wrap : Bool) (w : World) (hx : n ≤ 9223372036854775807) (hy : m ≤ 9223372036854775807) (h : 60 < n ∨ 60 < m) :
    Calls Try.prog 8 #[.slice A n c, .slice B m d, .int .i64 room, .int .i64 gap, .bool wrap] w fun e w' => e = .returned (.bool true) ∧ Below w.heap.size w w' := by
  by_cases h1 : 60 < n
  · go_enter Try.func8, Try.ntmps8
    go_wp2_with (go_at_call 9; with_reducible refine (lworks_any _).mono ?_; rintro e w1 ⟨rfl, hB⟩)
    go_ret
    exact ⟨rfl, hB⟩
  · have e1 : decide (60 < (n : Int)) = false := by simp; omega
    have h2 : 60 < m := by omega
    clear h
    go_enter Try.func8, Try.ntmps8
    go_wp2_with (go_at_call 9; with_reducible refine (lworks_any _).mono ?_; rintro e w1 ⟨rfl, hB⟩)
    go_ret
    exact ⟨rfl, hB⟩

set_option maxRecDepth 100000 in
set_option maxHeartbeats 4000000 in
theorem lagain_core (A B : Option Addr) (l r : List Int) (n m c d : Nat) (room gap : Int) (wrap : Bool) (w : World) (hA : Ints w A l) (hB : Ints w B r) (la : l.length = n) (lb : r.length = m) (hc : n ≤ c) (hd : m ≤ d) (zc : A = none → c = 0) (zd : B = none → d = 0) (hn : n ≤ 60) (hm : m ≤ 60) :
    Calls Try.prog 8 #[.slice A n c, .slice B m d, .int .i64 room, .int .i64 gap, .bool wrap] w fun e w' => e = .returned (.bool true) ∧ Below w.heap.size w w' := by
  have e1 : decide (60 < (n : Int)) = false := by simp; omega
  have e2 : decide (60 < (m : Int)) = false := by simp; omega
  have HA := Lib.hid hA
  have HB := Lib.hid hB
  have HL := Lib.hid la
  have HM := Lib.hid lb
  have HZ := Lib.hid zc
  have HD := Lib.hid zd
  clear hA hB la lb zc zd
  obtain ⟨L, hL⟩ : ∃ L, Li.brk room gap wrap l = L := ⟨_, rfl⟩
  obtain ⟨N, hN⟩ : ∃ N, L.length = N := ⟨_, rfl⟩
  have HBR := Lib.hid hL
  have HN := Lib.hid hN
  have nN : N ≤ 60 := by
    have := Li.brk_length room gap wrap l
    rw [hL, hN, HL.out] at this; omega
  clear hL hN
  go_enter Try.func8, Try.ntmps8
  go_upto_region 6 with (go_at_call 9; with_reducible refine (lworks_any _).mono ?_; rintro e w1 ⟨rfl, hB⟩)
  have HA1 := Lib.hid (HA.out.after hB)
  go_upto_region 7 with (go_at_call 11; with_reducible refine (lines_any A l n c room gap wrap _ HA1.out HL.out (by omega) hc).mono ?_; rw [HBR.out, HN.out]; rintro e w2 ⟨⟨A', c', rfl, hp⟩, hb⟩)
  have HA2 := Lib.hid (HA1.out.after hb)
  have HB2 := Lib.hid (Below.after2 hB (Nat.le_refl _) hb)
  have HP := Lib.hid hp
  clear hp hb hB HA1 e1 e2
  go_wp2
  go_loopw [13] (fun vk wr => ∃ k p : Nat, k ≤ N ∧ p ≤ n ∧ vk = .int .i64 k ∧ Below w2.heap.size w2 wr ∧ Hid (L.drop k = Li.tail room gap wrap l p)) (fun vk _ => N - (intOf vk).toNat)
  case atStart => exact ⟨0, 0, by omega, by omega, rfl, Below.refl _ _, Lib.hid (by rw [← HBR.out]; rfl)⟩
  case round =>
    obtain ⟨k, p, hk, hp, rfl, hW, HT⟩ := hrel
    by_cases hlt : k < N
    · have hltz : (k : Int) < (N : Int) := by omega
      obtain ⟨t1, t2, t3⟩ := drop_tail HT.out (by rw [HN.out]; exact hlt)
      rw [HL.out] at t1
      obtain ⟨s, hs⟩ : ∃ s, s = Li.stop room gap wrap l p := ⟨_, rfl⟩
      rw [← hs] at t2 t3
      obtain ⟨b, hA, lb, hcell⟩ := (HP.out.after hW) (by rw [HN.out]; omega)
      obtain ⟨c1, c2⟩ := hcell k (by rw [HN.out]; exact hlt)
      rw [t2] at c1 c2
      simp only at c1 c2
      subst hA
      have ps : p < s := by rw [hs]; exact Li.stop_gt _ _ _ _ _
      have sn : s ≤ n := by rw [hs, ← HL.out]; exact Li.stop_le _ _ _ _ (by rw [HL.out]; exact t1)
      have HT3 := Lib.hid t3
      obtain ⟨q, q1, q2⟩ : ∃ q, q + p ≤ s ∧ s ≤ q + p := ⟨s - p, by omega, by omega⟩
      have hq : Li.IsCnt room gap wrap (l.drop p) q := by
        have h1 := Li.cnt_is room gap wrap (l.drop p)
        have h2 : q = Li.cnt room gap wrap (l.drop p) := by
          have : s = p + Li.cnt room gap wrap (l.drop p) := hs
          omega
        rw [h2]; exact h1
      have HO : Hid ((Li.brk room gap wrap ((l.drop p).take q)).length = 1) := Lib.hid (Li.brk_take hq (by rw [List.length_drop, HL.out]; omega))
      have I1 := (HA2.out.after hW).mid p s c (by omega) (by rw [HL.out]; exact sn) (by rw [HL.out]; exact hc)
      rw [show s - p = q by omega] at I1
      have HL3 : Hid (((l.drop p).take q).length = q) := Lib.hid (by rw [List.length_take, List.length_drop, HL.out]; omega)
      have hcp : ¬ c = p := by omega
      rw [if_neg hcp] at I1
      obtain ⟨b0, o0, hA0, _, _⟩ := (HA2.out).at_ (k := p) (by rw [HL.out]; exact t1)
      subst hA0
      have hmap : (some (⟨b0, o0, none⟩ : Addr)).map (·.add (p * 1)) = some ⟨b0, o0 + p, none⟩ := by simp [addr_add]
      rw [hmap] at I1
      have HI3 := Lib.hid I1
      have HL4 : Hid (((l.drop p).take q).length = s - p) := Lib.hid (by rw [HL3.out]; omega)
      clear hs t2 t3 hcell hq HT I1 hmap HL3
      go_upto_region 10 with (fail)
      go_region_with (go_at_call 11; refine (lines_any (some ⟨b0, o0 + p, none⟩) ((l.drop p).take q) (s - p) (c - p) room gap wrap wr.drew HI3.out HL4.out (by omega) (by omega)).mono ?_; rw [HO.out]; rintro e w3 ⟨⟨A', c', rfl, hp⟩, hb⟩)
      all_goals
        have hW2 : Below w2.heap.size w2 w3 := Below.after2 (W := wr.drew) hW.drew (Nat.le_refl _) hb
        clear hp hb hW c1 c2 lb
        go_wp2
        go_roundw
        case rel => exact ⟨k + 1, s, by omega, sn, by go_num, hW2, HT3⟩
        case measure => simp [intOf]; omega
    · have hltz : ¬ (k : Int) < (N : Int) := by omega
      have hBd := Below.after2 HB2.out (Nat.le_refl _) hW
      have A3 := HA2.out.after hW
      have B3 := HB.out.after hBd
      have HP3 := Lib.hid (HP.out.after hW)
      obtain ⟨x1, wa, r1, o1, b1, s1⟩ := append_ints (xs := []) (World.ownsRow_nil _ _ _ _) (Below.refl wr.heap.size wr) (Nat.le_refl _) A3 (m := n) HL.out HZ.out (by omega)
      obtain ⟨x2, wb, r2, o2, b2, s2⟩ := append_ints o1 b1 s1 (B3.after b1) (m := m) HM.out HD.out (by omega)
      obtain ⟨P, pc, rfl, hP, hpc, hpl⟩ := ints_own o2 (by simp only [maxLen]; omega)
      have hBb := Below.after2 hBd (Nat.le_refl _) b2
      have HP4 := Lib.hid (HP3.out.after b2)
      simp only [List.nil_append] at *
      have R1 := Lib.hid r1
      have R2 := Lib.hid r2
      generalize hQ : 0 + n + m = Q at *
      have HPI := Lib.hid hP
      have HPL := Lib.hid hpl
      have HBB := Lib.hid hBb
      have q1 : Q ≤ 120 := by omega
      obtain ⟨M, hM⟩ : ∃ M, Li.brk room gap wrap (l ++ r) = M := ⟨_, rfl⟩
      obtain ⟨K, hK⟩ : ∃ K, M.length = K := ⟨_, rfl⟩
      have HMR := Lib.hid hM
      have HK := Lib.hid hK
      have NK : N ≤ K := by
        have := Li.brk_append room gap wrap l r
        rw [HBR.out, hM, HN.out, hK] at this; exact this
      have nK : K ≤ 120 := by
        have := Li.brk_length room gap wrap (l ++ r)
        rw [hM, hK, hpl] at this; omega
      have x0 : decide ((K : Int) < (N : Int)) = false := by simp; omega
      clear r1 r2 o1 o2 b1 b2 s1 s2 hP hpl hBb hBd A3 B3 hW HT hQ hM hK hlt
      go_upto_region 14 with (first | (at_builtin; refine wpList_append_run (by rfl) _ _ 22 rfl rfl rfl R1.out ?_) | (at_builtin; refine wpList_append_run (by rfl) _ _ 22 rfl rfl rfl R2.out ?_))
      go_upto_region 15 with (go_at_call 11; with_reducible refine (lines_any P (l ++ r) Q pc room gap wrap _ HPI.out HPL.out (by omega) hpc).mono ?_; rw [HMR.out, HK.out]; rintro e w4 ⟨⟨A4, c4, rfl, hp4⟩, hb4⟩)
      have HP5 := Lib.hid (HP4.out.after hb4)
      have HM5 := Lib.hid hp4
      have HB5 := Lib.hid (Below.after2 HBB.out (Nat.le_refl _) hb4)
      clear hp4 hb4
      go_wp2
      go_loopw [16] (fun vk wr => ∃ k p : Nat, k ≤ N ∧ (k + 1 ≤ N ∨ N = 0) ∧ p ≤ n ∧ vk = .int .i64 k ∧ Below w4.heap.size w4 wr ∧ Hid (L.drop k = Li.tail room gap wrap l p ∧ M.drop k = Li.tail room gap wrap (l ++ r) p)) (fun vk _ => N - (intOf vk).toNat)
      case atStart => exact ⟨0, 0, by omega, by omega, by omega, rfl, Below.refl _ _, Lib.hid ⟨by rw [← HBR.out]; rfl, by rw [← HMR.out]; rfl⟩⟩
      case round =>
        obtain ⟨k, p, hk, hkN, hp, rfl, hW, HT⟩ := hrel
        obtain ⟨k1, k11, k12⟩ : ∃ k1, k1 ≤ k + 1 ∧ k + 1 ≤ k1 := ⟨k + 1, by omega, by omega⟩
        have w1 : IntKind.i64.wrap ((k : Int) + 1) = (k1 : Int) := by rw [IntWalk.i64_in _ (by omega)]; omega
        by_cases hlt : k1 < N
        · have hltz : (k1 : Int) < (N : Int) := by omega
          obtain ⟨t1, t2, t3⟩ := drop_tail HT.out.1 (by rw [HN.out]; omega)
          obtain ⟨t4, t5, t6⟩ := drop_tail HT.out.2 (by rw [HK.out]; omega)
          have t7 := drop_tail t3 (by rw [HN.out]; omega)
          rw [Li.stop_append l r t1 t7.1] at t5 t6
          obtain ⟨s, hs⟩ : ∃ s, s = Li.stop room gap wrap l p := ⟨_, rfl⟩
          rw [← hs] at t2 t3 t5 t6 t7
          have sn : s ≤ n := by rw [← HL.out]; omega
          obtain ⟨b, hA, lb, hcell⟩ := (HP5.out.after hW) (by rw [HN.out]; omega)
          obtain ⟨c1, c2⟩ := hcell k (by rw [HN.out]; omega)
          rw [t2] at c1 c2
          simp only at c1 c2
          obtain ⟨g, hG, lg, hcell2⟩ := (HM5.out.after hW) (by rw [HK.out]; omega)
          obtain ⟨c3, c5⟩ := hcell2 k (by rw [HK.out]; omega)
          rw [t5] at c3 c5
          simp only at c3 c5
          subst hA hG
          have HT3 := Lib.hid t3
          have HT6 := Lib.hid t6
          have kN : (k : Int) < (N : Int) := by omega
          have kK : (k : Int) < (K : Int) := by omega
          have qn := run_neq_two
          clear hs t2 t3 t5 t6 t7 hcell hcell2 HT t1 t4
          go_upto_region 20 with (fail)
          refine Drawn.wp_region_from (Below.refl _ _) (by kernel_rfl) (by kernel_rfl) (by kernel_rfl) ?_
          (repeat (first | (refine Drawn.seq_skip (by rfl) ?_; (try simp only [Act.put, List.setIfInBounds_toArray, List.set_cons_zero, List.set_cons_succ])) | (refine Drawn.seq_call (o := ⟨_, .call ⟨.value _, _, _⟩, _, _, _, _⟩) (by rfl) (by intro w2 hS; go_simp; first | done | with_reducible rfl | exact ⟨rfl, rfl⟩) (by intro w2 hS; first | ((with_reducible refine (nan_any _ _).mono ?_); rintro e w' ⟨rfl, rfl⟩; exact ⟨rfl, hS⟩)) ?_; (try simp only [Act.put, List.setIfInBounds_toArray, List.set_cons_zero, List.set_cons_succ])) | (refine Drawn.seq_value (by rfl) (by intro w2 hS; obtain ⟨hc, hf⟩ := bcell hS; go_simp; first | done | with_reducible rfl | exact ⟨rfl, rfl⟩) ?_; (try simp only [Act.put, List.setIfInBounds_toArray, List.set_cons_zero, List.set_cons_succ]))))
          refine Drawn.seq_end ?_; intro w2 hS
          have hW3 := Below.after2 hW (Nat.le_refl _) hS
          clear hW hS c1 c2 c3 c5 lb lg
          go_wp2
          go_roundw
          case rel => exact ⟨k1, s, by omega, by omega, sn, by go_num, hW3, Lib.hid (by
            obtain rfl : k1 = k + 1 := by omega
            exact ⟨HT3.out, HT6.out⟩)⟩
          case measure => simp [intOf]; omega
        · have hltz : ¬ (k1 : Int) < (N : Int) := by omega
          rcases Nat.eq_zero_or_pos N with h0 | h0
          · have z0 : ((N : Int) == 0) = true := by simp; omega
            have lw4 := hW.size
            go_upto_region 22 with (fail)
            refine Drawn.wp_region_from (Below.refl _ _) (by kernel_rfl) (by kernel_rfl) (by kernel_rfl) ?_
            (repeat (first | (refine Drawn.seq_skip (by rfl) ?_; (try simp only [Act.put, List.setIfInBounds_toArray, List.set_cons_zero, List.set_cons_succ])) | (refine Drawn.seq_call (o := ⟨_, .call ⟨.value _, _, _⟩, _, _, _, _⟩) (by rfl) (by intro w2 hS; go_simp; first | done | with_reducible rfl | exact ⟨rfl, rfl⟩) (by intro w2 hS; first | ((with_reducible refine (nan_any _ _).mono ?_); rintro e w' ⟨rfl, rfl⟩; exact ⟨rfl, hS⟩)) ?_; (try simp only [Act.put, List.setIfInBounds_toArray, List.set_cons_zero, List.set_cons_succ])) | (refine Drawn.seq_value (by rfl) (by intro w2 hS; obtain ⟨hc, hf⟩ := bcell hS; go_simp; first | done | with_reducible rfl | exact ⟨rfl, rfl⟩) ?_; (try simp only [Act.put, List.setIfInBounds_toArray, List.set_cons_zero, List.set_cons_succ]))))
            refine Drawn.seq_end ?_; intro w2 hS
            have hW3 := Below.after2 hW (Nat.le_refl _) hS
            go_wp2
            go_ret
            exact ⟨ret_bool (by simp), Below.after2 HB5.out (Nat.le_refl _) hW3⟩
          · have z0 : ((N : Int) == 0) = false := by simp; omega
            have w6 : IntKind.i64.wrap ((N : Int) - 1) = (k : Int) := by rw [IntWalk.i64_in _ (by omega)]; omega
            obtain ⟨t1, t2, _⟩ := drop_tail HT.out.1 (by rw [HN.out]; omega)
            obtain ⟨t4, t5, _⟩ := drop_tail HT.out.2 (by rw [HK.out]; omega)
            obtain ⟨b, hA, lb, hcell⟩ := (HP5.out.after hW) (by rw [HN.out]; omega)
            obtain ⟨c1, _⟩ := hcell k (by rw [HN.out]; omega)
            rw [t2] at c1
            simp only at c1
            obtain ⟨g, hG, lg, hcell2⟩ := (HM5.out.after hW) (by rw [HK.out]; omega)
            obtain ⟨c3, _⟩ := hcell2 k (by rw [HK.out]; omega)
            rw [t5] at c3
            simp only at c3
            subst hA hG
            have kN : (k : Int) < (N : Int) := by omega
            have kK : (k : Int) < (K : Int) := by omega
            clear t1 t2 t4 t5 hcell hcell2 HT
            go_upto_region 22 with (fail)
            refine Drawn.wp_region_from (Below.refl _ _) (by kernel_rfl) (by kernel_rfl) (by kernel_rfl) ?_
            (repeat (first | (refine Drawn.seq_skip (by rfl) ?_; (try simp only [Act.put, List.setIfInBounds_toArray, List.set_cons_zero, List.set_cons_succ])) | (refine Drawn.seq_call (o := ⟨_, .call ⟨.value _, _, _⟩, _, _, _, _⟩) (by rfl) (by intro w2 hS; go_simp; first | done | with_reducible rfl | exact ⟨rfl, rfl⟩) (by intro w2 hS; first | ((with_reducible refine (nan_any _ _).mono ?_); rintro e w' ⟨rfl, rfl⟩; exact ⟨rfl, hS⟩)) ?_; (try simp only [Act.put, List.setIfInBounds_toArray, List.set_cons_zero, List.set_cons_succ])) | (refine Drawn.seq_value (by rfl) (by intro w2 hS; obtain ⟨hc, hf⟩ := bcell hS; go_simp; first | done | with_reducible rfl | exact ⟨rfl, rfl⟩) ?_; (try simp only [Act.put, List.setIfInBounds_toArray, List.set_cons_zero, List.set_cons_succ]))))
            refine Drawn.seq_end ?_; intro w2 hS
            have hW3 := Below.after2 hW (Nat.le_refl _) hS
            go_wp2
            go_ret
            exact ⟨ret_bool (by simp), Below.after2 HB5.out (Nat.le_refl _) hW3⟩

theorem lagain_walk (a0 : Option Addr) (len0 cap0 : Nat) (z0 : List Int) (a1 : Option Addr) (len1 cap1 : Nat) (z1 : List Int) (room gap : Int) (wrap : Bool) (w : World) (h0 : Row w a0 len0 cap0 z0) (h1 : Row w a1 len1 cap1 z1) :
    Calls Try.prog 8 #[.slice a0 len0 cap0, .slice a1 len1 cap1, .int .i64 room, .int .i64 gap, .bool wrap] w fun e w' => e = .returned (.bool true) ∧ Below w.heap.size w w' := by
  have k0 := h0.cap
  have k1 := h1.cap
  obtain ⟨s, rfl, hs, _, _, c0⟩ := ints_of_row h0
  obtain ⟨t, rfl, ht, _, _, c1⟩ := ints_of_row h1
  have m1 := hs.1
  have m2 := ht.1
  simp only [maxLen] at m1 m2
  by_cases hm : 60 < s.length ∨ 60 < t.length
  · exact lagain_out a0 a1 _ _ cap0 cap1 room gap wrap w (by omega) (by omega) hm
  · exact lagain_core a0 a1 s t _ _ cap0 cap1 room gap wrap w hs ht rfl rfl k0 k1 c0 c1 (by omega) (by omega)

end Go.Proofs.Ytabmlohobbbnbaa.Fix
