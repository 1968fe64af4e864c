/- LinesAll: it returns true, and leaves all that was there as it was. -/
import Derived.Test.YtabmlohobbbnbaaRowL
import Derived.Test.YtabmlohobbbnbaaLinMoreMath
namespace Go.Proofs.Ytabmlohobbbnbaa.Fix
open Go.ChangeShapes Go.WideShapes Go.ChangeAt Go.RowKit
set_option linter.unusedVariables false

theorem lall_out (A : Option Addr) (n c : Nat) (room gap : Int) (wrap : Bool) (w : World) (hx : n ≤ 9223372036854775807) (h : 200 < n) :
    Calls Try.prog 4 #[.slice A n c, .int .i64 room, .int .i64 gap, .bool wrap] w fun e w' => e = .returned (.bool true) ∧ Below w.heap.size w w' := by
  go_enter Try.func4, Try.ntmps4
  go_wp2_with (go_at_call 9; with_reducible refine (lworks_any _).mono ?_; rintro e w1 ⟨rfl, hB⟩)
  go_ret
  exact ⟨rfl, hB⟩

theorem drop_tail {room gap : Int} {wrap : Bool} {l : List Int} {L : List (Nat × Nat)} {k at_ : Nat} (h : L.drop k = Li.tail room gap wrap l at_) (hk : k < L.length) : at_ < l.length ∧ L[k] = (at_, Li.stop room gap wrap l at_) ∧ L.drop (k + 1) = Li.tail room gap wrap l (Li.stop room gap wrap l at_) := by
  have h0 : at_ < l.length := by
    rcases Nat.lt_or_ge at_ l.length with h1 | h1
    · exact h1
    · rw [Li.tail_end _ _ _ _ h1] at h
      have := congrArg List.length h
      rw [List.length_drop] at this
      simp at this
      omega
  rw [Li.tail_step _ _ _ _ h0, List.drop_eq_getElem_cons hk] at h
  injection h with h1 h2
  exact ⟨h0, h1, h2⟩

theorem tail_done {room gap : Int} {wrap : Bool} {l : List Int} {L : List (Nat × Nat)} {k at_ : Nat} (h : L.drop k = Li.tail room gap wrap l at_) (hk : L.length ≤ k) (ha : at_ ≤ l.length) : at_ = l.length := by
  rw [List.drop_eq_nil_of_le hk] at h
  rcases Nat.lt_or_ge at_ l.length with h1 | h1
  · rw [Li.tail_step _ _ _ _ h1] at h; cases h
  · omega

set_option maxRecDepth 100000 in
set_option maxHeartbeats 4000000 in
theorem lall_plain (A : Option Addr) (l : List Int) (n c : Nat) (room gap : Int) (w : World) (hI : Ints w A l) (hl : l.length = n) (hc : n ≤ c) (hn : n ≤ 200) :
    Calls Try.prog 4 #[.slice A n c, .int .i64 room, .int .i64 gap, .bool false] w fun e w' => e = .returned (.bool true) ∧ Below w.heap.size w w' := by
  have e0 : decide (200 < (n : Int)) = false := by simp; omega
  have HI := Lib.hid hI
  have HL := Lib.hid hl
  clear hI hl
  obtain ⟨L, hL⟩ : ∃ L, Li.brk room gap false l = L := ⟨_, rfl⟩
  obtain ⟨N, hN⟩ : ∃ N, L.length = N := ⟨_, rfl⟩
  have HBR := Lib.hid hL
  have HN := Lib.hid hN
  have nN : N ≤ 200 := by
    have := Li.brk_length room gap false l
    rw [hL, hN, HL.out] at this; omega
  clear hL hN
  go_enter Try.func4, Try.ntmps4
  go_upto_region 6 with (go_at_call 9; with_reducible refine (lworks_any _).mono ?_; rintro e w1 ⟨rfl, hB⟩)
  have HI1 := Lib.hid (HI.out.after hB)
  go_upto_region 7 with (go_at_call 11; with_reducible refine (lines_any A l n c room gap false _ HI1.out HL.out (by omega) hc).mono ?_; rw [HBR.out, HN.out]; rintro e w2 ⟨⟨A', c', rfl, hp⟩, hb⟩)
  have HI2 := Lib.hid (HI1.out.after hb)
  have HB := Lib.hid (Below.after2 hB (Nat.le_refl _) hb)
  have HP := Lib.hid hp
  clear hp hb hB HI1 e0
  go_wp2
  go_loopw [11, 12, 13, 14, 15] (fun va vk _ _ _ wr => ∃ k p : Nat, k ≤ N ∧ p ≤ n ∧ vk = .int .i64 k ∧ va = .int .i64 p ∧ w2 = wr ∧ Hid (L.drop k = Li.tail room gap false l p)) (fun _ vk _ _ _ _ => N - (intOf vk).toNat)
  case atStart => exact ⟨0, 0, by omega, by omega, rfl, rfl, rfl, Lib.hid (by rw [← HBR.out]; rfl)⟩
  case round =>
    obtain ⟨k, p, hk, hp, rfl, rfl, rfl, HT⟩ := hrel
    by_cases hlt : k < N
    · have hltz : (k : Int) < (N : Int) := by omega
      obtain ⟨t1, t2, t3⟩ := drop_tail HT.out (by rw [HN.out]; exact hlt)
      rw [HL.out] at t1
      obtain ⟨s, hs⟩ : ∃ s, s = Li.stop room gap false l p := ⟨_, rfl⟩
      rw [← hs] at t2 t3
      obtain ⟨b, hA, lb, hcell⟩ := HP.out (by rw [HN.out]; omega)
      obtain ⟨c1, c2⟩ := hcell k (by rw [HN.out]; exact hlt)
      rw [t2] at c1 c2
      simp only at c1 c2
      subst hA
      have ps : p < s := by rw [hs]; exact Li.stop_gt _ _ _ _ _
      have sn : s ≤ n := by rw [hs, ← HL.out]; exact Li.stop_le _ _ _ _ (by rw [HL.out]; exact t1)
      have HT3 := Lib.hid t3
      obtain ⟨q, q1, q2⟩ : ∃ q, q + p ≤ s ∧ s ≤ q + p := ⟨s - p, by omega, by omega⟩
      have hq : Li.IsCnt room gap false (l.drop p) q := by
        have h1 := Li.cnt_is room gap false (l.drop p)
        have h2 : q = Li.cnt room gap false (l.drop p) := by
          have : s = p + Li.cnt room gap false (l.drop p) := hs
          omega
        rw [h2]; exact h1
      have q64 := (hq.le (by rw [List.length_drop, HL.out]; omega)).2
      have q0 := hq.one
      have HQ := Lib.hid hq
      have f1 : decide ((s : Int) ≤ (p : Int)) = false := by simp; omega
      have f2 : decide ((n : Int) < (s : Int)) = false := by simp; omega
      have w3 : IntKind.i64.wrap ((s : Int) - (p : Int)) = (q : Int) := by rw [IntWalk.i64_in _ (by omega)]; omega
      have f3 : decide ((64 : Int) < (q : Int)) = false := by simp; omega
      have w4 : IntKind.i64.wrap ((s : Int) + 1) = ((s + 1 : Nat) : Int) := by rw [IntWalk.i64_in _ (by omega)]; omega
      clear hs t2 t3 hcell hq HT
      by_cases x1 : s < n
      · have x1z : (s : Int) < (n : Int) := by omega
        have x1d : decide ((s : Int) < (n : Int)) = true := decide_eq_true x1z
        by_cases x2 : q < 64
        · have x2z : (q : Int) < 64 := by omega
          have x2d : decide ((q : Int) < 64) = true := decide_eq_true x2z
          exfalso
          have h := HQ.out.end_
          have : Li.goes room gap false (l.drop p) q = true := Li.goes_iff.2 ⟨by rw [List.length_drop, HL.out]; omega, x2, fun e => by cases e⟩
          rw [h] at this
          cases this
        · have x2z : ¬ (q : Int) < 64 := by omega
          have x2d : decide ((q : Int) < 64) = false := decide_eq_false x2z
          go_wp2
          go_roundw
          case rel => exact ⟨k + 1, s, by omega, sn, by go_num, rfl, trivial, HT3⟩
          case measure => simp [intOf]; omega
      · have x1z : ¬ (s : Int) < (n : Int) := by omega
        have x1d : decide ((s : Int) < (n : Int)) = false := decide_eq_false x1z
        go_wp2
        go_roundw
        case rel => exact ⟨k + 1, s, by omega, sn, by go_num, rfl, trivial, HT3⟩
        case measure => simp [intOf]; omega
    · have hltz : ¬ (k : Int) < (N : Int) := by omega
      have he := tail_done HT.out (by rw [HN.out]; omega) (by rw [HL.out]; exact hp)
      rw [HL.out] at he
      have HE := Lib.hid he
      subst he
      go_wp2
      go_ret
      exact ⟨ret_bool (by simp), HB.out⟩

set_option maxRecDepth 100000 in
set_option maxHeartbeats 4000000 in
theorem lall_wraps (A : Option Addr) (l : List Int) (n c : Nat) (room gap : Int) (w : World) (hI : Ints w A l) (hl : l.length = n) (hc : n ≤ c) (hn : n ≤ 200) :
    Calls Try.prog 4 #[.slice A n c, .int .i64 room, .int .i64 gap, .bool true] w fun e w' => e = .returned (.bool true) ∧ Below w.heap.size w w' := by
  have e0 : decide (200 < (n : Int)) = false := by simp; omega
  have HI := Lib.hid hI
  have HL := Lib.hid hl
  clear hI hl
  obtain ⟨L, hL⟩ : ∃ L, Li.brk room gap true l = L := ⟨_, rfl⟩
  obtain ⟨N, hN⟩ : ∃ N, L.length = N := ⟨_, rfl⟩
  have HBR := Lib.hid hL
  have HN := Lib.hid hN
  have nN : N ≤ 200 := by
    have := Li.brk_length room gap true l
    rw [hL, hN, HL.out] at this; omega
  clear hL hN
  go_enter Try.func4, Try.ntmps4
  go_upto_region 6 with (go_at_call 9; with_reducible refine (lworks_any _).mono ?_; rintro e w1 ⟨rfl, hB⟩)
  have HI1 := Lib.hid (HI.out.after hB)
  go_upto_region 7 with (go_at_call 11; with_reducible refine (lines_any A l n c room gap true _ HI1.out HL.out (by omega) hc).mono ?_; rw [HBR.out, HN.out]; rintro e w2 ⟨⟨A', c', rfl, hp⟩, hb⟩)
  have HI2 := Lib.hid (HI1.out.after hb)
  have HB := Lib.hid (Below.after2 hB (Nat.le_refl _) hb)
  have HP := Lib.hid hp
  clear hp hb hB HI1 e0
  go_wp2
  go_loopw [11, 12, 13, 14, 15] (fun va vk _ _ _ wr => ∃ k p : Nat, k ≤ N ∧ p ≤ n ∧ vk = .int .i64 k ∧ va = .int .i64 p ∧ w2 = wr ∧ Hid (L.drop k = Li.tail room gap true l p)) (fun _ vk _ _ _ _ => N - (intOf vk).toNat)
  case atStart => exact ⟨0, 0, by omega, by omega, rfl, rfl, rfl, Lib.hid (by rw [← HBR.out]; rfl)⟩
  case round =>
    obtain ⟨k, p, hk, hp, rfl, rfl, rfl, HT⟩ := hrel
    by_cases hlt : k < N
    · have hltz : (k : Int) < (N : Int) := by omega
      obtain ⟨t1, t2, t3⟩ := drop_tail HT.out (by rw [HN.out]; exact hlt)
      rw [HL.out] at t1
      obtain ⟨s, hs⟩ : ∃ s, s = Li.stop room gap true l p := ⟨_, rfl⟩
      rw [← hs] at t2 t3
      obtain ⟨b, hA, lb, hcell⟩ := HP.out (by rw [HN.out]; omega)
      obtain ⟨c1, c2⟩ := hcell k (by rw [HN.out]; exact hlt)
      rw [t2] at c1 c2
      simp only at c1 c2
      subst hA
      have ps : p < s := by rw [hs]; exact Li.stop_gt _ _ _ _ _
      have sn : s ≤ n := by rw [hs, ← HL.out]; exact Li.stop_le _ _ _ _ (by rw [HL.out]; exact t1)
      have HT3 := Lib.hid t3
      obtain ⟨q, q1, q2⟩ : ∃ q, q + p ≤ s ∧ s ≤ q + p := ⟨s - p, by omega, by omega⟩
      have hq : Li.IsCnt room gap true (l.drop p) q := by
        have h1 := Li.cnt_is room gap true (l.drop p)
        have h2 : q = Li.cnt room gap true (l.drop p) := by
          have : s = p + Li.cnt room gap true (l.drop p) := hs
          omega
        rw [h2]; exact h1
      have q64 := (hq.le (by rw [List.length_drop, HL.out]; omega)).2
      have q0 := hq.one
      have HQ := Lib.hid hq
      have f1 : decide ((s : Int) ≤ (p : Int)) = false := by simp; omega
      have f2 : decide ((n : Int) < (s : Int)) = false := by simp; omega
      have w3 : IntKind.i64.wrap ((s : Int) - (p : Int)) = (q : Int) := by rw [IntWalk.i64_in _ (by omega)]; omega
      have f3 : decide ((64 : Int) < (q : Int)) = false := by simp; omega
      have w4 : IntKind.i64.wrap ((s : Int) + 1) = ((s + 1 : Nat) : Int) := by rw [IntWalk.i64_in _ (by omega)]; omega
      clear hs t2 t3 hcell hq HT
      obtain ⟨s1, s11, s12⟩ : ∃ s1, s1 ≤ s + 1 ∧ s + 1 ≤ s1 := ⟨s + 1, by omega, by omega⟩
      have w5 : IntKind.i64.wrap ((s : Int) + 1) = (s1 : Int) := by rw [IntWalk.i64_in _ (by omega)]; omega
      clear w4
      have hcp : ¬ c = p := by omega
      have psz : (p : Int) ≤ (s : Int) := by omega
      have scz : (s : Int) ≤ (c : Int) := by omega
      obtain ⟨b0, o0, hA0, _, _⟩ := HI2.out.at_ (k := p) (by rw [HL.out]; exact t1)
      subst hA0
      have hmap : (some (⟨b0, o0, none⟩ : Addr)).map (·.add (p * 1)) = some ⟨b0, o0 + p, none⟩ := by simp [addr_add]
      have I1 := HI2.out.mid p s c (by omega) (by rw [HL.out]; exact sn) (by rw [HL.out]; exact hc)
      rw [show s - p = q by omega, if_neg hcp, hmap] at I1
      have HI3 := Lib.hid I1
      have HL3 : Hid (((l.drop p).take q).length = s - p) := Lib.hid (by rw [List.length_take, List.length_drop, HL.out]; omega)
      have HMP := Lib.hid hmap
      clear I1 hmap
      obtain ⟨z, hz⟩ : ∃ z, Li.long gap ((l.drop p).take q) = z := ⟨_, rfl⟩
      have HZ := Lib.hid hz
      clear hz
      by_cases x0 : 1 < q
      · have x0z : (1 : Int) < (q : Int) := by omega
        have x0d : decide ((1 : Int) < (q : Int)) = true := decide_eq_true x0z
        have hzr : z ≤ room := by
          have h := (Li.goes_iff.1 (HQ.out.all (q - 1) (by omega) (by omega))).2.2 rfl
          rw [show q - 1 + 1 = q by omega, HZ.out] at h; exact h
        have hzd : decide (room < z) = false := by simp; omega
        by_cases x1 : s < n
        · have x1z : (s : Int) < (n : Int) := by omega
          have x1d : decide ((s : Int) < (n : Int)) = true := decide_eq_true x1z
          by_cases x2 : q < 64
          · have x2z : (q : Int) < 64 := by omega
            have x2d : decide ((q : Int) < 64) = true := decide_eq_true x2z
            have hy : ¬ Li.long gap ((l.drop p).take (q + 1)) ≤ room := by
              intro hle
              have h := HQ.out.end_
              have : Li.goes room gap true (l.drop p) q = true := Li.goes_iff.2 ⟨by rw [List.length_drop, HL.out]; omega, x2, fun _ => hle⟩
              rw [h] at this
              cases this
            obtain ⟨y, hy2⟩ : ∃ y, Li.long gap ((l.drop p).take (q + 1)) = y := ⟨_, rfl⟩
            rw [hy2] at hy
            have hyd : decide (y ≤ room) = false := decide_eq_false hy
            have HY := Lib.hid hy2
            clear hy2
            have ps1z : (p : Int) ≤ (s1 : Int) := by omega
            have s1cz : (s1 : Int) ≤ (c : Int) := by omega
            have I2 := HI2.out.mid p s1 c (by omega) (by rw [HL.out]; omega) (by rw [HL.out]; exact hc)
            rw [show s1 - p = q + 1 by omega, if_neg hcp, HMP.out] at I2
            have HI4 := Lib.hid I2
            have HL4 : Hid (((l.drop p).take (q + 1)).length = s1 - p) := Lib.hid (by rw [List.length_take, List.length_drop, HL.out]; omega)
            clear I2
            go_upto_region 17 with (go_at_call 13; with_reducible refine (long_any (some ⟨b0, o0 + p, none⟩) ((l.drop p).take q) (s - p) (c - p) gap _ HI3.out HL3.out (by omega) (by omega)).mono ?_; rw [HZ.out]; rintro e w' ⟨rfl, rfl⟩)
            go_wp2_with (go_at_call 13; with_reducible refine (long_any (some ⟨b0, o0 + p, none⟩) ((l.drop p).take (q + 1)) (s1 - p) (c - p) gap _ HI4.out HL4.out (by omega) (by omega)).mono ?_; rw [HY.out]; rintro e w' ⟨rfl, rfl⟩)
            go_roundw
            case rel => exact ⟨k + 1, s, by omega, sn, by go_num, rfl, trivial, HT3⟩
            case measure => simp [intOf]; omega
          · have x2z : ¬ (q : Int) < 64 := by omega
            have x2d : decide ((q : Int) < 64) = false := decide_eq_false x2z
            go_upto_region 17 with (go_at_call 13; with_reducible refine (long_any (some ⟨b0, o0 + p, none⟩) ((l.drop p).take q) (s - p) (c - p) gap _ HI3.out HL3.out (by omega) (by omega)).mono ?_; rw [HZ.out]; rintro e w' ⟨rfl, rfl⟩)
            go_wp2
            go_roundw
            case rel => exact ⟨k + 1, s, by omega, sn, by go_num, rfl, trivial, HT3⟩
            case measure => simp [intOf]; omega
        · have x1z : ¬ (s : Int) < (n : Int) := by omega
          have x1d : decide ((s : Int) < (n : Int)) = false := decide_eq_false x1z
          go_upto_region 17 with (go_at_call 13; with_reducible refine (long_any (some ⟨b0, o0 + p, none⟩) ((l.drop p).take q) (s - p) (c - p) gap _ HI3.out HL3.out (by omega) (by omega)).mono ?_; rw [HZ.out]; rintro e w' ⟨rfl, rfl⟩)
          go_wp2
          go_roundw
          case rel => exact ⟨k + 1, s, by omega, sn, by go_num, rfl, trivial, HT3⟩
          case measure => simp [intOf]; omega
      · have x0z : ¬ (1 : Int) < (q : Int) := by omega
        have x0d : decide ((1 : Int) < (q : Int)) = false := decide_eq_false x0z
        by_cases x1 : s < n
        · have x1z : (s : Int) < (n : Int) := by omega
          have x1d : decide ((s : Int) < (n : Int)) = true := decide_eq_true x1z
          by_cases x2 : q < 64
          · have x2z : (q : Int) < 64 := by omega
            have x2d : decide ((q : Int) < 64) = true := decide_eq_true x2z
            have hy : ¬ Li.long gap ((l.drop p).take (q + 1)) ≤ room := by
              intro hle
              have h := HQ.out.end_
              have : Li.goes room gap true (l.drop p) q = true := Li.goes_iff.2 ⟨by rw [List.length_drop, HL.out]; omega, x2, fun _ => hle⟩
              rw [h] at this
              cases this
            obtain ⟨y, hy2⟩ : ∃ y, Li.long gap ((l.drop p).take (q + 1)) = y := ⟨_, rfl⟩
            rw [hy2] at hy
            have hyd : decide (y ≤ room) = false := decide_eq_false hy
            have HY := Lib.hid hy2
            clear hy2
            have ps1z : (p : Int) ≤ (s1 : Int) := by omega
            have s1cz : (s1 : Int) ≤ (c : Int) := by omega
            have I2 := HI2.out.mid p s1 c (by omega) (by rw [HL.out]; omega) (by rw [HL.out]; exact hc)
            rw [show s1 - p = q + 1 by omega, if_neg hcp, HMP.out] at I2
            have HI4 := Lib.hid I2
            have HL4 : Hid (((l.drop p).take (q + 1)).length = s1 - p) := Lib.hid (by rw [List.length_take, List.length_drop, HL.out]; omega)
            clear I2
            go_upto_region 17 with (fail)
            go_wp2_with (go_at_call 13; with_reducible refine (long_any (some ⟨b0, o0 + p, none⟩) ((l.drop p).take (q + 1)) (s1 - p) (c - p) gap _ HI4.out HL4.out (by omega) (by omega)).mono ?_; rw [HY.out]; rintro e w' ⟨rfl, rfl⟩)
            go_roundw
            case rel => exact ⟨k + 1, s, by omega, sn, by go_num, rfl, trivial, HT3⟩
            case measure => simp [intOf]; omega
          · have x2z : ¬ (q : Int) < 64 := by omega
            have x2d : decide ((q : Int) < 64) = false := decide_eq_false x2z
            exfalso
            omega
        · have x1z : ¬ (s : Int) < (n : Int) := by omega
          have x1d : decide ((s : Int) < (n : Int)) = false := decide_eq_false x1z
          go_wp2
          go_roundw
          case rel => exact ⟨k + 1, s, by omega, sn, by go_num, rfl, trivial, HT3⟩
          case measure => simp [intOf]; omega
    · have hltz : ¬ (k : Int) < (N : Int) := by omega
      have he := tail_done HT.out (by rw [HN.out]; omega) (by rw [HL.out]; exact hp)
      rw [HL.out] at he
      have HE := Lib.hid he
      subst he
      go_wp2
      go_ret
      exact ⟨ret_bool (by simp), HB.out⟩

theorem lall_walk (a0 : Option Addr) (len0 cap0 : Nat) (z0 : List Int) (room gap : Int) (wrap : Bool) (w : World) (h0 : Row w a0 len0 cap0 z0) :
    Calls Try.prog 4 #[.slice a0 len0 cap0, .int .i64 room, .int .i64 gap, .bool wrap] w fun e w' => e = .returned (.bool true) ∧ Below w.heap.size w w' := by
  have k0 := h0.cap
  obtain ⟨s, rfl, hs, _, _, c0⟩ := ints_of_row h0
  have m1 := hs.1
  simp only [maxLen] at m1
  generalize hn : s.length = n at *
  by_cases hm : 200 < n
  · exact lall_out a0 n cap0 room gap wrap w (by omega) hm
  · cases wrap
    · exact lall_plain a0 s n cap0 room gap w hs hn k0 (by omega)
    · exact lall_wraps a0 s n cap0 room gap w hs hn k0 (by omega)

end Go.Proofs.Ytabmlohobbbnbaa.Fix
