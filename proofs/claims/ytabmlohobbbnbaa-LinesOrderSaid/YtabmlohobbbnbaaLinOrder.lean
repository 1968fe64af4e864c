/- LinesOrder: it returns true, and leaves all that was there as it was. -/
import Derived.Test.YtabmlohobbbnbaaRowL
namespace Go.Proofs.Ytabmlohobbbnbaa.Fix
open Go.ChangeShapes Go.WideShapes Go.ChangeAt Go.RowKit
set_option linter.unusedVariables false

theorem lorder_out (A : Option Addr) (n c : Nat) (w : World) (hx : n ≤ 9223372036854775807) (h : 200 < n) :
    Calls Try.prog 5 #[.slice A n c] w fun e w' => e = .returned (.bool true) ∧ Below w.heap.size w w' := by
  go_enter Try.func5, Try.ntmps5
  go_wp2_with (go_at_call 9; with_reducible refine (lworks_any _).mono ?_; rintro e w1 ⟨rfl, hB⟩)
  go_ret
  exact ⟨rfl, hB⟩

set_option maxRecDepth 100000 in
set_option maxHeartbeats 4000000 in
theorem lorder_core (A : Option Addr) (ks : List Int) (n c : Nat) (w : World) (hI : Ints w A ks) (hl : ks.length = n) (hn : n ≤ 200) :
    Calls Try.prog 5 #[.slice A n c] w fun e w' => e = .returned (.bool true) ∧ Below w.heap.size w w' := by
  obtain ⟨i0, hi0, hz0, hz1, hz2⟩ := info_parts boolZero
  have d1 : decide (200 < (n : Int)) = false := by simp; omega
  have HI := Lib.hid hI
  have HL := Lib.hid hl
  clear hI hl
  go_enter Try.func5, Try.ntmps5
  go_upto_region 6 with (go_at_call 9; with_reducible refine (lworks_any _).mono ?_; rintro e w1 ⟨rfl, hB⟩)
  have HI1 := Lib.hid (HI.out.after hB)
  go_upto_region 9 with (go_at_call 16; with_reducible refine (order_any A ks n c _ HI1.out HL.out (by omega)).mono ?_; rintro e w2 ⟨⟨b, X, rfl, lb, hX, hP⟩, hb⟩)
  have HI2 := Lib.hid (HI1.out.after hb)
  have HX := Lib.hid hX
  have HP := Lib.hid hP
  replace hB := Below.after2 hB (Nat.le_refl _) hb
  clear hX hP hb HI1
  obtain ⟨g, hg⟩ : ∃ g, w2.heap.size = g := ⟨_, rfl⟩
  go_upto_region 10 with (at_make; refine wpList_make_row _ rfl _ _ 32 rfl 4 i0 (.bool false) Try.underlying32 hi0 hz0 hz1 rfl .i64 .i64 n rfl rfl (by rw [hz2]; omega) (by omega) ?_)
  generalize hW : World.alloc _ _ = W3
  have hZ : At W3 g (.cells (bRow (fun _ => false) n) 4) := by rw [← hW, ← bRow_made]; exact At.new' _ hg.symm
  have hB3 : Below g w2 W3 := by rw [← hW, ← hg]; exact Below.alloc' (Below.refl _ _) _
  have hB0 : Below w.heap.size w W3 := hB.trans (hB3.mono (by rw [← hg]; exact hB.size))
  have HI3 : Hid (Ints W3 A ks ∧ (0 < ks.length → ∀ x, A = some x → x.block < g)) := Lib.hid ⟨HI2.out.keep hB3 (by rw [← hg]; exact HI2.out.lt), by rw [← hg]; exact HI2.out.lt⟩
  have HP3 : Hid (Ints W3 (some ⟨b, 0, none⟩) (places X n) ∧ (0 < (places X n).length → ∀ x, some (⟨b, 0, none⟩ : Addr) = some x → x.block < g)) := Lib.hid ⟨HP.out.keep hB3 (by rw [← hg]; exact HP.out.lt), by rw [← hg]; exact HP.out.lt⟩
  have HB0 := Lib.hid hB0
  have HWG : Hid (w.heap.size ≤ g) := Lib.hid (by rw [← hg]; exact hB.size)
  clear hW hg hB hB3 hB0 HI2 HP
  go_wp2
  go_loopw [6] (fun vi wr => ∃ (i : Nat) (F : Nat → Bool), i ≤ n ∧ vi = .int .i64 i ∧ At wr g (.cells (bRow F n) 4) ∧ Below g W3 wr ∧ Hid (∀ j, F j = true → ∃ q, q < i ∧ X q = j)) (fun vi _ => n - (intOf vi).toNat)
  case atStart => exact ⟨0, _, by omega, rfl, hZ, Below.refl _ _, Lib.hid (fun j hj => by cases hj)⟩
  case round =>
    clear hZ
    obtain ⟨i, F, hi, rfl, hZ, hB, HF⟩ := hrel
    by_cases hlt : i < n
    · have hltz : (i : Int) < (n : Int) := by omega
      have I1 := HI3.out.1.keep hB HI3.out.2
      have P1 := HP3.out.1.keep hB HP3.out.2
      obtain ⟨b1, o1, hb1, lb1, c1⟩ := P1.at_ (k := i) (by rw [places_length]; exact hlt)
      injection hb1 with hb1
      injection hb1 with hb1 hb2
      subst hb1 hb2
      rw [places_get X hlt] at c1
      obtain ⟨v, hv⟩ : ∃ v, v = X i := ⟨_, rfl⟩
      rw [← hv] at c1
      have vn : v < n := by rw [hv]; exact (HX.out.2.in_ (by omega) hlt).2
      have vnz : (v : Int) < (n : Int) := by omega
      have HV := Lib.hid hv
      clear hv
      simp only [Nat.zero_add] at c1
      have c2 := hZ.cell v
      rw [bRow_get F vn] at c2
      have hFv : F v = false := by
        cases h : F v with
        | false => rfl
        | true =>
          obtain ⟨q, q1, q2⟩ := HF.out v h
          have := HX.out.1 q i (by omega) q1 hlt
          rw [q2, HV.out] at this
          exact (So.lt_irrefl this).elim
      rw [hFv] at c2
      have z2 := hZ.thaw v
      have lg := hZ.lt
      have e1 : decide ((v : Int) < 0) = false := by simp
      have e2 : decide ((n : Int) ≤ (v : Int)) = false := by simp; omega
      go_upto_region 16 with (fail)
      generalize hW : World.setCell _ _ _ = W4
      have hZ2 : At W4 g (.cells (bRow (fun j => if j = v then true else F j) n) 4) := by
        rw [← hW, ← bRow_set]; exact hZ.set v _
      have hB2 : Below g W3 W4 := hW ▸ Below.setCell hB (Nat.le_refl _) _
      have HF2 : Hid (∀ j, (if j = v then true else F j) = true → ∃ q, q < i + 1 ∧ X q = j) := Lib.hid (fun j hj => by
        by_cases e : j = v
        · exact ⟨i, by omega, by rw [e, HV.out]⟩
        · rw [if_neg e] at hj
          obtain ⟨q, q1, q2⟩ := HF.out j hj
          exact ⟨q, by omega, q2⟩)
      clear hW hZ hB c1 c2 z2 lg hFv lb1 e1 e2 HF I1 P1
      have lg2 := hZ2.lt
      have I1 := HI3.out.1.keep hB2 HI3.out.2
      have P1 := HP3.out.1.keep hB2 HP3.out.2
      obtain ⟨b1, o1, hb1, lb1, c1⟩ := P1.at_ (k := i) (by rw [places_length]; exact hlt)
      injection hb1 with hb1
      injection hb1 with hb1 hb2
      subst hb1 hb2
      rw [places_get X hlt, ← HV.out] at c1
      simp only [Nat.zero_add] at c1
      obtain ⟨b2, o2, rfl, lb2, c2⟩ := I1.at_ (k := v) (by rw [HL.out]; exact vn)
      obtain ⟨kv, hkv⟩ : ∃ x, x = ks.getD v 0 := ⟨_, rfl⟩
      rw [← hkv] at c2
      have HKV := Lib.hid hkv
      clear hkv
      rcases Nat.eq_zero_or_pos i with rfl | h0
      · clear I1 P1
        go_upto_region 16 with (fail)
        refine Drawn.wp_region_from (Below.refl _ _) (by kernel_rfl) (by kernel_rfl) (by kernel_rfl) ?_
        (repeat (first | (refine Drawn.seq_skip (by rfl) ?_; (try simp only [Act.put, List.setIfInBounds_toArray, List.set_cons_zero, List.set_cons_succ])) | (refine Drawn.seq_call (o := ⟨_, .call ⟨.value _, _, _⟩, _, _, _, _⟩) (by rfl) (by intro w2 hS; go_simp; first | done | with_reducible rfl | exact ⟨rfl, rfl⟩) (by intro w2 hS; first | ((with_reducible refine (nan_any _ _).mono ?_); rintro e w' ⟨rfl, rfl⟩; exact ⟨rfl, hS⟩)) ?_; (try simp only [Act.put, List.setIfInBounds_toArray, List.set_cons_zero, List.set_cons_succ])) | (refine Drawn.seq_value (by rfl) (by intro w2 hS; obtain ⟨hc, hf⟩ := bcell hS; go_simp; first | done | with_reducible rfl | exact ⟨rfl, rfl⟩) ?_; (try simp only [Act.put, List.setIfInBounds_toArray, List.set_cons_zero, List.set_cons_succ]))))
        refine Drawn.seq_end ?_; intro w2 hS
        clear c1 c2 lb1 lb2
        have hS16 := hS
        clear hS
        have hZ3 := hZ2.keep hS16
        have hB3 := hB2.trans (hS16.mono (Nat.le_of_lt lg2))
        go_wp2
        go_roundw
        case rel => exact ⟨1, _, by omega, by go_num, hZ3, hB3, HF2⟩
        case measure => simp [intOf]; omega
      · have h0z : (0 : Int) < (i : Int) := by omega
        have h0d : decide ((0 : Int) < (i : Int)) = true := decide_eq_true h0z
        obtain ⟨p, p1, p2⟩ : ∃ p, p + 1 ≤ i ∧ i ≤ p + 1 := ⟨i - 1, by omega, by omega⟩
        have w1 : IntKind.i64.wrap ((i : Int) - 1) = (p : Int) := by rw [IntWalk.i64_in _ (by omega)]; omega
        have pn : p < n := by omega
        have pnz : (p : Int) < (n : Int) := by omega
        obtain ⟨b3, o3, hb3, lb3, c3⟩ := P1.at_ (k := p) (by rw [places_length]; exact pn)
        injection hb3 with hb3
        injection hb3 with hb3 hb4
        subst hb3 hb4
        rw [places_get X pn] at c3
        obtain ⟨u, hu⟩ : ∃ u, u = X p := ⟨_, rfl⟩
        rw [← hu] at c3
        simp only [Nat.zero_add] at c3
        have un : u < n := by rw [hu]; exact (HX.out.2.in_ (by omega) pn).2
        have unz : (u : Int) < (n : Int) := by omega
        have hlt2 : So.lt (keyOf ks) u v := by rw [hu, HV.out]; exact HX.out.1 p i (by omega) (by omega) hlt
        have HU := Lib.hid hu
        clear hu
        obtain ⟨b4, o4, hb4, lb4, c4⟩ := I1.at_ (k := u) (by rw [HL.out]; exact un)
        injection hb4 with hb4
        injection hb4 with hb4 hb5
        subst hb4 hb5
        obtain ⟨ku, hku⟩ : ∃ x, x = ks.getD u 0 := ⟨_, rfl⟩
        rw [← hku] at c4
        have HC : ku < kv ∨ (ku = kv ∧ u < v) := by
          rw [hku, HKV.out]; exact hlt2
        clear hku hlt2 I1 P1
        rcases HC with hc | ⟨hc, huv⟩
        · have e1 : decide (kv < ku) = false := by simp; omega
          have e2 : (ku == kv) = false := by simp; omega
          go_upto_region 16 with (fail)
          refine Drawn.wp_region_from (Below.refl _ _) (by kernel_rfl) (by kernel_rfl) (by kernel_rfl) ?_
          (repeat (first | (refine Drawn.seq_skip (by rfl) ?_; (try simp only [Act.put, List.setIfInBounds_toArray, List.set_cons_zero, List.set_cons_succ])) | (refine Drawn.seq_call (o := ⟨_, .call ⟨.value _, _, _⟩, _, _, _, _⟩) (by rfl) (by intro w2 hS; go_simp; first | done | with_reducible rfl | exact ⟨rfl, rfl⟩) (by intro w2 hS; first | ((with_reducible refine (nan_any _ _).mono ?_); rintro e w' ⟨rfl, rfl⟩; exact ⟨rfl, hS⟩)) ?_; (try simp only [Act.put, List.setIfInBounds_toArray, List.set_cons_zero, List.set_cons_succ])) | (refine Drawn.seq_value (by rfl) (by intro w2 hS; obtain ⟨hc, hf⟩ := bcell hS; go_simp; first | done | with_reducible rfl | exact ⟨rfl, rfl⟩) ?_; (try simp only [Act.put, List.setIfInBounds_toArray, List.set_cons_zero, List.set_cons_succ]))))
          refine Drawn.seq_end ?_; intro w2 hS
          clear c1 c2 c3 c4 lb1 lb2 lb3 lb4
          have hS16 := hS
          clear hS
          have hZ3 := hZ2.keep hS16
          have hB3 := hB2.trans (hS16.mono (Nat.le_of_lt lg2))
          go_wp2
          go_roundw
          case rel => exact ⟨i + 1, _, by omega, by go_num, hZ3, hB3, HF2⟩
          case measure => simp [intOf]; omega
        · subst hc
          have e1 : decide (ku < ku) = false := by simp
          have e3 : decide ((v : Int) < (u : Int)) = false := by simp; omega
          go_upto_region 16 with (fail)
          refine Drawn.wp_region_from (Below.refl _ _) (by kernel_rfl) (by kernel_rfl) (by kernel_rfl) ?_
          (repeat (first | (refine Drawn.seq_skip (by rfl) ?_; (try simp only [Act.put, List.setIfInBounds_toArray, List.set_cons_zero, List.set_cons_succ])) | (refine Drawn.seq_call (o := ⟨_, .call ⟨.value _, _, _⟩, _, _, _, _⟩) (by rfl) (by intro w2 hS; go_simp; first | done | with_reducible rfl | exact ⟨rfl, rfl⟩) (by intro w2 hS; first | ((with_reducible refine (nan_any _ _).mono ?_); rintro e w' ⟨rfl, rfl⟩; exact ⟨rfl, hS⟩)) ?_; (try simp only [Act.put, List.setIfInBounds_toArray, List.set_cons_zero, List.set_cons_succ])) | (refine Drawn.seq_value (by rfl) (by intro w2 hS; obtain ⟨hc, hf⟩ := bcell hS; go_simp; first | done | with_reducible rfl | exact ⟨rfl, rfl⟩) ?_; (try simp only [Act.put, List.setIfInBounds_toArray, List.set_cons_zero, List.set_cons_succ]))))
          refine Drawn.seq_end ?_; intro w2 hS
          clear c1 c2 c3 c4 lb1 lb2 lb3 lb4
          have hS16 := hS
          clear hS
          have hZ3 := hZ2.keep hS16
          have hB3 := hB2.trans (hS16.mono (Nat.le_of_lt lg2))
          go_wp2
          go_roundw
          case rel => exact ⟨i + 1, _, by omega, by go_num, hZ3, hB3, HF2⟩
          case measure => simp [intOf]; omega
    · have hltz : ¬ (i : Int) < (n : Int) := by omega
      go_wp2
      go_ret
      exact ⟨rfl, HB0.out.trans (hB.mono HWG.out)⟩

theorem lorder_walk (a : Option Addr) (len cap : Nat) (zs : List Int) (w : World) (h : Row w a len cap zs) :
    Calls Try.prog 5 #[.slice a len cap] w fun e w' => e = .returned (.bool true) ∧ Below w.heap.size w w' := by
  obtain ⟨l, rfl, hI, _, _, hc⟩ := ints_of_row h
  by_cases hm : 200 < l.length
  · exact lorder_out a l.length cap w (by have := hI.1; simp only [maxLen] at this; omega) hm
  · exact lorder_core a l l.length cap w hI rfl (by omega)

end Go.Proofs.Ytabmlohobbbnbaa.Fix
