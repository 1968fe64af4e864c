/- JustifyMore: it returns true, and leaves all that was there as it was. Written by wip/tools/genjulaws.py. -/
import Derived.Test.YteopkakjnjfheaaJuLaws
import Derived.Test.YteopkakjnjfheaaJuMoreMath
import Derived.Test.YteopkakjnjfheaaDrawnFast
namespace Go.Proofs.Yteopkakjnjfheaa.Fix
open Go.ChangeShapes Go.WideShapes Go.ChangeAt Go.RowKit
set_option linter.unusedVariables false

set_option maxRecDepth 100000 in
theorem jmore_out (A : Option Addr) (n c : Nat) (kind room mo gap : Int) (w : World) (hx : n ≤ 9223372036854775807) (h : 64 < n ∨ room < 0 ∨ 268435456 < room ∨ mo < 0 ∨ 268435456 < mo ∨ gap < 0 ∨ 1048576 < gap) :
    Calls Try.prog 8 #[.int .i64 kind, .slice A n c, .int .i64 room, .int .i64 mo, .int .i64 gap] w fun e w' => e = .returned (.bool true) ∧ Below w.heap.size w w' := by
  by_cases h0 : 64 < n
  · clear h
    go_enter Try.func8, Try.ntmps8
    go_wp2_with (go_at_call 9; with_reducible refine (jworks_any _).mono ?_; rintro e w1 ⟨rfl, hB⟩)
    go_ret
    exact ⟨rfl, hB⟩
  · have e0 : decide (64 < (n : Int)) = false := by simp; omega
    by_cases h1 : room < 0
    · clear h
      go_enter Try.func8, Try.ntmps8
      go_wp2_with (go_at_call 9; with_reducible refine (jworks_any _).mono ?_; rintro e w1 ⟨rfl, hB⟩)
      go_ret
      exact ⟨rfl, hB⟩
    · have e1 : decide (room < 0) = false := by simp; omega
      by_cases h2 : 268435456 < room
      · clear h
        go_enter Try.func8, Try.ntmps8
        go_wp2_with (go_at_call 9; with_reducible refine (jworks_any _).mono ?_; rintro e w1 ⟨rfl, hB⟩)
        go_ret
        exact ⟨rfl, hB⟩
      · have e2 : decide (268435456 < room) = false := by simp; omega
        by_cases h3 : mo < 0
        · clear h
          go_enter Try.func8, Try.ntmps8
          go_wp2_with (go_at_call 9; with_reducible refine (jworks_any _).mono ?_; rintro e w1 ⟨rfl, hB⟩)
          go_ret
          exact ⟨rfl, hB⟩
        · have e3 : decide (mo < 0) = false := by simp; omega
          by_cases h4 : 268435456 < mo
          · clear h
            go_enter Try.func8, Try.ntmps8
            go_wp2_with (go_at_call 9; with_reducible refine (jworks_any _).mono ?_; rintro e w1 ⟨rfl, hB⟩)
            go_ret
            exact ⟨rfl, hB⟩
          · have e4 : decide (268435456 < mo) = false := by simp; omega
            by_cases h5 : gap < 0
            · clear h
              go_enter Try.func8, Try.ntmps8
              go_wp2_with (go_at_call 9; with_reducible refine (jworks_any _).mono ?_; rintro e w1 ⟨rfl, hB⟩)
              go_ret
              exact ⟨rfl, hB⟩
            · have e5 : decide (gap < 0) = false := by simp; omega
              have h6 : 1048576 < gap := by omega
              clear h
              go_enter Try.func8, Try.ntmps8
              go_wp2_with (go_at_call 9; with_reducible refine (jworks_any _).mono ?_; rintro e w1 ⟨rfl, hB⟩)
              go_ret
              exact ⟨rfl, hB⟩

set_option maxRecDepth 100000 in
set_option maxHeartbeats 4000000 in
theorem jmore_core (A : Option Addr) (l : List Int) (n c : Nat) (kind room mo gap : Int) (w : World) (hI : Ints w A l) (hl : l.length = n) (hc : n ≤ c) (n2 : n ≤ 64) (r0 : 0 ≤ room) (r1 : room ≤ 268435456) (m0 : 0 ≤ mo) (m1 : mo ≤ 268435456) (g0 : 0 ≤ gap) (g1 : gap ≤ 1048576) :
    Calls Try.prog 8 #[.int .i64 kind, .slice A n c, .int .i64 room, .int .i64 mo, .int .i64 gap] w fun e w' => e = .returned (.bool true) ∧ Below w.heap.size w w' := by
  have e0 : decide (64 < (n : Int)) = false := by simp; omega
  have e1 : decide (room < 0) = false := by simp; omega
  have e2 : decide (268435456 < room) = false := by simp; omega
  have e3 : decide (mo < 0) = false := by simp; omega
  have e4 : decide (268435456 < mo) = false := by simp; omega
  have e5 : decide (gap < 0) = false := by simp; omega
  have e6 : decide (1048576 < gap) = false := by simp; omega
  have HI := Lib.hid hI
  have HL := Lib.hid hl
  have HC := Lib.hid hc
  have HRL : Hid (∀ f m, (Ju.row f m).length = m) := Lib.hid (fun f m => Ju.row_length f m)
  clear hI hl hc
  go_enter Try.func8, Try.ntmps8
  go_wp2_with (go_at_call 9; with_reducible refine (jworks_any _).mono ?_; rintro e w1 ⟨rfl, hB⟩)
  go_loopw [12] (fun i wr => ∃ k : Nat, k ≤ n ∧ i = .int .i64 k ∧ w1 = wr ∧ Hid (∀ j, j < k → 0 ≤ l.getD j 0 ∧ l.getD j 0 ≤ 1048576)) (fun i _ => n - (intOf i).toNat)
  case atStart => exact ⟨0, by omega, rfl, rfl, Lib.hid (fun j hj => absurd hj (by omega))⟩
  case round =>
    obtain ⟨k, hk, rfl, rfl, HA⟩ := hrel
    by_cases hlt : k < n
    · obtain ⟨b0, o0, hA0, l0, c0⟩ := (HI.out.after hB).at_ (k := k) (by rw [HL.out]; exact hlt)
      have hN : 0 ≤ l.getD k 0 → l.getD k 0 ≤ 1048576 → Hid (∀ j, j < k + 1 → 0 ≤ l.getD j 0 ∧ l.getD j 0 ≤ 1048576) := fun h1 h2 => Lib.hid (fun j hj => by
        rcases Nat.lt_or_ge j k with h' | h'
        · exact HA.out j h'
        · obtain rfl : j = k := by omega
          exact ⟨h1, h2⟩)
      generalize l.getD k 0 = z at *
      subst hA0
      by_cases hz1 : z < 0
      · go_wp2
        go_ret
        exact ⟨rfl, hB⟩
      · have z1 : decide (z < 0) = false := by simp; omega
        by_cases hz2 : 1048576 < z
        · go_wp2
          go_ret
          exact ⟨rfl, hB⟩
        · have z2 : decide (1048576 < z) = false := by simp; omega
          replace hN := hN (by omega) (by omega)
          go_wp2
          go_roundw
          case rel => exact ⟨k + 1, by omega, by go_num, trivial, hN⟩
          case measure => simp [intOf]; omega
    · obtain rfl : k = n := by omega
      have hltz : ¬ (k : Int) < (k : Int) := by omega
      have HSM : Hid (Ju.Small l) := Lib.hid (fun j => by
        rcases Nat.lt_or_ge j k with h' | h'
        · exact HA.out j h'
        · rw [List.getD_eq_getElem?_getD, List.getElem?_eq_none (by rw [HL.out]; exact h')]; simp)
      clear HA
      have hK64 : l.length ≤ 64 := by rw [HL.out]; omega
      have HMO : Hid (∀ j, j < k → (Li.long gap l ≤ room → Ju.starts kind room gap l j ≤ Ju.starts kind (room + mo) gap l j ∧ Ju.starts kind (room + mo) gap l j ≤ Ju.starts kind room gap l j + mo) ∧ (kind = 0 → Ju.starts kind room gap l j = Ju.starts kind (room + mo) gap l j) ∧ (kind = 1 → Ju.starts kind (room + mo) gap l j = Ju.starts kind room gap l j + mo)) := Lib.hid (fun j hj => by
        have := Ju.starts_more (kind := kind) HSM.out g0 g1 hK64 r0 r1 m0 m1 (k := j) (by rw [HL.out]; exact hj)
        exact ⟨this.1, fun h => by subst h; exact this.2.1, fun h => by subst h; exact this.2.2⟩)
      have HBD : Hid (∀ j, j < k → -134217728 ≤ Ju.starts kind room gap l j ∧ Ju.starts kind room gap l j ≤ 1207959552) := Lib.hid (fun j hj => Ju.starts_bd HSM.out g0 g1 hK64 r0 (by omega) (by rw [HL.out]; exact hj))
      have HBE : Hid (∀ j, j < k → -134217728 ≤ Ju.starts kind (room + mo) gap l j ∧ Ju.starts kind (room + mo) gap l j ≤ 1207959552) := Lib.hid (fun j hj => Ju.starts_bd HSM.out g0 g1 hK64 (by omega) (by omega) (by rw [HL.out]; exact hj))
      clear hK64 HSM
      go_upto_region 12 with (go_at_call 10; refine (starts_any A l k c kind room gap _ (HI.out.after hB) HL.out HC.out (by omega)).mono ?_; rintro e w2 ⟨⟨b1, rfl, hI1⟩, hb⟩)
      replace hB := Below.after2 hB (Nat.le_refl _) hb
      have H1 := Lib.hid hI1
      clear hI1 hb
      go_upto_region 13 with (go_at_call 10; refine (starts_any A l k c kind (room + mo) gap _ (HI.out.after hB) HL.out HC.out (by omega)).mono ?_; rintro e w6 ⟨⟨b2, rfl, hI2⟩, hb⟩)
      replace hB := Below.after2 hB (Nat.le_refl _) hb
      replace H1 := Lib.hid (H1.out.after hb)
      have H2 := Lib.hid hI2
      clear hI2 hb
      generalize Ju.starts kind room gap l = f at *
      generalize Ju.starts kind (room + mo) gap l = g at *
      by_cases hf : Li.long gap l ≤ room
      · go_upto_region 14 with (go_at_call 17; refine (long_any _ l k c gap _ ((HI.out.after hB)) HL.out HC.out (by omega)).mono ?_; rintro e w' ⟨rfl, rfl⟩)
        generalize Li.long gap l = lo at *
        go_wp2
        go_loopw [16] (fun i wr => ∃ j : Nat, j ≤ k ∧ i = .int .i64 j ∧ Below w6.heap.size w6 wr) (fun i _ => k - (intOf i).toNat)
        case atStart => exact ⟨0, by omega, rfl, Below.refl _ _⟩
        case round =>
          obtain ⟨j, hj, rfl, hW⟩ := hrel
          by_cases hjt : j < k
          · obtain ⟨b5, o5, hA5, l5, c5⟩ := (H1.out.after hW).at_ (k := j) (by rw [HRL.out]; exact hjt)
            obtain ⟨b6, o6, hA6, l6, c6⟩ := (H2.out.after hW).at_ (k := j) (by rw [HRL.out]; exact hjt)
            injection hA5 with hA5
            injection hA5 with q1 q2
            subst q1 q2
            injection hA6 with hA6
            injection hA6 with q1 q2
            subst q1 q2
            rw [Ju.row_get _ hjt, Nat.zero_add] at c5
            rw [Ju.row_get _ hjt, Nat.zero_add] at c6
            obtain ⟨x1, x2⟩ := HBD.out j hjt
            obtain ⟨y1, y2⟩ := HBE.out j hjt
            have hmo := HMO.out j hjt
            generalize f j = x at *
            generalize g j = y at *
            have hw2 : IntKind.i64.wrap (x + mo) = x + mo := IntWalk.i64_in _ (by omega)
            obtain ⟨hmo1, hst, hen⟩ := hmo
            obtain ⟨v1, v2⟩ := hmo1 hf
            have t1 : decide (y < x) = false := by simp; omega
            have t2 : decide (x + mo < y) = false := by simp; omega
            clear hmo1
            by_cases k0 : kind = 0
            · have hxy := hst k0
              clear hst hen
              subst hxy
              subst k0
              go_upto_region 17 with (fail)
              refine Drawn.wp_region_fast (Below.refl _ _) (by kernel_rfl) (by kernel_rfl) (by kernel_rfl) ?_
              (repeat (first | (refine Drawn.seq_skip (by rfl) ?_; (try simp only [Act.put, List.setIfInBounds_toArray, List.set_cons_zero, List.set_cons_succ])) | (refine Drawn.seq_call (o := ⟨_, .call ⟨.value _, _, _⟩, _, _, _, _⟩) (by rfl) (by intro w2 hS; go_simp; first | done | with_reducible rfl | exact ⟨rfl, rfl⟩) (by intro w2 hS; first | ((with_reducible refine (cut_any _ _).mono ?_); rintro e w' ⟨rfl, rfl⟩; exact ⟨rfl, hS⟩)) ?_; (try simp only [Act.put, List.setIfInBounds_toArray, List.set_cons_zero, List.set_cons_succ])) | (refine Drawn.seq_value (by rfl) (by intro w2 hS; obtain ⟨hc, hf⟩ := bcell hS; go_simp; first | done | with_reducible rfl | exact ⟨rfl, rfl⟩) ?_; (try simp only [Act.put, List.setIfInBounds_toArray, List.set_cons_zero, List.set_cons_succ]))))
              refine Drawn.seq_end ?_; intro w2 hS
              go_wp2
              go_roundw
              case rel => exact ⟨j + 1, by omega, by go_num, Below.after2 hW (Nat.le_refl _) hS⟩
              case measure => simp [intOf]; omega
            · have u0 : (kind == 0) = false := by simp [k0]
              by_cases k1 : kind = 1
              · have t4 : (y == x + mo) = true := by have := hen k1; simp [this]
                clear hst hen u0
                subst k1
                go_upto_region 17 with (fail)
                refine Drawn.wp_region_fast (Below.refl _ _) (by kernel_rfl) (by kernel_rfl) (by kernel_rfl) ?_
                (repeat (first | (refine Drawn.seq_skip (by rfl) ?_; (try simp only [Act.put, List.setIfInBounds_toArray, List.set_cons_zero, List.set_cons_succ])) | (refine Drawn.seq_call (o := ⟨_, .call ⟨.value _, _, _⟩, _, _, _, _⟩) (by rfl) (by intro w2 hS; go_simp; first | done | with_reducible rfl | exact ⟨rfl, rfl⟩) (by intro w2 hS; first | ((with_reducible refine (cut_any _ _).mono ?_); rintro e w' ⟨rfl, rfl⟩; exact ⟨rfl, hS⟩)) ?_; (try simp only [Act.put, List.setIfInBounds_toArray, List.set_cons_zero, List.set_cons_succ])) | (refine Drawn.seq_value (by rfl) (by intro w2 hS; obtain ⟨hc, hf⟩ := bcell hS; go_simp; first | done | with_reducible rfl | exact ⟨rfl, rfl⟩) ?_; (try simp only [Act.put, List.setIfInBounds_toArray, List.set_cons_zero, List.set_cons_succ]))))
                refine Drawn.seq_end ?_; intro w2 hS
                go_wp2
                go_roundw
                case rel => exact ⟨j + 1, by omega, by go_num, Below.after2 hW (Nat.le_refl _) hS⟩
                case measure => simp [intOf]; omega
              · have u1 : (kind == 1) = false := by simp [k1]
                clear hst hen
                go_upto_region 17 with (fail)
                refine Drawn.wp_region_fast (Below.refl _ _) (by kernel_rfl) (by kernel_rfl) (by kernel_rfl) ?_
                (repeat (first | (refine Drawn.seq_skip (by rfl) ?_; (try simp only [Act.put, List.setIfInBounds_toArray, List.set_cons_zero, List.set_cons_succ])) | (refine Drawn.seq_call (o := ⟨_, .call ⟨.value _, _, _⟩, _, _, _, _⟩) (by rfl) (by intro w2 hS; go_simp; first | done | with_reducible rfl | exact ⟨rfl, rfl⟩) (by intro w2 hS; first | ((with_reducible refine (cut_any _ _).mono ?_); rintro e w' ⟨rfl, rfl⟩; exact ⟨rfl, hS⟩)) ?_; (try simp only [Act.put, List.setIfInBounds_toArray, List.set_cons_zero, List.set_cons_succ])) | (refine Drawn.seq_value (by rfl) (by intro w2 hS; obtain ⟨hc, hf⟩ := bcell hS; go_simp; first | done | with_reducible rfl | exact ⟨rfl, rfl⟩) ?_; (try simp only [Act.put, List.setIfInBounds_toArray, List.set_cons_zero, List.set_cons_succ]))))
                refine Drawn.seq_end ?_; intro w2 hS
                go_wp2
                go_roundw
                case rel => exact ⟨j + 1, by omega, by go_num, Below.after2 hW (Nat.le_refl _) hS⟩
                case measure => simp [intOf]; omega
          · obtain rfl : j = k := by omega
            have hjz : ¬ (j : Int) < (j : Int) := by omega
            go_wp2
            go_ret
            exact ⟨rfl, Below.after2 hB (Nat.le_refl _) hW⟩
      · have hf' : decide (Li.long gap l ≤ room) = false := by simp; omega
        go_upto_region 14 with (go_at_call 17; refine (long_any _ l k c gap _ ((HI.out.after hB)) HL.out HC.out (by omega)).mono ?_; rintro e w' ⟨rfl, rfl⟩)
        generalize Li.long gap l = lo at *
        go_wp2
        go_loopw [16] (fun i wr => ∃ j : Nat, j ≤ k ∧ i = .int .i64 j ∧ Below w6.heap.size w6 wr) (fun i _ => k - (intOf i).toNat)
        case atStart => exact ⟨0, by omega, rfl, Below.refl _ _⟩
        case round =>
          obtain ⟨j, hj, rfl, hW⟩ := hrel
          by_cases hjt : j < k
          · obtain ⟨b5, o5, hA5, l5, c5⟩ := (H1.out.after hW).at_ (k := j) (by rw [HRL.out]; exact hjt)
            obtain ⟨b6, o6, hA6, l6, c6⟩ := (H2.out.after hW).at_ (k := j) (by rw [HRL.out]; exact hjt)
            injection hA5 with hA5
            injection hA5 with q1 q2
            subst q1 q2
            injection hA6 with hA6
            injection hA6 with q1 q2
            subst q1 q2
            rw [Ju.row_get _ hjt, Nat.zero_add] at c5
            rw [Ju.row_get _ hjt, Nat.zero_add] at c6
            obtain ⟨x1, x2⟩ := HBD.out j hjt
            obtain ⟨y1, y2⟩ := HBE.out j hjt
            have hmo := HMO.out j hjt
            generalize f j = x at *
            generalize g j = y at *
            have hw2 : IntKind.i64.wrap (x + mo) = x + mo := IntWalk.i64_in _ (by omega)
            obtain ⟨hmo1, hst, hen⟩ := hmo
            clear hmo1
            by_cases k0 : kind = 0
            · have hxy := hst k0
              clear hst hen
              subst hxy
              subst k0
              go_upto_region 17 with (fail)
              refine Drawn.wp_region_fast (Below.refl _ _) (by kernel_rfl) (by kernel_rfl) (by kernel_rfl) ?_
              (repeat (first | (refine Drawn.seq_skip (by rfl) ?_; (try simp only [Act.put, List.setIfInBounds_toArray, List.set_cons_zero, List.set_cons_succ])) | (refine Drawn.seq_call (o := ⟨_, .call ⟨.value _, _, _⟩, _, _, _, _⟩) (by rfl) (by intro w2 hS; go_simp; first | done | with_reducible rfl | exact ⟨rfl, rfl⟩) (by intro w2 hS; first | ((with_reducible refine (cut_any _ _).mono ?_); rintro e w' ⟨rfl, rfl⟩; exact ⟨rfl, hS⟩)) ?_; (try simp only [Act.put, List.setIfInBounds_toArray, List.set_cons_zero, List.set_cons_succ])) | (refine Drawn.seq_value (by rfl) (by intro w2 hS; obtain ⟨hc, hf⟩ := bcell hS; go_simp; first | done | with_reducible rfl | exact ⟨rfl, rfl⟩) ?_; (try simp only [Act.put, List.setIfInBounds_toArray, List.set_cons_zero, List.set_cons_succ]))))
              refine Drawn.seq_end ?_; intro w2 hS
              go_wp2
              go_roundw
              case rel => exact ⟨j + 1, by omega, by go_num, Below.after2 hW (Nat.le_refl _) hS⟩
              case measure => simp [intOf]; omega
            · have u0 : (kind == 0) = false := by simp [k0]
              by_cases k1 : kind = 1
              · have t4 : (y == x + mo) = true := by have := hen k1; simp [this]
                clear hst hen u0
                subst k1
                go_upto_region 17 with (fail)
                refine Drawn.wp_region_fast (Below.refl _ _) (by kernel_rfl) (by kernel_rfl) (by kernel_rfl) ?_
                (repeat (first | (refine Drawn.seq_skip (by rfl) ?_; (try simp only [Act.put, List.setIfInBounds_toArray, List.set_cons_zero, List.set_cons_succ])) | (refine Drawn.seq_call (o := ⟨_, .call ⟨.value _, _, _⟩, _, _, _, _⟩) (by rfl) (by intro w2 hS; go_simp; first | done | with_reducible rfl | exact ⟨rfl, rfl⟩) (by intro w2 hS; first | ((with_reducible refine (cut_any _ _).mono ?_); rintro e w' ⟨rfl, rfl⟩; exact ⟨rfl, hS⟩)) ?_; (try simp only [Act.put, List.setIfInBounds_toArray, List.set_cons_zero, List.set_cons_succ])) | (refine Drawn.seq_value (by rfl) (by intro w2 hS; obtain ⟨hc, hf⟩ := bcell hS; go_simp; first | done | with_reducible rfl | exact ⟨rfl, rfl⟩) ?_; (try simp only [Act.put, List.setIfInBounds_toArray, List.set_cons_zero, List.set_cons_succ]))))
                refine Drawn.seq_end ?_; intro w2 hS
                go_wp2
                go_roundw
                case rel => exact ⟨j + 1, by omega, by go_num, Below.after2 hW (Nat.le_refl _) hS⟩
                case measure => simp [intOf]; omega
              · have u1 : (kind == 1) = false := by simp [k1]
                clear hst hen
                go_upto_region 17 with (fail)
                refine Drawn.wp_region_fast (Below.refl _ _) (by kernel_rfl) (by kernel_rfl) (by kernel_rfl) ?_
                (repeat (first | (refine Drawn.seq_skip (by rfl) ?_; (try simp only [Act.put, List.setIfInBounds_toArray, List.set_cons_zero, List.set_cons_succ])) | (refine Drawn.seq_call (o := ⟨_, .call ⟨.value _, _, _⟩, _, _, _, _⟩) (by rfl) (by intro w2 hS; go_simp; first | done | with_reducible rfl | exact ⟨rfl, rfl⟩) (by intro w2 hS; first | ((with_reducible refine (cut_any _ _).mono ?_); rintro e w' ⟨rfl, rfl⟩; exact ⟨rfl, hS⟩)) ?_; (try simp only [Act.put, List.setIfInBounds_toArray, List.set_cons_zero, List.set_cons_succ])) | (refine Drawn.seq_value (by rfl) (by intro w2 hS; obtain ⟨hc, hf⟩ := bcell hS; go_simp; first | done | with_reducible rfl | exact ⟨rfl, rfl⟩) ?_; (try simp only [Act.put, List.setIfInBounds_toArray, List.set_cons_zero, List.set_cons_succ]))))
                refine Drawn.seq_end ?_; intro w2 hS
                go_wp2
                go_roundw
                case rel => exact ⟨j + 1, by omega, by go_num, Below.after2 hW (Nat.le_refl _) hS⟩
                case measure => simp [intOf]; omega
          · obtain rfl : j = k := by omega
            have hjz : ¬ (j : Int) < (j : Int) := by omega
            go_wp2
            go_ret
            exact ⟨rfl, Below.after2 hB (Nat.le_refl _) hW⟩

theorem jmore_walk (kind : Int) (a1 : Option Addr) (len1 cap1 : Nat) (z1 : List Int) (room mo gap : Int) (w : World) (h1 : Row w a1 len1 cap1 z1) :
    Calls Try.prog 8 #[.int .i64 kind, .slice a1 len1 cap1, .int .i64 room, .int .i64 mo, .int .i64 gap] w fun e w' => e = .returned (.bool true) ∧ Below w.heap.size w w' := by
  have k1 := h1.cap
  obtain ⟨l, rfl, hl, _, _, _⟩ := ints_of_row h1
  have m1 := hl.1
  simp only [maxLen] at m1
  by_cases h : 64 < l.length ∨ room < 0 ∨ 268435456 < room ∨ mo < 0 ∨ 268435456 < mo ∨ gap < 0 ∨ 1048576 < gap
  · exact jmore_out a1 _ cap1 kind room mo gap w (by omega) h
  · exact jmore_core a1 l _ cap1 kind room mo gap w hl rfl k1 (by omega) (by omega) (by omega) (by omega) (by omega) (by omega) (by omega)

end Go.Proofs.Yteopkakjnjfheaa.Fix
