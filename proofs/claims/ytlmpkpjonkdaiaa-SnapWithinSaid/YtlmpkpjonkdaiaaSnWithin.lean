/- SnapWithin: it returns true, and leaves all that was there as it was. Written by wip/tools/gensnlaws.py. -/
import Derived.Test.YtlmpkpjonkdaiaaSnapLaw0
import Derived.Test.YtlmpkpjonkdaiaaSnapMore
namespace Go.Proofs.Ytlmpkpjonkdaiaa.Fix
open Go.ChangeShapes Go.WideShapes Go.ChangeAt Go.RowKit Go.Deep Go.Joins
set_option linter.unusedVariables false
set_option linter.unusedSimpArgs false
attribute [local go_sem ↓] run_min_three

theorem snwithin_out (kind : Int) (A : Option Addr) (n c : Nat) (p mo want : Int) (w : World) (hx : n ≤ 9223372036854775807) (h : 300 < n) :
    Calls Try.prog 5 #[.int .i64 kind, .slice A n c, .int .i64 p, .int .i64 mo, .int .i64 want] w fun e w' => e = .returned (.bool true) ∧ Below w.heap.size w w' := by
  have h0 : 300 < n := by omega
  have e0 : decide (300 < (n : Int)) = true := by simp; omega
  go_enter Try.func5, Try.ntmps5
  go_wp2_with ((go_at_call 10; with_reducible refine (snworks_any _).mono ?_; rintro e w1 ⟨rfl, hB⟩))
  go_ret
  exact ⟨rfl, hB⟩

set_option maxHeartbeats 4000000 in
theorem snwithin_core (kind : Int) (A : Option Addr) (l : Nat → Sn.Ar) (n c : Nat) (p mo want : Int) (w : World) (hI : Areas w A l n) (hn : n ≤ 300) (hp : p ≤ 9223372036854775807) :
    Calls Try.prog 5 #[.int .i64 kind, .slice A n c, .int .i64 p, .int .i64 mo, .int .i64 want] w fun e w' => e = .returned (.bool true) ∧ Below w.heap.size w w' := by
  have e0 : decide (300 < (n : Int)) = false := by simp; omega
  have hn1 : n ≤ 1000 := by omega
  have HI := Lib.hid hI
  obtain ⟨s, hs⟩ : ∃ s, Sn.stops l p mo n = s := ⟨_, rfl⟩
  obtain ⟨q, hq⟩ : ∃ q, s.length = q := ⟨_, rfl⟩
  obtain ⟨r, hr⟩ : ∃ r, Sn.rest kind s (Sn.liked want mo) = r := ⟨_, rfl⟩
  have hqn : q ≤ n := by rw [← hq, ← hs]; exact Sn.stops_len l p mo n
  have hsm : ∀ x ∈ s, 0 ≤ x ∧ x ≤ max mo 0 ∧ x ≤ 1099511627776 := by rw [← hs]; exact fun x hx => Sn.stops_mem hx
  have hbd := Sn.rest_bd (kind := kind) (want := want) (m := mo) hsm
  have hag := Sn.rest_again (kind := kind) (want := want) (m := mo) hsm
  have hout := Sn.rest_out (kind := kind) (s := s) (k := Sn.liked want mo)
  rw [hr] at hbd hag hout
  rw [Sn.liked_eq2 want] at hout
  obtain ⟨r1, r2, r3⟩ := hbd
  have g1 : decide (r < 0) = false := by simp; omega
  have g2 : decide (max mo 0 < r) = false := by simp; omega
  have HR : Hid (Sn.rest kind (Sn.stops l p mo n) (Sn.liked want mo) = r) := Lib.hid (by rw [hs]; exact hr)
  have HR2 : Hid (Sn.rest kind (Sn.stops l p mo n) (Sn.liked r mo) = r) := Lib.hid (by rw [hs]; exact hag)
  have HO := Lib.hid hout
  have HL : Hid (kind = 0 → r = min (max want 0) (min (max mo 0) 1099511627776)) := Lib.hid (fun h => by rw [← hr, h, Sn.rest_zero, Sn.liked_eq2])
  have HS := Lib.hid hs
  have HQ := Lib.hid hq
  clear hI hs hq hr hsm hag hout
  go_enter Try.func5, Try.ntmps5
  go_wp2_with (first | (go_at_call 10; with_reducible refine (snworks_any _).mono ?_; rintro e w1 ⟨rfl, hB⟩; have hA := HI.out.after hB) | (go_at_call 14; with_reducible refine (srestL_any (kind := kind) _ hA hp hn1 HR.out).mono ?_; rintro e w3 ⟨rfl, hb⟩; replace hA := hA.after hb; replace hB := Below.after hB hb) | (go_at_call 17; with_reducible refine (stopsL_any _ hA hp hn1 HS.out HQ.out).mono ?_; rintro e w2 ⟨A1, c1, rfl, hI1, hb⟩; replace hA := hA.after hb; replace hB := Below.after hB hb))
  have HI1 := Lib.hid hI1
  clear hI1
  go_loopw [14, 15] (fun b i wr => ∃ k : Nat, k ≤ q ∧ i = .int .i64 k ∧ b = .bool (Sn.has s r k) ∧ Below w2.heap.size w2 wr) (fun _ i _ => q - (intOf i).toNat)
  case atStart => exact ⟨0, by omega, rfl, by rw [Sn.has_zero], Below.refl _ _⟩
  case round =>
    obtain ⟨k, hk, rfl, rfl, hBr⟩ := hrel
    by_cases hlt : k < q
    · have hltz : (k : Int) < (q : Int) := by omega
      obtain ⟨bs, os, hAs, ls, cs⟩ := (HI1.out.after hBr).at_ (k := k) (by rw [HQ.out]; exact hlt)
      subst hAs
      have HY := Lib.hid (Sn.has_yes (s := s) (r := r) (k := k) (by rw [HQ.out]; exact hlt))
      have HN := Lib.hid (Sn.has_new (s := s) (r := r) (k := k) (by rw [HQ.out]; exact hlt))
      have HT := Lib.hid (Sn.has_not (s := s) (r := r) (k := k) (by rw [HQ.out]; exact hlt))
      obtain ⟨b, hb⟩ : ∃ b, Sn.has s r k = b := ⟨_, rfl⟩
      obtain ⟨x, hx⟩ : ∃ x, s.getD k 0 = x := ⟨_, rfl⟩
      rw [hx] at cs
      rw [hb]
      have HX := Lib.hid hx
      have HB := Lib.hid hb
      clear hx hb
      cases b
      · by_cases hxr : x = r
        · have HE : Hid (Sn.has s r (k + 1) = true) := Lib.hid (HN.out (by rw [HX.out]; exact hxr))
          subst hxr
          go_wp2
          go_roundw
          case rel => exact ⟨k + 1, by omega, by go_num, by rw [HE.out], hBr⟩
          case measure => simp [intOf]; omega
        · have HE : Hid (Sn.has s r (k + 1) = false) := Lib.hid (HT.out HB.out (by rw [HX.out]; exact hxr))
          have f1 : (x == r) = false := by simp [hxr]
          go_wp2
          go_roundw
          case rel => exact ⟨k + 1, by omega, by go_num, by rw [HE.out], hBr⟩
          case measure => simp [intOf]; omega
      · have HE : Hid (Sn.has s r (k + 1) = true) := Lib.hid (HY.out HB.out)
        go_wp2
        go_roundw
        case rel => exact ⟨k + 1, by omega, by go_num, by rw [HE.out], hBr⟩
        case measure => simp [intOf]; omega
    · obtain rfl : k = q := by omega
      have hltz : ¬ (k : Int) < (k : Int) := by omega
      replace hA := hA.after hBr
      replace hB := Below.after hB hBr
      have HH := Lib.hid (Sn.has_all (s := s) (r := r) HQ.out)
      rw [HH.out]
      by_cases hin : r ∈ s
      · have h1 : 0 < k := by rw [← HQ.out]; exact List.length_pos_of_mem hin
        have f1 : decide (0 < (k : Int)) = true := by simp; omega
        rw [decide_eq_true hin]
        clear hin
        by_cases k1 : kind = 1
        · subst k1
          go_wp2_with ((go_at_call 14; with_reducible refine (srestL_any _ hA hp hn1 HR2.out).mono ?_; rintro e w5 ⟨rfl, hb⟩; replace hB := Below.after hB hb))
          go_ret
          exact ⟨rfl, hB⟩
        · have d1 : (kind == 1) = false := by simp [k1]
          by_cases k0 : kind = 0
          · have HE := HL.out k0
            subst k0
            have f3 : (r == min (max want 0) (min (max mo 0) 1099511627776)) = true := by simp [← HE]
            clear HE
            go_wp2_with ((go_at_call 14; with_reducible refine (srestL_any _ hA hp hn1 HR2.out).mono ?_; rintro e w5 ⟨rfl, hb⟩; replace hB := Below.after hB hb))
            go_ret
            exact ⟨rfl, hB⟩
          · have d0 : (kind == 0) = false := by simp [k0]
            go_wp2_with ((go_at_call 14; with_reducible refine (srestL_any _ hA hp hn1 HR2.out).mono ?_; rintro e w5 ⟨rfl, hb⟩; replace hB := Below.after hB hb))
            go_ret
            exact ⟨rfl, hB⟩
      · obtain ⟨o1, o2⟩ := HO.out hin
        have f3 : (r == min (max want 0) (min (max mo 0) 1099511627776)) = true := by simp [← o1]
        rw [decide_eq_false hin]
        clear hin o1
        by_cases k1 : kind = 1
        · have h1 : k = 0 := by rw [← HQ.out]; exact o2 k1
          subst k1
          have f1 : decide (0 < (k : Int)) = false := by simp; omega
          go_wp2_with ((go_at_call 14; with_reducible refine (srestL_any _ hA hp hn1 HR2.out).mono ?_; rintro e w5 ⟨rfl, hb⟩; replace hB := Below.after hB hb))
          go_ret
          exact ⟨rfl, hB⟩
        · have d1 : (kind == 1) = false := by simp [k1]
          by_cases k0 : kind = 0
          · subst k0
            go_wp2_with ((go_at_call 14; with_reducible refine (srestL_any _ hA hp hn1 HR2.out).mono ?_; rintro e w5 ⟨rfl, hb⟩; replace hB := Below.after hB hb))
            go_ret
            exact ⟨rfl, hB⟩
          · have d0 : (kind == 0) = false := by simp [k0]
            go_wp2_with ((go_at_call 14; with_reducible refine (srestL_any _ hA hp hn1 HR2.out).mono ?_; rintro e w5 ⟨rfl, hb⟩; replace hB := Below.after hB hb))
            go_ret
            exact ⟨rfl, hB⟩

theorem snwithin_walk (kind : Int) (A : Option Addr) (n c : Nat) (p mo want : Int) (w : World) (hI : IRow w A n c) (hp : p ≤ 9223372036854775807) :
    Calls Try.prog 5 #[.int .i64 kind, .slice A n c, .int .i64 p, .int .i64 mo, .int .i64 want] w fun e w' => e = .returned (.bool true) ∧ Below w.heap.size w w' := by
  obtain ⟨l, hA⟩ := hI.areas
  by_cases h : 300 < n
  · exact snwithin_out kind A n c p mo want w hI.cap.2 h
  · exact snwithin_core kind A l n c p mo want w hA (by omega) hp

end Go.Proofs.Ytlmpkpjonkdaiaa.Fix
