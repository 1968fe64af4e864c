/- SnapRests: it returns true, and leaves all that was there as it was. Written by wip/tools/gensnlaws.py. -/
import Derived.Test.YtlmpkpjonkdaiaaSnapLaw0
namespace Go.Proofs.Ytlmpkpjonkdaiaa.Fix
open Go.ChangeShapes Go.WideShapes Go.ChangeAt Go.RowKit Go.Deep Go.Joins
set_option linter.unusedVariables false
set_option linter.unusedSimpArgs false

theorem snrests_out (kind : Int) (A : Option Addr) (n c : Nat) (p mo want : Int) (w : World) (hx : n ≤ 9223372036854775807) (h : 300 < n) :
    Calls Try.prog 3 #[.int .i64 kind, .slice A n c, .int .i64 p, .int .i64 mo, .int .i64 want] w fun e w' => e = .returned (.bool true) ∧ Below w.heap.size w w' := by
  have e1 : decide (300 < (n : Int)) = true := by simp; omega
  go_enter Try.func3, Try.ntmps3
  go_wp2_with ((go_at_call 10; with_reducible refine (snworks_any _).mono ?_; rintro e w1 ⟨rfl, hB⟩))
  go_ret
  exact ⟨rfl, hB⟩

set_option maxHeartbeats 4000000 in
theorem snrests_core (kind : Int) (A : Option Addr) (l : Nat → Sn.Ar) (n c : Nat) (p mo want : Int) (w : World) (hI : Areas w A l n) (hn : n ≤ 300) (hp : p ≤ 9223372036854775807) :
    Calls Try.prog 3 #[.int .i64 kind, .slice A n c, .int .i64 p, .int .i64 mo, .int .i64 want] w fun e w' => e = .returned (.bool true) ∧ Below w.heap.size w w' := by
  have e1 : decide (300 < (n : Int)) = false := by simp; omega
  have hn1 : n ≤ 1000 := by omega
  have hn5 : n ≤ 500 := by omega
  have HI := Lib.hid hI
  obtain ⟨r, hr⟩ : ∃ r, Sn.rest kind (Sn.stops l p mo n) (Sn.liked want mo) = r := ⟨_, rfl⟩
  obtain ⟨s, hs⟩ : ∃ s, Sn.stops l p mo n = s := ⟨_, rfl⟩
  obtain ⟨q, hq⟩ : ∃ q, s.length = q := ⟨_, rfl⟩
  have hqn : q ≤ n := by rw [← hq, ← hs]; exact Sn.stops_len l p mo n
  have HR := Lib.hid hr
  have HS := Lib.hid hs
  have HQ := Lib.hid hq
  clear hI hr hs hq
  go_enter Try.func3, Try.ntmps3
  go_wp2_with (first | (go_at_call 10; with_reducible refine (snworks_any _).mono ?_; rintro e w1 ⟨rfl, hB⟩) | (go_at_call 11; with_reducible refine (snof_any A l n c _ (HI.out.after hB) hn5).mono ?_; rintro e w2 ⟨⟨D, d, rfl, hD⟩, hb2⟩; have hB2 := Below.after hB hb2))
  go_loopw [13] (fun i wr => ∃ k : Nat, k ≤ n ∧ i = .int .i64 k ∧ Below w2.heap.size w2 wr) (fun i _ => n - (intOf i).toNat)
  case atStart => exact ⟨0, by omega, rfl, Below.refl _ _⟩
  case round =>
    obtain ⟨k, hk, rfl, hBr⟩ := hrel
    by_cases hlt : k < n
    · have hltz : (k : Int) < (n : Int) := by omega
      obtain ⟨b, off, rfl, lb, d0, d1, d2⟩ := ((HI.out.after hB2).after hBr).at_ hlt
      obtain ⟨b', off', rfl, lb', d0', d1', d2'⟩ := (hD.after hBr).at_ hlt
      obtain ⟨z, hz⟩ : ∃ z, z = Sn.at_ (l k).lo (l k).hi (l k).e p := ⟨_, rfl⟩
      obtain ⟨b1, hb1⟩ : ∃ b, b = Sn.snaps (l k).e := ⟨_, rfl⟩
      have HZ := Lib.hid hz
      have HB1 := Lib.hid hb1
      have HD := Lib.hid hD
      clear hz hb1 hD
      generalize (l k).lo = lo at *
      generalize (l k).hi = hi at *
      generalize (l k).e = ed at *
      cases b1
      all_goals
        go_wp2_with (first | (go_at_call 12; with_reducible refine (snat_at _ hp HZ.out HB1.out).mono ?_; rintro e w3 ⟨rfl, hb3⟩; obtain ⟨hc3, hf3⟩ := bcell hb3) | (go_at_call 13; with_reducible refine (rsnat_at _ HZ.out HB1.out).mono ?_; rintro e w4 ⟨rfl, hb4⟩))
        go_roundw
        case rel => exact ⟨k + 1, by omega, by go_num, Below.after (Below.after hBr hb3) hb4⟩
        case measure => simp [intOf]; omega
    · obtain rfl : k = n := by omega
      have hltz : ¬ (k : Int) < (k : Int) := by omega
      have hA : Areas wr A l k := (HI.out.after hB2).after hBr
      replace hD := hD.after hBr
      replace hB := Below.after hB2 hBr
      have hq9 : q ≤ 100000 := by omega
      clear hB2 hBr hb2
      go_wp2_with (first | (go_at_call 14; with_reducible refine (srestL_any (kind := kind) _ hA hp hn1 HR.out).mono ?_; rintro e w3 ⟨rfl, hb⟩; replace hA := hA.after hb; replace hD := hD.after hb; replace hB := Below.after hB hb) | (go_at_call 15; with_reducible refine (rsrestL_any (kind := kind) _ hD hn1 HR.out).mono ?_; rintro e w4 ⟨rfl, hb⟩; replace hA := hA.after hb; replace hD := hD.after hb; replace hB := Below.after hB hb) | (go_at_call 17; with_reducible refine (stopsL_any _ hA hp hn1 HS.out HQ.out).mono ?_; rintro e w5 ⟨A1, c1, rfl, hI1, hb⟩; replace hD := hD.after hb; replace hB := Below.after hB hb) | (go_at_call 18; with_reducible refine (rstopsL_any _ hD hn1 HS.out HQ.out).mono ?_; rintro e w6 ⟨A2, c2, rfl, hI2, hb⟩; replace hI1 := hI1.after hb; replace hB := Below.after hB hb) | (go_at_call 16; with_reducible refine (row_any _ _ s q _ _ _ hI1 hI2 HQ.out hq9).mono ?_; rintro e w7 ⟨rfl, hb⟩; replace hB := Below.after hB hb))
      go_ret
      exact ⟨rfl, hB⟩

theorem snrests_walk (kind : Int) (A : Option Addr) (n c : Nat) (p mo want : Int) (w : World) (hI : IRow w A n c) (hp : p ≤ 9223372036854775807) :
    Calls Try.prog 3 #[.int .i64 kind, .slice A n c, .int .i64 p, .int .i64 mo, .int .i64 want] w fun e w' => e = .returned (.bool true) ∧ Below w.heap.size w w' := by
  obtain ⟨l, hA⟩ := hI.areas
  by_cases h : 300 < n
  · exact snrests_out kind A n c p mo want w hI.cap.2 h
  · exact snrests_core kind A l n c p mo want w hA (by omega) hp

end Go.Proofs.Ytlmpkpjonkdaiaa.Fix
