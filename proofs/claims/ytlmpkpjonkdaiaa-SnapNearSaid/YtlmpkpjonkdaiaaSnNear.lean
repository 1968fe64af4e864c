/- SnapNear: it returns true, and leaves all that was there as it was. Written by wip/tools/gensnlaws.py. -/
import Derived.Test.YtlmpkpjonkdaiaaSnapLaw0
import Derived.Test.YtlmpkpjonkdaiaaSnapMore
namespace Go.Proofs.Ytlmpkpjonkdaiaa.Fix
open Go.ChangeShapes Go.WideShapes Go.ChangeAt Go.RowKit Go.Deep Go.Joins
set_option linter.unusedVariables false
set_option linter.unusedSimpArgs false

theorem snnear_out (A : Option Addr) (n c : Nat) (p mo want : Int) (w : World) (hx : n ≤ 9223372036854775807) (h : 300 < n ∨ mo < 0 ∨ 1073741824 < mo ∨ want < 0 ∨ mo < want) :
    Calls Try.prog 8 #[.slice A n c, .int .i64 p, .int .i64 mo, .int .i64 want] w fun e w' => e = .returned (.bool true) ∧ Below w.heap.size w w' := by
  by_cases h0 : 300 < n
  · have e0 : decide (300 < (n : Int)) = true := by simp; omega
    go_enter Try.func8, Try.ntmps8
    go_wp2_with ((go_at_call 10; with_reducible refine (snworks_any _).mono ?_; rintro e w1 ⟨rfl, hB⟩))
    go_ret
    exact ⟨rfl, hB⟩
  · have e0 : decide (300 < (n : Int)) = false := by simp; omega
    by_cases h1 : mo < 0
    · have e1 : decide (mo < 0) = true := by simp; omega
      go_enter Try.func8, Try.ntmps8
      go_wp2_with ((go_at_call 10; with_reducible refine (snworks_any _).mono ?_; rintro e w1 ⟨rfl, hB⟩))
      go_ret
      exact ⟨rfl, hB⟩
    · have e1 : decide (mo < 0) = false := by simp; omega
      by_cases h2 : 1073741824 < mo
      · have e2 : decide (1073741824 < mo) = true := by simp; omega
        go_enter Try.func8, Try.ntmps8
        go_wp2_with ((go_at_call 10; with_reducible refine (snworks_any _).mono ?_; rintro e w1 ⟨rfl, hB⟩))
        go_ret
        exact ⟨rfl, hB⟩
      · have e2 : decide (1073741824 < mo) = false := by simp; omega
        by_cases h3 : want < 0
        · have e3 : decide (want < 0) = true := by simp; omega
          go_enter Try.func8, Try.ntmps8
          go_wp2_with ((go_at_call 10; with_reducible refine (snworks_any _).mono ?_; rintro e w1 ⟨rfl, hB⟩))
          go_ret
          exact ⟨rfl, hB⟩
        · have e3 : decide (want < 0) = false := by simp; omega
          have h4 : mo < want := by omega
          have e4 : decide (mo < want) = true := by simp; omega
          go_enter Try.func8, Try.ntmps8
          go_wp2_with ((go_at_call 10; with_reducible refine (snworks_any _).mono ?_; rintro e w1 ⟨rfl, hB⟩))
          go_ret
          exact ⟨rfl, hB⟩

set_option maxHeartbeats 4000000 in
theorem snnear_core (A : Option Addr) (l : Nat → Sn.Ar) (n c : Nat) (p mo want : Int) (w : World) (hI : Areas w A l n) (hn : n ≤ 300) (hp : p ≤ 9223372036854775807) (h0 : 0 ≤ mo) (h1 : mo ≤ 1073741824) (h2 : 0 ≤ want) (h3 : want ≤ mo) :
    Calls Try.prog 8 #[.slice A n c, .int .i64 p, .int .i64 mo, .int .i64 want] w fun e w' => e = .returned (.bool true) ∧ Below w.heap.size w w' := by
  have e0 : decide (300 < (n : Int)) = false := by simp; omega
  have e1 : decide (mo < 0) = false := by simp; omega
  have e2 : decide (1073741824 < mo) = false := by simp; omega
  have e3 : decide (want < 0) = false := by simp; omega
  have e4 : decide (mo < want) = false := by simp; omega
  have hn1 : n ≤ 1000 := by omega
  have HI := Lib.hid hI
  obtain ⟨s, hs⟩ : ∃ s, Sn.stops l p mo n = s := ⟨_, rfl⟩
  have hsm : ∀ x ∈ s, 0 ≤ x ∧ x ≤ max mo 0 ∧ x ≤ 1099511627776 := by rw [← hs]; exact fun x hx => Sn.stops_mem hx
  have hk : Sn.liked want mo = want := by rw [Sn.liked_eq]; omega
  obtain ⟨r, hr⟩ : ∃ r, Sn.rest 1 s want = r := ⟨_, rfl⟩
  have hb : 0 ≤ r ∧ r ≤ max mo 0 := by
    have := Sn.rest_bd (kind := 1) (want := want) (m := mo) hsm
    rw [hk, hr] at this; omega
  have hw1 : IntKind.i64.wrap (r - want) = r - want := IntWalk.i64_in _ (by omega)
  have hw2 : IntKind.i64.wrap (want - r) = want - r := IntWalk.i64_in _ (by omega)
  have HR1 : Hid (Sn.rest 1 (Sn.stops l p mo n) (Sn.liked want mo) = r) := Lib.hid (by rw [hs, hk]; exact hr)
  have HR0 : Hid (Sn.rest 0 (Sn.stops l p mo n) (Sn.liked want mo) = want) := Lib.hid (by rw [hs, hk]; exact Sn.rest_zero)
  have hnear := Sn.near_two (k := want) hsm (by omega) (by omega) hr
  by_cases hf : 6400 < max (r - want) (want - r)
  · have HR2 : Hid (Sn.rest 2 (Sn.stops l p mo n) (Sn.liked want mo) = want) := Lib.hid (by rw [hs, hk]; exact hnear.1 hf)
    have e9 : decide (6400 < max (r - want) (want - r)) = true := decide_eq_true hf
    clear hI hs hk hr hsm hnear
    go_enter Try.func8, Try.ntmps8
    go_wp2_with (first | (go_at_call 10; with_reducible refine (snworks_any _).mono ?_; rintro e w1 ⟨rfl, hB⟩; have hA := HI.out.after hB) | (go_at_call 14; with_reducible refine (srestL_any (kind := 1) _ hA hp hn1 HR1.out).mono ?_; rintro e w3 ⟨rfl, hb⟩; replace hA := hA.after hb; replace hB := Below.after hB hb) | (go_at_call 14; with_reducible refine (srestL_any (kind := 2) _ hA hp hn1 HR2.out).mono ?_; rintro e w4 ⟨rfl, hb⟩; replace hA := hA.after hb; replace hB := Below.after hB hb) | (go_at_call 14; with_reducible refine (srestL_any (kind := 0) _ hA hp hn1 HR0.out).mono ?_; rintro e w5 ⟨rfl, hb⟩; replace hA := hA.after hb; replace hB := Below.after hB hb))
    go_ret
    exact ⟨rfl, hB⟩
  · have HR2 : Hid (Sn.rest 2 (Sn.stops l p mo n) (Sn.liked want mo) = r) := Lib.hid (by rw [hs, hk]; exact hnear.2 hf)
    have e9 : decide (6400 < max (r - want) (want - r)) = false := decide_eq_false hf
    clear hI hs hk hr hsm hnear
    go_enter Try.func8, Try.ntmps8
    go_wp2_with (first | (go_at_call 10; with_reducible refine (snworks_any _).mono ?_; rintro e w1 ⟨rfl, hB⟩; have hA := HI.out.after hB) | (go_at_call 14; with_reducible refine (srestL_any (kind := 1) _ hA hp hn1 HR1.out).mono ?_; rintro e w3 ⟨rfl, hb⟩; replace hA := hA.after hb; replace hB := Below.after hB hb) | (go_at_call 14; with_reducible refine (srestL_any (kind := 2) _ hA hp hn1 HR2.out).mono ?_; rintro e w4 ⟨rfl, hb⟩; replace hA := hA.after hb; replace hB := Below.after hB hb) | (go_at_call 14; with_reducible refine (srestL_any (kind := 0) _ hA hp hn1 HR0.out).mono ?_; rintro e w5 ⟨rfl, hb⟩; replace hA := hA.after hb; replace hB := Below.after hB hb))
    go_ret
    exact ⟨rfl, hB⟩

theorem snnear_walk (A : Option Addr) (n c : Nat) (p mo want : Int) (w : World) (hI : IRow w A n c) (hp : p ≤ 9223372036854775807) :
    Calls Try.prog 8 #[.slice A n c, .int .i64 p, .int .i64 mo, .int .i64 want] w fun e w' => e = .returned (.bool true) ∧ Below w.heap.size w w' := by
  obtain ⟨l, hA⟩ := hI.areas
  by_cases h : 300 < n ∨ mo < 0 ∨ 1073741824 < mo ∨ want < 0 ∨ mo < want
  · exact snnear_out A n c p mo want w hI.cap.2 h
  · exact snnear_core A l n c p mo want w hA (by omega) hp (by omega) (by omega) (by omega) (by omega)

end Go.Proofs.Ytlmpkpjonkdaiaa.Fix
