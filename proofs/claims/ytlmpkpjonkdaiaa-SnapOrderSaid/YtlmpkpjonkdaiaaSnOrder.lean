/- SnapOrder: it returns true, and leaves all that was there as it was. Written by wip/tools/gensnlaws.py. -/
import Derived.Test.YtlmpkpjonkdaiaaSnapLaw0
import Derived.Test.YtlmpkpjonkdaiaaSnapMore
namespace Go.Proofs.Ytlmpkpjonkdaiaa.Fix
open Go.ChangeShapes Go.WideShapes Go.ChangeAt Go.RowKit Go.Deep Go.Joins
set_option linter.unusedVariables false
set_option linter.unusedSimpArgs false

theorem snorder_out (A : Option Addr) (n c : Nat) (lo hi ed p mo want more : Int) (w : World) (hx : n ≤ 9223372036854775807) (h : 300 < n ∨ mo < 0 ∨ 1073741824 < mo ∨ want < 0 ∨ mo < want ∨ more < 0 ∨ 1073741824 < more) :
    Calls Try.prog 6 #[.slice A n c, .agg #[.int .i64 lo, .int .i64 hi, .int .i64 ed], .int .i64 p, .int .i64 mo, .int .i64 want, .int .i64 more] w fun e w' => e = .returned (.bool true) ∧ Below w.heap.size w w' := by
  by_cases h0 : 300 < n
  · have e0 : decide (300 < (n : Int)) = true := by simp; omega
    go_enter Try.func6, Try.ntmps6
    go_wp2_with ((go_at_call 10; with_reducible refine (snworks_any _).mono ?_; rintro e w1 ⟨rfl, hb⟩; have hB := Below.after (Below.alloc' (Below.refl _ _) _) hb; obtain ⟨hc, hf⟩ := bcell hb))
    go_ret
    exact ⟨rfl, hB⟩
  · have e0 : decide (300 < (n : Int)) = false := by simp; omega
    by_cases h1 : mo < 0
    · have e1 : decide (mo < 0) = true := by simp; omega
      go_enter Try.func6, Try.ntmps6
      go_wp2_with ((go_at_call 10; with_reducible refine (snworks_any _).mono ?_; rintro e w1 ⟨rfl, hb⟩; have hB := Below.after (Below.alloc' (Below.refl _ _) _) hb; obtain ⟨hc, hf⟩ := bcell hb))
      go_ret
      exact ⟨rfl, hB⟩
    · have e1 : decide (mo < 0) = false := by simp; omega
      by_cases h2 : 1073741824 < mo
      · have e2 : decide (1073741824 < mo) = true := by simp; omega
        go_enter Try.func6, Try.ntmps6
        go_wp2_with ((go_at_call 10; with_reducible refine (snworks_any _).mono ?_; rintro e w1 ⟨rfl, hb⟩; have hB := Below.after (Below.alloc' (Below.refl _ _) _) hb; obtain ⟨hc, hf⟩ := bcell hb))
        go_ret
        exact ⟨rfl, hB⟩
      · have e2 : decide (1073741824 < mo) = false := by simp; omega
        by_cases h3 : want < 0
        · have e3 : decide (want < 0) = true := by simp; omega
          go_enter Try.func6, Try.ntmps6
          go_wp2_with ((go_at_call 10; with_reducible refine (snworks_any _).mono ?_; rintro e w1 ⟨rfl, hb⟩; have hB := Below.after (Below.alloc' (Below.refl _ _) _) hb; obtain ⟨hc, hf⟩ := bcell hb))
          go_ret
          exact ⟨rfl, hB⟩
        · have e3 : decide (want < 0) = false := by simp; omega
          by_cases h4 : mo < want
          · have e4 : decide (mo < want) = true := by simp; omega
            go_enter Try.func6, Try.ntmps6
            go_wp2_with ((go_at_call 10; with_reducible refine (snworks_any _).mono ?_; rintro e w1 ⟨rfl, hb⟩; have hB := Below.after (Below.alloc' (Below.refl _ _) _) hb; obtain ⟨hc, hf⟩ := bcell hb))
            go_ret
            exact ⟨rfl, hB⟩
          · have e4 : decide (mo < want) = false := by simp; omega
            by_cases h5 : more < 0
            · have e5 : decide (more < 0) = true := by simp; omega
              go_enter Try.func6, Try.ntmps6
              go_wp2_with ((go_at_call 10; with_reducible refine (snworks_any _).mono ?_; rintro e w1 ⟨rfl, hb⟩; have hB := Below.after (Below.alloc' (Below.refl _ _) _) hb; obtain ⟨hc, hf⟩ := bcell hb))
              go_ret
              exact ⟨rfl, hB⟩
            · have e5 : decide (more < 0) = false := by simp; omega
              have h6 : 1073741824 < more := by omega
              have e6 : decide (1073741824 < more) = true := by simp; omega
              go_enter Try.func6, Try.ntmps6
              go_wp2_with ((go_at_call 10; with_reducible refine (snworks_any _).mono ?_; rintro e w1 ⟨rfl, hb⟩; have hB := Below.after (Below.alloc' (Below.refl _ _) _) hb; obtain ⟨hc, hf⟩ := bcell hb))
              go_ret
              exact ⟨rfl, hB⟩

set_option maxHeartbeats 1000000 in
theorem snorder_none (A : Option Addr) (l : Nat → Sn.Ar) (n c : Nat) (lo hi ed p mo want more : Int) (w : World) (hI : Areas w A l n) (hn : n ≤ 300) (hp : p ≤ 9223372036854775807) (h0 : 0 ≤ mo) (h1 : mo ≤ 1073741824) (h2 : 0 ≤ want) (h3 : want ≤ mo) (h4 : 0 ≤ more) (h5 : more ≤ 1073741824) (hs : Sn.stops l p mo n = []) :
    Calls Try.prog 6 #[.slice A n c, .agg #[.int .i64 lo, .int .i64 hi, .int .i64 ed], .int .i64 p, .int .i64 mo, .int .i64 want, .int .i64 more] w fun e w' => e = .returned (.bool true) ∧ Below w.heap.size w w' := by
  have e0 : decide (300 < (n : Int)) = false := by simp; omega
  have e1 : decide (mo < 0) = false := by simp; omega
  have e2 : decide (1073741824 < mo) = false := by simp; omega
  have e3 : decide (want < 0) = false := by simp; omega
  have e4 : decide (mo < want) = false := by simp; omega
  have e5 : decide (more < 0) = false := by simp; omega
  have e6 : decide (1073741824 < more) = false := by simp; omega
  have hn1 : n ≤ 1000 := by omega
  have HI := Lib.hid hI
  have HS := Lib.hid hs
  clear hI hs
  go_enter Try.func6, Try.ntmps6
  go_wp2_with (first | (go_at_call 10; with_reducible refine (snworks_any _).mono ?_; rintro e w1 ⟨rfl, hb⟩; have hB := Below.after (Below.alloc' (Below.refl _ _) _) hb; have hX := (At.new w _).keep hb; have hA := HI.out.after hB) | (go_at_call 17; with_reducible refine (stopsL_any (s := []) (q := 0) _ hA hp hn1 HS.out rfl).mono ?_; rintro e w2 ⟨A1, c1, rfl, hI1, hb⟩; replace hB := Below.after hB hb))
  go_ret
  exact ⟨rfl, hB⟩

/-- One row of all, and one area more. -/
theorem append_all {W : World} {A : Option Addr} {l : Nat → Sn.Ar} {n c : Nat} (lo hi ed : Int) (hA : Areas W A l n) (h0 : 0 < n) (hn : n ≤ 300) :
    ∃ v5 w5 A6 c6 w6, (Builtin.append_ #[23, 23] 23 #[.slice none 0 0, .slice A n c]).run Try.prog W = .ok v5 w5 ∧
      (Builtin.append_ #[23, 23] 23 #[v5, .slice (some ⟨w5.heap.size, 0, none⟩) 1 1]).run Try.prog (w5.alloc (.cells #[.int .i64 lo, .int .i64 hi, .int .i64 ed] 33)) = .ok (.slice A6 (n + 1) c6) w6 ∧
      Below W.heap.size W w5 ∧ Below W.heap.size W w6 ∧ Areas w6 A6 (fun i => if i < n then l i else ⟨lo, hi, ed⟩) (n + 1) := by
  obtain ⟨v5, w5, hr1, ho1, hB5, hb5⟩ := append_areas (l := l) (w0 := W) (c := c) (World.ownsRow_nil W W.heap.size 33 3) (Below.refl _ _) (Nat.le_refl _) hA (by omega) h0
  rw [Nat.zero_add] at ho1
  rw [flatA_congr (m := l) (n := n) (fun i hi => by simp)] at ho1
  obtain ⟨v6, w6, hr2, ho2, hB6, hb6⟩ := append_areas (c := 1) (q := fun _ => (⟨lo, hi, ed⟩ : Sn.Ar)) (m := 1) (ho1.alloc _) (hB5.alloc hb5 _) (by simp; omega) (area_new w5 33 ⟨lo, hi, ed⟩) (by omega) (by omega)
  obtain ⟨A6, c6, rfl, hA6⟩ := areas_of_own ho2
  exact ⟨v5, w5, A6, c6, w6, hr1, hr2, hB5, hB6, hA6⟩

set_option maxHeartbeats 4000000 in
theorem snorder_core (A : Option Addr) (l : Nat → Sn.Ar) (n c : Nat) (lo hi ed p mo want more : Int) (w : World) (hI : Areas w A l n) (hn : n ≤ 300) (hp : p ≤ 9223372036854775807) (h0 : 0 ≤ mo) (h1 : mo ≤ 1073741824) (h2 : 0 ≤ want) (h3 : want ≤ mo) (h4 : 0 ≤ more) (h5 : more ≤ 1073741824) (h6 : Sn.stops l p mo n ≠ []) :
    Calls Try.prog 6 #[.slice A n c, .agg #[.int .i64 lo, .int .i64 hi, .int .i64 ed], .int .i64 p, .int .i64 mo, .int .i64 want, .int .i64 more] w fun e w' => e = .returned (.bool true) ∧ Below w.heap.size w w' := by
  have e0 : decide (300 < (n : Int)) = false := by simp; omega
  have e1 : decide (mo < 0) = false := by simp; omega
  have e2 : decide (1073741824 < mo) = false := by simp; omega
  have e3 : decide (want < 0) = false := by simp; omega
  have e4 : decide (mo < want) = false := by simp; omega
  have e5 : decide (more < 0) = false := by simp; omega
  have e6 : decide (1073741824 < more) = false := by simp; omega
  have hn1 : n ≤ 1000 := by omega
  have hn2 : n + 1 ≤ 1000 := by omega
  have HI := Lib.hid hI
  obtain ⟨s, hs⟩ : ∃ s, Sn.stops l p mo n = s := ⟨_, rfl⟩
  rw [hs] at h6
  obtain ⟨q, hq⟩ : ∃ q, s.length = q := ⟨_, rfl⟩
  have hq0 : 0 < s.length := List.length_pos_iff.2 h6
  have hqn : s.length ≤ n := by rw [← hs]; exact Sn.stops_len l p mo n
  have hnp : 0 < n := by omega
  have f0 : ((q : Int) == 0) = false := by simp; omega
  obtain ⟨x, hx1, hx2⟩ : ∃ x, x ≤ want + more ∧ want + more ≤ x := ⟨want + more, by omega, by omega⟩
  have w1 : IntKind.i64.wrap (want + more) = x := by rw [IntWalk.i64_in _ (by omega)]; omega
  have hsm : ∀ x ∈ s, 0 ≤ x ∧ x ≤ max mo 0 ∧ x ≤ 1099511627776 := by rw [← hs]; exact fun x hx => Sn.stops_mem hx
  have hsm2 : ∀ x ∈ s, 0 ≤ x ∧ x ≤ 1099511627776 := fun x hx => ⟨(hsm x hx).1, (hsm x hx).2.2⟩
  have hk : Sn.liked want mo = want := by rw [Sn.liked_eq]; omega
  have hk2 : want ≤ Sn.liked x mo := by rw [Sn.liked_eq]; omega
  have hk3 : Sn.liked x mo ≤ 1099511627776 := by rw [Sn.liked_eq]; omega
  obtain ⟨r, hr⟩ : ∃ r, Sn.rest 1 s want = r := ⟨_, rfl⟩
  obtain ⟨r2, hr2⟩ : ∃ r, Sn.rest 1 s (Sn.liked x mo) = r := ⟨_, rfl⟩
  obtain ⟨l', hl'⟩ : ∃ l' : Nat → Sn.Ar, (fun i => if i < n then l i else ⟨lo, hi, ed⟩) = l' := ⟨_, rfl⟩
  obtain ⟨t, ht⟩ := Sn.stops_pre l' p mo n (n + 1) (by omega)
  have hc : Sn.stops l' p mo n = s := by rw [← hs]; exact Sn.stops_congr fun k hk => by rw [← hl']; simp [hk]
  rw [hc] at ht
  obtain ⟨r3, hr3⟩ : ∃ r, Sn.rest 1 (s ++ t) want = r := ⟨_, rfl⟩
  have hsm3 : ∀ x ∈ s ++ t, 0 ≤ x ∧ x ≤ max mo 0 ∧ x ≤ 1099511627776 := by rw [← ht]; exact fun x hx => Sn.stops_mem hx
  have b1 := Sn.rest_bd (kind := 1) (want := want) (m := mo) hsm
  have b2 := Sn.rest_bd (kind := 1) (want := x) (m := mo) hsm
  have b3 := Sn.rest_bd (kind := 1) (want := want) (m := mo) hsm3
  have hm := Sn.rest_mono hk2 h2 hk3 hsm2 hq0
  have hf := Sn.rest_more (s := s) (t := t) (w := want) hq0
  rw [hk, hr] at b1
  rw [hr2] at b2
  rw [hk, hr3] at b3
  rw [hr, hr2] at hm
  rw [hr, hr3, Sn.far_zero b1.1 b1.2.2 (by omega) (by omega), Sn.far_zero b3.1 b3.2.2 (by omega) (by omega)] at hf
  have f1 : decide (r ≤ r2) = true := decide_eq_true hm
  have f2 : decide (max (r3 - want) (want - r3) ≤ max (r - want) (want - r)) = true := decide_eq_true hf
  have w2 : IntKind.i64.wrap (r3 - want) = r3 - want := IntWalk.i64_in _ (by omega)
  have w3 : IntKind.i64.wrap (want - r3) = want - r3 := IntWalk.i64_in _ (by omega)
  have w4 : IntKind.i64.wrap (r - want) = r - want := IntWalk.i64_in _ (by omega)
  have w5 : IntKind.i64.wrap (want - r) = want - r := IntWalk.i64_in _ (by omega)
  have HR1 : Hid (Sn.rest 1 (Sn.stops l p mo n) (Sn.liked want mo) = r) := Lib.hid (by rw [hs, hk]; exact hr)
  have HR2 : Hid (Sn.rest 1 (Sn.stops l p mo n) (Sn.liked x mo) = r2) := Lib.hid (by rw [hs]; exact hr2)
  have HR3 : Hid (Sn.rest 1 (Sn.stops l' p mo (n + 1)) (Sn.liked want mo) = r3) := Lib.hid (by rw [ht, hk]; exact hr3)
  have HS := Lib.hid hs
  have HQ := Lib.hid hq
  have HL := Lib.hid hl'
  clear hI hs hq hl' ht hc hr hr2 hr3 hsm hsm2 hsm3 hk hk2 hk3 h6 hf hm b1 b2 b3 hq0 hqn hx1 hx2
  go_enter Try.func6, Try.ntmps6
  go_wp2_with (first
    | (go_at_call 10; with_reducible refine (snworks_any _).mono ?_; rintro e w1 ⟨rfl, hb⟩; have hB := Below.after (Below.alloc' (Below.refl _ _) _) hb; have hX := (At.new w _).keep hb; have hA := HI.out.after hB)
    | (go_at_call 17; with_reducible refine (stopsL_any _ hA hp hn1 HS.out HQ.out).mono ?_; rintro e w2 ⟨A1, c1, rfl, hI1, hb⟩; replace hA := hA.after hb; replace hX := hX.keep hb; replace hB := Below.after hB hb)
    | (go_at_call 14; with_reducible refine (srestL_any (want := want) (A := A) _ hA hp hn1 HR1.out).mono ?_; rintro e w3 ⟨rfl, hb⟩; replace hA := hA.after hb; replace hX := hX.keep hb; replace hB := Below.after hB hb)
    | (go_at_call 14; with_reducible refine (srestL_any (want := x) (A := A) _ hA hp hn1 HR2.out).mono ?_; rintro e w4 ⟨rfl, hb⟩; replace hA := hA.after hb; replace hX := hX.keep hb; replace hB := Below.after hB hb; obtain ⟨v5, w5, A6, c6, w6, hrun1, hrun2, hB5, hB6, hA6⟩ := append_all (c := c) lo hi ed hA hnp hn; rw [HL.out] at hA6; have HRUN1 := Lib.hid hrun1; have HRUN2 := Lib.hid hrun2; clear hrun1 hrun2; obtain ⟨lb, y0, y1, y2⟩ := At.three (hX.keep hB5); have hB7 := Below.after hB hB6)
    | (at_builtin; refine wpList_append_run (by rfl) _ _ 23 rfl rfl rfl HRUN1.out ?_)
    | (at_builtin; refine wpList_append_run (by rfl) _ _ 23 rfl rfl rfl HRUN2.out ?_)
    | (go_at_call 14; with_reducible refine (srestL_any (want := want) (A := A6) _ hA6 hp hn2 HR3.out).mono ?_; rintro e w7 ⟨rfl, hb⟩; replace hB7 := Below.after hB7 hb))
  go_ret
  exact ⟨rfl, hB7⟩

theorem snorder_walk (A : Option Addr) (n c : Nat) (lo hi ed p mo want more : Int) (w : World) (hI : IRow w A n c) (hp : p ≤ 9223372036854775807) :
    Calls Try.prog 6 #[.slice A n c, .agg #[.int .i64 lo, .int .i64 hi, .int .i64 ed], .int .i64 p, .int .i64 mo, .int .i64 want, .int .i64 more] w fun e w' => e = .returned (.bool true) ∧ Below w.heap.size w w' := by
  obtain ⟨l, hA⟩ := hI.areas
  by_cases h : 300 < n ∨ mo < 0 ∨ 1073741824 < mo ∨ want < 0 ∨ mo < want ∨ more < 0 ∨ 1073741824 < more
  · exact snorder_out A n c lo hi ed p mo want more w hI.cap.2 h
  · by_cases hs : Sn.stops l p mo n = []
    · exact snorder_none A l n c lo hi ed p mo want more w hA (by omega) hp (by omega) (by omega) (by omega) (by omega) (by omega) (by omega) hs
    · exact snorder_core A l n c lo hi ed p mo want more w hA (by omega) hp (by omega) (by omega) (by omega) (by omega) (by omega) (by omega) hs

end Go.Proofs.Ytlmpkpjonkdaiaa.Fix
