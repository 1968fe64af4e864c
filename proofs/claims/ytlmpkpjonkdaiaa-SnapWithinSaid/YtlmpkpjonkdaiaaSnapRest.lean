/- The contracts of Rest of the layer snap, and of the document's own answer for it. -/
import Derived.Test.YtlmpkpjonkdaiaaSnapBest
namespace Go.Proofs.Ytlmpkpjonkdaiaa.Fix
open Go.ChangeShapes Go.WideShapes Go.ChangeAt Go.RowKit Go.Shelf
set_option linter.unusedVariables false

theorem stopsL_any {A : Option Addr} {l : Nat → Sn.Ar} {m c q : Nat} {p mo : Int} {s : List Int} (w : World) (hI : Areas w A l m) (hp : p ≤ 9223372036854775807) (hm : m ≤ 1000) (hs : Sn.stops l p mo m = s) (hq : s.length = q) :
    Calls Try.prog 17 #[.slice A m c, .int .i64 p, .int .i64 mo] w fun e w' => ∃ A' c', e = .returned (.slice A' q c') ∧ Ints w' A' s ∧ Below w.heap.size w w' := by
  subst hs; subst hq; exact stopsI_any A l m c p mo w hI hp hm
theorem rstopsL_any {A : Option Addr} {l : Nat → Sn.Ar} {m c q : Nat} {p mo : Int} {s : List Int} (w : World) (hI : Areas w A l m) (hm : m ≤ 1000) (hs : Sn.stops l p mo m = s) (hq : s.length = q) :
    Calls Try.prog 18 #[.slice A m c, .int .i64 p, .int .i64 mo] w fun e w' => ∃ A' c', e = .returned (.slice A' q c') ∧ Ints w' A' s ∧ Below w.heap.size w w' := by
  subst hs; subst hq; exact rstopsI_any A l m c p mo w hI hm
theorem bestL_any {A : Option Addr} {s : List Int} {n c : Nat} {want b : Int} (w : World) (hI : Ints w A s) (hl : s.length = n) (hb : Sn.best s want n = b) :
    Calls Try.prog 19 #[.slice A n c, .int .i64 want] w fun e w' => e = .returned (.int .i64 b) ∧ Below w.heap.size w w' := by
  subst hb; exact best_any A s n c want w hI hl
theorem rbestL_any {A : Option Addr} {s : List Int} {n c : Nat} {want b : Int} (w : World) (hI : Ints w A s) (hl : s.length = n) (hb : Sn.best s want n = b) :
    Calls Try.prog 20 #[.slice A n c, .int .i64 want] w fun e w' => e = .returned (.int .i64 b) ∧ Below w.heap.size w w' := by
  subst hb; exact rbest_any A s n c want w hI hl
theorem clampL_any {n lo hi k : Int} (w : World) (hk : Fx.clamp n lo hi = k) : Calls Try.prog 29 #[.int .i64 n, .int .i64 lo, .int .i64 hi] w fun e w' => e = .returned (.int .i64 k) ∧ w = w' := by
  subst hk; exact clamp_any _ _ _ _
theorem rclampL_any {n lo hi k : Int} (w : World) (hk : Fx.clamp n lo hi = k) : Calls Try.prog 31 #[.int .i64 n, .int .i64 lo, .int .i64 hi] w fun e w' => e = .returned (.int .i64 k) ∧ w = w' := by
  subst hk; exact rclamp_any _ _ _ _

set_option maxHeartbeats 1000000 in
theorem srest_any (kind : Int) (A : Option Addr) (l : Nat → Sn.Ar) (m c : Nat) (p mo want : Int) (w : World) (hI : Areas w A l m) (hp : p ≤ 9223372036854775807) (hm : m ≤ 1000) :
    Calls Try.prog 14 #[.int .i64 kind, .slice A m c, .int .i64 p, .int .i64 mo, .int .i64 want] w fun e w' => e = .returned (.int .i64 (Sn.rest kind (Sn.stops l p mo m) (Sn.liked want mo))) ∧ Below w.heap.size w w' := by
  have HI := Lib.hid hI
  obtain ⟨s, hs⟩ : ∃ s, Sn.stops l p mo m = s := ⟨_, rfl⟩
  obtain ⟨k, hk⟩ : ∃ k, Sn.liked want mo = k := ⟨_, rfl⟩
  obtain ⟨q, hq⟩ : ∃ q, s.length = q := ⟨_, rfl⟩
  have hqm : q ≤ m := by rw [← hq, ← hs]; exact Sn.stops_len l p mo m
  rw [hs, hk]
  have HS := Lib.hid hs
  have HQ := Lib.hid hq
  have HK : Hid (Fx.clamp want 0 mo = k) := Lib.hid (by rw [← hk]; exact rfl)
  clear hI hs hk hq
  by_cases h0 : Sn.best s k q < 0
  · obtain ⟨b, hb⟩ : ∃ b, Sn.best s k q = b := ⟨_, rfl⟩
    rw [hb] at h0
    have HB := Lib.hid hb
    have HR : Hid (k = Sn.rest kind s k) := Lib.hid (by unfold Sn.rest; rw [HQ.out, HB.out, if_pos h0])
    clear hb
    have e1 : decide (b < 0) = true := by simp; omega
    go_enter Try.func14, Try.ntmps14
    go_wp2_with (first | (go_at_call 29; with_reducible refine (clampL_any _ HK.out).mono ?_; rintro e w1 ⟨rfl, rfl⟩) | (go_at_call 17; with_reducible refine (stopsL_any _ HI.out hp hm HS.out HQ.out).mono ?_; rintro e w1 ⟨A1, c1, rfl, hI1, hB1⟩) | (go_at_call 19; with_reducible refine (bestL_any _ hI1 HQ.out HB.out).mono ?_; rintro e w2 ⟨rfl, hb2⟩; have hB2 := Below.after hB1 hb2; have HI2 := Lib.hid (hI1.after hb2)) | (first | (go_at_call 30; (with_reducible refine (off_any _ _ _).mono ?_); rintro e w' ⟨rfl, rfl⟩)))
    go_ret
    exact ⟨ret_int HR.out, hB2⟩
  · obtain ⟨j, hj, hb⟩ := Sn.best_some h0
    have e1 : decide ((j : Int) < 0) = false := by simp
    have hjq : (j : Int) < (q : Int) := by omega
    have HB := Lib.hid hb
    have HBL : Hid (Sn.best s k s.length = j) := Lib.hid (by rw [HQ.out]; exact HB.out)
    clear hb h0
    obtain ⟨x, hx⟩ : ∃ x, s.getD j 0 = x := ⟨_, rfl⟩
    have HX := Lib.hid hx
    clear hx
    have hq1 : q ≤ 1000 := by omega
    by_cases k1 : kind = 1
    · subst k1
      have HR : Hid (x = Sn.rest 1 s k) := Lib.hid (by rw [Sn.rest_stop HBL.out (.inl rfl), HX.out])
      go_enter Try.func14, Try.ntmps14
      go_wp2_with (first | (go_at_call 29; with_reducible refine (clampL_any _ HK.out).mono ?_; rintro e w1 ⟨rfl, rfl⟩) | (go_at_call 17; with_reducible refine (stopsL_any _ HI.out hp hm HS.out HQ.out).mono ?_; rintro e w1 ⟨A1, c1, rfl, hI1, hB1⟩) | (go_at_call 19; with_reducible refine (bestL_any _ hI1 HQ.out HB.out).mono ?_; rintro e w2 ⟨rfl, hb2⟩; have hB2 := Below.after hB1 hb2; have HI2 := Lib.hid (hI1.after hb2); obtain ⟨ba, oa, hA1, la, ca⟩ := HI2.out.at_ (k := j) (by rw [HQ.out]; exact hj); subst hA1; rw [HX.out] at ca) | (first | (go_at_call 30; (with_reducible refine (off_any _ _ _).mono ?_); rintro e w' ⟨rfl, rfl⟩)))
      go_ret
      exact ⟨ret_int HR.out, hB2⟩
    · by_cases k2 : kind = 2
      · subst k2
        by_cases hf : Sn.far x k ≤ 6400
        · have e2 : decide (Sn.far x k ≤ 6400) = true := by simp; omega
          have HR : Hid (x = Sn.rest 2 s k) := Lib.hid (by rw [Sn.rest_stop HBL.out (.inr ⟨rfl, by rw [HX.out]; exact hf⟩), HX.out])
          go_enter Try.func14, Try.ntmps14
          go_wp2_with (first | (go_at_call 29; with_reducible refine (clampL_any _ HK.out).mono ?_; rintro e w1 ⟨rfl, rfl⟩) | (go_at_call 17; with_reducible refine (stopsL_any _ HI.out hp hm HS.out HQ.out).mono ?_; rintro e w1 ⟨A1, c1, rfl, hI1, hB1⟩) | (go_at_call 19; with_reducible refine (bestL_any _ hI1 HQ.out HB.out).mono ?_; rintro e w2 ⟨rfl, hb2⟩; have hB2 := Below.after hB1 hb2; have HI2 := Lib.hid (hI1.after hb2); obtain ⟨ba, oa, hA1, la, ca⟩ := HI2.out.at_ (k := j) (by rw [HQ.out]; exact hj); subst hA1; rw [HX.out] at ca) | (first | (go_at_call 30; (with_reducible refine (off_any _ _ _).mono ?_); rintro e w' ⟨rfl, rfl⟩)))
          go_ret
          exact ⟨ret_int HR.out, hB2⟩
        · have e2 : decide (Sn.far x k ≤ 6400) = false := by simp; omega
          have HR : Hid (k = Sn.rest 2 s k) := Lib.hid (by rw [Sn.rest_liked HBL.out (by rw [HX.out]; rintro (h | ⟨_, h⟩); exact absurd h (by decide); exact hf h)])
          go_enter Try.func14, Try.ntmps14
          go_wp2_with (first | (go_at_call 29; with_reducible refine (clampL_any _ HK.out).mono ?_; rintro e w1 ⟨rfl, rfl⟩) | (go_at_call 17; with_reducible refine (stopsL_any _ HI.out hp hm HS.out HQ.out).mono ?_; rintro e w1 ⟨A1, c1, rfl, hI1, hB1⟩) | (go_at_call 19; with_reducible refine (bestL_any _ hI1 HQ.out HB.out).mono ?_; rintro e w2 ⟨rfl, hb2⟩; have hB2 := Below.after hB1 hb2; have HI2 := Lib.hid (hI1.after hb2); obtain ⟨ba, oa, hA1, la, ca⟩ := HI2.out.at_ (k := j) (by rw [HQ.out]; exact hj); subst hA1; rw [HX.out] at ca) | (first | (go_at_call 30; (with_reducible refine (off_any _ _ _).mono ?_); rintro e w' ⟨rfl, rfl⟩)))
          go_ret
          exact ⟨ret_int HR.out, hB2⟩
      · have d1 : (kind == 1) = false := by simp [k1]
        have d2 : (kind == 2) = false := by simp [k2]
        have HR : Hid (k = Sn.rest kind s k) := Lib.hid (by rw [Sn.rest_liked HBL.out (by rintro (h | ⟨h, _⟩); exact k1 h; exact k2 h)])
        go_enter Try.func14, Try.ntmps14
        go_wp2_with (first | (go_at_call 29; with_reducible refine (clampL_any _ HK.out).mono ?_; rintro e w1 ⟨rfl, rfl⟩) | (go_at_call 17; with_reducible refine (stopsL_any _ HI.out hp hm HS.out HQ.out).mono ?_; rintro e w1 ⟨A1, c1, rfl, hI1, hB1⟩) | (go_at_call 19; with_reducible refine (bestL_any _ hI1 HQ.out HB.out).mono ?_; rintro e w2 ⟨rfl, hb2⟩; have hB2 := Below.after hB1 hb2; have HI2 := Lib.hid (hI1.after hb2); obtain ⟨ba, oa, hA1, la, ca⟩ := HI2.out.at_ (k := j) (by rw [HQ.out]; exact hj); subst hA1; rw [HX.out] at ca) | (first | (go_at_call 30; (with_reducible refine (off_any _ _ _).mono ?_); rintro e w' ⟨rfl, rfl⟩)))
        go_ret
        exact ⟨ret_int HR.out, hB2⟩

set_option maxHeartbeats 1000000 in
theorem rsrest_any (kind : Int) (A : Option Addr) (l : Nat → Sn.Ar) (m c : Nat) (p mo want : Int) (w : World) (hI : Areas w A l m) (hm : m ≤ 1000) :
    Calls Try.prog 15 #[.int .i64 kind, .slice A m c, .int .i64 p, .int .i64 mo, .int .i64 want] w fun e w' => e = .returned (.int .i64 (Sn.rest kind (Sn.stops l p mo m) (Sn.liked want mo))) ∧ Below w.heap.size w w' := by
  have HI := Lib.hid hI
  obtain ⟨s, hs⟩ : ∃ s, Sn.stops l p mo m = s := ⟨_, rfl⟩
  obtain ⟨k, hk⟩ : ∃ k, Sn.liked want mo = k := ⟨_, rfl⟩
  obtain ⟨q, hq⟩ : ∃ q, s.length = q := ⟨_, rfl⟩
  have hqm : q ≤ m := by rw [← hq, ← hs]; exact Sn.stops_len l p mo m
  rw [hs, hk]
  have HS := Lib.hid hs
  have HQ := Lib.hid hq
  have HK : Hid (Fx.clamp want 0 (max mo 0) = k) := Lib.hid (by rw [← hk]; exact Sn.rliked_eq _ _)
  clear hI hs hk hq
  by_cases h0 : Sn.best s k q < 0
  · obtain ⟨b, hb⟩ : ∃ b, Sn.best s k q = b := ⟨_, rfl⟩
    rw [hb] at h0
    have HB := Lib.hid hb
    have HR : Hid (k = Sn.rest kind s k) := Lib.hid (by unfold Sn.rest; rw [HQ.out, HB.out, if_pos h0])
    clear hb
    have e1 : decide (b < 0) = true := by simp; omega
    go_enter Try.func15, Try.ntmps15
    go_wp2_with (first | (go_at_call 31; with_reducible refine (rclampL_any _ HK.out).mono ?_; rintro e w1 ⟨rfl, rfl⟩) | (go_at_call 18; with_reducible refine (rstopsL_any _ HI.out hm HS.out HQ.out).mono ?_; rintro e w1 ⟨A1, c1, rfl, hI1, hB1⟩) | (go_at_call 20; with_reducible refine (rbestL_any _ hI1 HQ.out HB.out).mono ?_; rintro e w2 ⟨rfl, hb2⟩; have hB2 := Below.after hB1 hb2; have HI2 := Lib.hid (hI1.after hb2)) | (first | (go_at_call 32; (with_reducible refine (rfar_any _ _ _).mono ?_); rintro e w' ⟨rfl, rfl⟩)))
    go_ret
    exact ⟨ret_int HR.out, hB2⟩
  · obtain ⟨j, hj, hb⟩ := Sn.best_some h0
    have e1 : decide ((j : Int) < 0) = false := by simp
    have hjq : (j : Int) < (q : Int) := by omega
    have HB := Lib.hid hb
    have HBL : Hid (Sn.best s k s.length = j) := Lib.hid (by rw [HQ.out]; exact HB.out)
    clear hb h0
    obtain ⟨x, hx⟩ : ∃ x, s.getD j 0 = x := ⟨_, rfl⟩
    have HX := Lib.hid hx
    clear hx
    have hq1 : q ≤ 1000 := by omega
    by_cases k1 : kind = 1
    · subst k1
      have HR : Hid (x = Sn.rest 1 s k) := Lib.hid (by rw [Sn.rest_stop HBL.out (.inl rfl), HX.out])
      go_enter Try.func15, Try.ntmps15
      go_wp2_with (first | (go_at_call 31; with_reducible refine (rclampL_any _ HK.out).mono ?_; rintro e w1 ⟨rfl, rfl⟩) | (go_at_call 18; with_reducible refine (rstopsL_any _ HI.out hm HS.out HQ.out).mono ?_; rintro e w1 ⟨A1, c1, rfl, hI1, hB1⟩) | (go_at_call 20; with_reducible refine (rbestL_any _ hI1 HQ.out HB.out).mono ?_; rintro e w2 ⟨rfl, hb2⟩; have hB2 := Below.after hB1 hb2; have HI2 := Lib.hid (hI1.after hb2); obtain ⟨ba, oa, hA1, la, ca⟩ := HI2.out.at_ (k := j) (by rw [HQ.out]; exact hj); subst hA1; rw [HX.out] at ca) | (first | (go_at_call 32; (with_reducible refine (rfar_any _ _ _).mono ?_); rintro e w' ⟨rfl, rfl⟩)))
      go_ret
      exact ⟨ret_int HR.out, hB2⟩
    · by_cases k2 : kind = 2
      · subst k2
        by_cases hf : Sn.far x k ≤ 6400
        · have e2 : decide (6400 < Sn.far x k) = false := by simp; omega
          have HR : Hid (x = Sn.rest 2 s k) := Lib.hid (by rw [Sn.rest_stop HBL.out (.inr ⟨rfl, by rw [HX.out]; exact hf⟩), HX.out])
          go_enter Try.func15, Try.ntmps15
          go_wp2_with (first | (go_at_call 31; with_reducible refine (rclampL_any _ HK.out).mono ?_; rintro e w1 ⟨rfl, rfl⟩) | (go_at_call 18; with_reducible refine (rstopsL_any _ HI.out hm HS.out HQ.out).mono ?_; rintro e w1 ⟨A1, c1, rfl, hI1, hB1⟩) | (go_at_call 20; with_reducible refine (rbestL_any _ hI1 HQ.out HB.out).mono ?_; rintro e w2 ⟨rfl, hb2⟩; have hB2 := Below.after hB1 hb2; have HI2 := Lib.hid (hI1.after hb2); obtain ⟨ba, oa, hA1, la, ca⟩ := HI2.out.at_ (k := j) (by rw [HQ.out]; exact hj); subst hA1; rw [HX.out] at ca) | (first | (go_at_call 32; (with_reducible refine (rfar_any _ _ _).mono ?_); rintro e w' ⟨rfl, rfl⟩)))
          go_ret
          exact ⟨ret_int HR.out, hB2⟩
        · have e2 : decide (6400 < Sn.far x k) = true := by simp; omega
          have HR : Hid (k = Sn.rest 2 s k) := Lib.hid (by rw [Sn.rest_liked HBL.out (by rw [HX.out]; rintro (h | ⟨_, h⟩); exact absurd h (by decide); exact hf h)])
          go_enter Try.func15, Try.ntmps15
          go_wp2_with (first | (go_at_call 31; with_reducible refine (rclampL_any _ HK.out).mono ?_; rintro e w1 ⟨rfl, rfl⟩) | (go_at_call 18; with_reducible refine (rstopsL_any _ HI.out hm HS.out HQ.out).mono ?_; rintro e w1 ⟨A1, c1, rfl, hI1, hB1⟩) | (go_at_call 20; with_reducible refine (rbestL_any _ hI1 HQ.out HB.out).mono ?_; rintro e w2 ⟨rfl, hb2⟩; have hB2 := Below.after hB1 hb2; have HI2 := Lib.hid (hI1.after hb2); obtain ⟨ba, oa, hA1, la, ca⟩ := HI2.out.at_ (k := j) (by rw [HQ.out]; exact hj); subst hA1; rw [HX.out] at ca) | (first | (go_at_call 32; (with_reducible refine (rfar_any _ _ _).mono ?_); rintro e w' ⟨rfl, rfl⟩)))
          go_ret
          exact ⟨ret_int HR.out, hB2⟩
      · have d1 : (kind == 1) = false := by simp [k1]
        have d2 : (kind == 2) = false := by simp [k2]
        have HR : Hid (k = Sn.rest kind s k) := Lib.hid (by rw [Sn.rest_liked HBL.out (by rintro (h | ⟨h, _⟩); exact k1 h; exact k2 h)])
        go_enter Try.func15, Try.ntmps15
        go_wp2_with (first | (go_at_call 31; with_reducible refine (rclampL_any _ HK.out).mono ?_; rintro e w1 ⟨rfl, rfl⟩) | (go_at_call 18; with_reducible refine (rstopsL_any _ HI.out hm HS.out HQ.out).mono ?_; rintro e w1 ⟨A1, c1, rfl, hI1, hB1⟩) | (go_at_call 20; with_reducible refine (rbestL_any _ hI1 HQ.out HB.out).mono ?_; rintro e w2 ⟨rfl, hb2⟩; have hB2 := Below.after hB1 hb2; have HI2 := Lib.hid (hI1.after hb2); obtain ⟨ba, oa, hA1, la, ca⟩ := HI2.out.at_ (k := j) (by rw [HQ.out]; exact hj); subst hA1; rw [HX.out] at ca) | (first | (go_at_call 32; (with_reducible refine (rfar_any _ _ _).mono ?_); rintro e w' ⟨rfl, rfl⟩)))
        go_ret
        exact ⟨ret_int HR.out, hB2⟩

end Go.Proofs.Ytlmpkpjonkdaiaa.Fix
