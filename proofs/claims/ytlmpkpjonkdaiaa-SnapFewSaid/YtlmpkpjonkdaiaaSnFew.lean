/- SnapFew: it returns true, and leaves all that was there as it was. Written by wip/tools/gensnlaws.py. -/
import Derived.Test.YtlmpkpjonkdaiaaSnapLaw0
import Derived.Test.YtlmpkpjonkdaiaaSnapMore
namespace Go.Proofs.Ytlmpkpjonkdaiaa.Fix
open Go.ChangeShapes Go.WideShapes Go.ChangeAt Go.RowKit Go.Deep Go.Joins
set_option linter.unusedVariables false
set_option linter.unusedSimpArgs false

theorem snfew_out (A : Option Addr) (n c : Nat) (p mo : Int) (w : World) (hx : n ≤ 9223372036854775807) (h : 300 < n) :
    Calls Try.prog 9 #[.slice A n c, .int .i64 p, .int .i64 mo] w fun e w' => e = .returned (.bool true) ∧ Below w.heap.size w w' := by
  have h0 : 300 < n := by omega
  have e0 : decide (300 < (n : Int)) = true := by simp; omega
  go_enter Try.func9, Try.ntmps9
  go_wp2_with ((go_at_call 10; with_reducible refine (snworks_any _).mono ?_; rintro e w1 ⟨rfl, hB⟩))
  go_ret
  exact ⟨rfl, hB⟩

set_option maxHeartbeats 4000000 in
theorem snfew_core (A : Option Addr) (l : Nat → Sn.Ar) (n c : Nat) (p mo : Int) (w : World) (hI : Areas w A l n) (hn : n ≤ 300) (hp : p ≤ 9223372036854775807) :
    Calls Try.prog 9 #[.slice A n c, .int .i64 p, .int .i64 mo] w fun e w' => e = .returned (.bool true) ∧ Below w.heap.size w w' := by
  have e0 : decide (300 < (n : Int)) = false := by simp; omega
  have hn1 : n ≤ 1000 := by omega
  have HI := Lib.hid hI
  obtain ⟨s, hs⟩ : ∃ s, Sn.stops l p mo n = s := ⟨_, rfl⟩
  obtain ⟨q, hq⟩ : ∃ q, s.length = q := ⟨_, rfl⟩
  have hqn : q ≤ n := by rw [← hq, ← hs]; exact Sn.stops_len l p mo n
  have HS := Lib.hid hs
  have HQ := Lib.hid hq
  clear hI hs hq
  go_enter Try.func9, Try.ntmps9
  go_wp2_with (first | (go_at_call 10; with_reducible refine (snworks_any _).mono ?_; rintro e w1 ⟨rfl, hB⟩) | (go_at_call 17; with_reducible refine (stopsL_any _ (HI.out.after hB) hp hn1 HS.out HQ.out).mono ?_; rintro e w2 ⟨A1, c1, rfl, hI1, hb⟩; replace hB := Below.after hB hb))
  have HI1 := Lib.hid hI1
  go_loopw [9, 10] (fun kk i wr => ∃ k : Nat, k ≤ n ∧ i = .int .i64 k ∧ kk = .int .i64 ((Sn.stops l p mo k).length : Nat) ∧ Below w2.heap.size w2 wr) (fun _ i _ => n - (intOf i).toNat)
  case atStart => exact ⟨0, by omega, rfl, rfl, Below.refl _ _⟩
  case round =>
    obtain ⟨k, hk, rfl, rfl, hBr⟩ := hrel
    by_cases hlt : k < n
    · have hltz : (k : Int) < (n : Int) := by omega
      obtain ⟨b, off, rfl, lb, d0, d1, d2⟩ := ((HI.out.after hB).after hBr).at_ hlt
      obtain ⟨z, hz⟩ : ∃ z, z = Sn.at_ (l k).lo (l k).hi (l k).e p := ⟨_, rfl⟩
      obtain ⟨b1, hb1⟩ : ∃ b, b = Sn.snaps (l k).e := ⟨_, rfl⟩
      have hcs := inn_cases (l k) p mo z b1 hz hb1
      have hlen := Sn.stops_len l p mo k
      have hyes : Sn.inn (l k) p mo = true → (Sn.stops l p mo (k + 1)).length = (Sn.stops l p mo k).length + 1 := fun h => by rw [Sn.stops_yes h, List.length_append]; rfl
      have hno : Sn.inn (l k) p mo = false → (Sn.stops l p mo (k + 1)).length = (Sn.stops l p mo k).length := fun h => by rw [Sn.stops_no h]
      have hat : Sn.inn (l k) p mo = true → (Sn.stops l p mo k).length < q ∧ s.getD (Sn.stops l p mo k).length 0 = z := fun h => by
        have := Sn.stops_at hlt h; rw [HS.out, HQ.out] at this; exact ⟨this.1, this.2.trans hz.symm⟩
      have HYES := Lib.hid hyes
      have HNO := Lib.hid hno
      have HAT := Lib.hid hat
      have HZ := Lib.hid hz
      have HB1 := Lib.hid hb1
      clear hyes hno hat hz hb1 hI1
      generalize (Sn.stops l p mo k).length = g at *
      generalize (l k).lo = lo at *
      generalize (l k).hi = hi at *
      generalize (l k).e = ed at *
      rcases hcs with ⟨hin, rfl⟩ | ⟨hin, rfl, q1⟩ | ⟨hin, rfl, q1, q2⟩ | ⟨hin, rfl, q1, q2⟩
      · go_wp2_with (go_at_call 12; with_reducible refine (snat_at _ hp HZ.out HB1.out).mono ?_; rintro e w3 ⟨rfl, hb3⟩; obtain ⟨hc3, hf3⟩ := bcell hb3)
        go_roundw
        case rel => exact ⟨k + 1, by omega, by go_num, by rw [HNO.out hin], Below.after hBr hb3⟩
        case measure => simp [intOf]; omega
      · have f1 : decide (z < 0) = true := by simp; omega
        go_wp2_with (go_at_call 12; with_reducible refine (snat_at _ hp HZ.out HB1.out).mono ?_; rintro e w3 ⟨rfl, hb3⟩; obtain ⟨hc3, hf3⟩ := bcell hb3)
        go_roundw
        case rel => exact ⟨k + 1, by omega, by go_num, by rw [HNO.out hin], Below.after hBr hb3⟩
        case measure => simp [intOf]; omega
      · have f1 : decide (z < 0) = false := by simp; omega
        have f2 : decide (max mo 0 < z) = true := by simp; omega
        go_wp2_with (go_at_call 12; with_reducible refine (snat_at _ hp HZ.out HB1.out).mono ?_; rintro e w3 ⟨rfl, hb3⟩; obtain ⟨hc3, hf3⟩ := bcell hb3)
        go_roundw
        case rel => exact ⟨k + 1, by omega, by go_num, by rw [HNO.out hin], Below.after hBr hb3⟩
        case measure => simp [intOf]; omega
      · have f1 : decide (z < 0) = false := by simp; omega
        have f2 : decide (max mo 0 < z) = false := by simp; omega
        obtain ⟨hgq, hgz⟩ := HAT.out hin
        have f3 : decide ((q : Int) ≤ (g : Int)) = false := by simp; omega
        have hgqz : (g : Int) < (q : Int) := by omega
        obtain ⟨bs, os, hAs, ls, cs⟩ := (HI1.out.after hBr).at_ (k := g) (by rw [HQ.out]; exact hgq)
        subst hAs
        rw [hgz] at cs
        go_wp2_with (go_at_call 12; with_reducible refine (snat_at _ hp HZ.out HB1.out).mono ?_; rintro e w3 ⟨rfl, hb3⟩; obtain ⟨hc3, hf3⟩ := bcell hb3)
        go_roundw
        case rel => exact ⟨k + 1, by omega, by go_num, by rw [HYES.out hin]; go_num, Below.after hBr hb3⟩
        case measure => simp [intOf]; omega
    · obtain rfl : k = n := by omega
      have hltz : ¬ (k : Int) < (k : Int) := by omega
      rw [HS.out, HQ.out]
      replace hB := Below.after hB hBr
      have hp0 : 0 ≤ 1000 := by omega
      have f5 : ((q : Int) == (q : Int)) = true := by simp
      go_wp2_with (go_at_call 17; with_reducible refine (stopsL_any (l := l) (m := 0) (s := []) (q := 0) _ (Areas.nil _ _ _) hp (by omega) rfl rfl).mono ?_; rintro e w5 ⟨A5, c5, rfl, _, hb⟩; replace hB := Below.after hB hb)
      go_ret
      exact ⟨rfl, hB⟩

theorem snfew_walk (A : Option Addr) (n c : Nat) (p mo : Int) (w : World) (hI : IRow w A n c) (hp : p ≤ 9223372036854775807) :
    Calls Try.prog 9 #[.slice A n c, .int .i64 p, .int .i64 mo] w fun e w' => e = .returned (.bool true) ∧ Below w.heap.size w w' := by
  obtain ⟨l, hA⟩ := hI.areas
  by_cases h : 300 < n
  · exact snfew_out A n c p mo w hI.cap.2 h
  · exact snfew_core A l n c p mo w hA (by omega) hp

end Go.Proofs.Ytlmpkpjonkdaiaa.Fix
