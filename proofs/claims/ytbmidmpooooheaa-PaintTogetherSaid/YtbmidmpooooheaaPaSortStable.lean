/- The contracts of the library's stable sort over places that are compared by their keys, and of Order. -/
import Derived.Test.YtbmidmpooooheaaPaSortIns
import Derived.Test.YtbmidmpooooheaaPaSortMid
set_option maxRecDepth 100000
namespace Go.Proofs.Ytbmidmpooooheaa.Fix
open Go.ChangeShapes Go.WideShapes Go.ChangeAt Go.RowKit
set_option linter.unusedVariables false

set_option maxHeartbeats 4000000 in
theorem pstable_any (b kb : Nat) (A : Option Addr) (ks : PKS) (n c cn : Nat) (w : World) (hk : PKeys w b kb A ks n c) (hA : IsV ks w b (fun k => k) n) (hn : n ≤ 10000) :
    Calls Try.prog 39 #[.slice (some ⟨b, 0, none⟩) n cn, .int .i64 n, .func (.func 32) #[] #[.pointer (some ⟨kb, 0, none⟩)]] w fun x w' => x = .returned (.tuple #[]) ∧ Only b w w' ∧ ∃ Y, IsV ks w' b Y n ∧ So.Blk (pkey ks) 0 n Y := by
  have HK0 := Lib.hid hk
  clear hk
  go_enter Try.func39, Try.ntmps39
  go_wp2
  go_loopw [7, 8] (fun va vb wr => ∃ (a a2 : Nat) (Y : Nat → Nat), va = .int .i64 a ∧ vb = .int .i64 a2 ∧ a2 ≤ a + 20 ∧ a + 20 ≤ a2 ∧ a ≤ n ∧ Hid (20 ∣ a) ∧ IsV ks wr b Y n ∧ Only b w wr ∧ Hid (So.First (pkey ks) 20 a Y)) (fun va _ _ => n + 20 - (intOf va).toNat)
  case atStart => exact ⟨0, 20, _, rfl, rfl, by omega, by omega, by omega, Lib.hid (Nat.dvd_zero _), hA, Only.refl _ _, Lib.hid (So.First.start _ _)⟩
  case round =>
    obtain ⟨a, a2, Y, rfl, rfl, a21, a22, han, hda, hY, hB, HF⟩ := hrel
    have HK := Lib.hid (HK0.out.keep hB)
    have HE : Hid (a + 20 = a2) := Lib.hid (by omega)
    by_cases hle : a2 ≤ n
    · have hlez : (a2 : Int) ≤ (n : Int) := by omega
      obtain ⟨a3, a31, a32⟩ : ∃ a3, a3 ≤ a2 + 20 ∧ a2 + 20 ≤ a3 := ⟨a2 + 20, by omega, by omega⟩
      have w1 : IntKind.i64.wrap ((a2 : Int) + 20) = (a3 : Int) := by rw [IntWalk.i64_in _ (by omega)]; omega
      go_wp2_with (go_at_call 40; (with_reducible refine (pins_any b kb A ks Y n c cn a a2 _ HK.out hY (fun k k1 _ => HF.out.rest k k1) (by omega) hle (by omega)).mono ?_); rintro x w2 ⟨rfl, hB2, Z, hZ, HZ, HM⟩)
      go_roundw
      case rel => exact ⟨a2, a3, Z, rfl, by go_num, by omega, by omega, hle, Lib.hid (by rw [← HE.out]; exact Nat.dvd_add hda.out (Nat.dvd_refl _)), hZ, hB.trans hB2, Lib.hid (by
        rw [← HE.out] at HZ HM ⊢
        exact HF.out.step hda.out HM HZ)⟩
      case measure => simp [intOf]; omega
    · have hlez : ¬ (a2 : Int) ≤ (n : Int) := by omega
      go_wp2_with (go_at_call 40; (with_reducible refine (pins_any b kb A ks Y n c cn a n _ HK.out hY (fun k k1 _ => HF.out.rest k k1) (by omega) (by omega) (by omega)).mono ?_); rintro x w2 ⟨rfl, hB2, Z, hZ, HZ, HM⟩)
      have HBL : Hid (So.Blks (pkey ks) 20 n Z) := Lib.hid (HF.out.over hda.out han (by omega) HM HZ)
      have hB3 := hB.trans hB2
      clear HM HZ hB2 hB hY HF HK HE hda
      go_loopw [6, 7, 8, 9] (fun vs _ _ _ wr => ∃ (s : Nat) (Y : Nat → Nat), vs = .int .i64 s ∧ 0 < s ∧ s ≤ 20 + 2 * n ∧ IsV ks wr b Y n ∧ Only b w wr ∧ Hid (So.Blks (pkey ks) s n Y)) (fun vs _ _ _ _ => 2 * n + 20 - (intOf vs).toNat)
      case atStart => exact ⟨20, Z, rfl, by omega, by omega, hZ, hB3, HBL⟩
      case round =>
        clear hZ hB3 HBL a21 a22 hle hlez
        obtain ⟨s, Y, rfl, s0, sn, hY, hB, HS⟩ := hrel
        by_cases hlt : s < n
        · have hltz : (s : Int) < (n : Int) := by omega
          obtain ⟨d, d1, d2⟩ : ∃ d, d ≤ 2 * s ∧ 2 * s ≤ d := ⟨2 * s, by omega, by omega⟩
          have w1 : IntKind.i64.wrap (2 * (s : Int)) = (d : Int) := by rw [IntWalk.i64_in _ (by omega)]; omega
          have w2 : IntKind.i64.wrap ((s : Int) * 2) = (d : Int) := by rw [IntWalk.i64_in _ (by omega)]; omega
          have HD : Hid (2 * s = d) := Lib.hid (by omega)
          have HH0 := Lib.hid (So.Half.start HS.out)
          go_wp2
          go_loopw [7, 8] (fun va vb wr => ∃ (a a2 : Nat) (Y : Nat → Nat), va = .int .i64 a ∧ vb = .int .i64 a2 ∧ a2 ≤ a + d ∧ a + d ≤ a2 ∧ a ≤ n ∧ Hid (2 * s ∣ a) ∧ IsV ks wr b Y n ∧ Only b w wr ∧ Hid (So.Half (pkey ks) s a n Y)) (fun va _ _ => n + d - (intOf va).toNat)
          case atStart => exact ⟨0, d, Y, rfl, rfl, by omega, by omega, by omega, Lib.hid (Nat.dvd_zero _), hY, hB, HH0⟩
          case round =>
            clear HH0 HS hY hB
            obtain ⟨a, a2, Y, rfl, rfl, a21, a22, han, hda, hY, hB, HH⟩ := hrel
            have HKY := Lib.hid (HK0.out.keep hB)
            obtain ⟨m, m1, m2⟩ : ∃ m, m ≤ a + s ∧ a + s ≤ m := ⟨a + s, by omega, by omega⟩
            have w3 : IntKind.i64.wrap ((a : Int) + (s : Int)) = (m : Int) := by rw [IntWalk.i64_in _ (by omega)]; omega
            have HM1 : Hid (a + s = m) := Lib.hid (by omega)
            have HE : Hid (a + 2 * s = a2) := Lib.hid (by omega)
            by_cases hle : a2 ≤ n
            · have hlez : (a2 : Int) ≤ (n : Int) := by omega
              obtain ⟨a3, a31, a32⟩ : ∃ a3, a3 ≤ a2 + d ∧ a2 + d ≤ a3 := ⟨a2 + d, by omega, by omega⟩
              have w4 : IntKind.i64.wrap ((a2 : Int) + (d : Int)) = (a3 : Int) := by rw [IntWalk.i64_in _ (by omega)]; omega
              obtain ⟨p1, p2⟩ := HH.out.parts s0 hda.out (by omega)
              rw [HM1.out, HE.out] at p1
              rw [HE.out] at p2
              have HP1 := Lib.hid p1
              have HP2 := Lib.hid p2
              clear p1 p2
              go_wp2_with (go_at_call 41; (with_reducible refine (psym_any b kb A ks n c cn (by omega) (a2 - a) Y a m a2 _ (by omega) HKY.out hY HP1.out HP2.out (by omega) (by omega) hle).mono ?_); rintro x w2 ⟨rfl, hB2, Z, hZ, HZ, HM⟩)
              go_roundw
              case rel => exact ⟨a2, a3, Z, rfl, by go_num, by omega, by omega, hle, Lib.hid (by rw [← HE.out]; exact Nat.dvd_add hda.out (Nat.dvd_refl _)), hZ, hB.trans hB2, Lib.hid (by
                rw [← HE.out] at HZ HM ⊢
                exact HH.out.step s0 hda.out (by rw [HE.out]; exact hle) HM HZ)⟩
              case measure => simp [intOf]; omega
            · have hlez : ¬ (a2 : Int) ≤ (n : Int) := by omega
              by_cases hm : m < n
              · have hmz : (m : Int) < (n : Int) := by omega
                obtain ⟨p1, p2⟩ := HH.out.ends hda.out (by omega) (by omega)
                rw [HM1.out] at p1
                have HP1 := Lib.hid p1
                have HP2 := Lib.hid p2
                clear p1 p2
                go_wp2_with (go_at_call 41; (with_reducible refine (psym_any b kb A ks n c cn (by omega) (n - a) Y a m n _ (by omega) HKY.out hY HP1.out HP2.out (by omega) (by omega) (Nat.le_refl _)).mono ?_); rintro x w2 ⟨rfl, hB2, Z, hZ, HZ, HM⟩)
                go_roundw
                case rel => exact ⟨d, Z, by go_num, by omega, by omega, hZ, hB.trans hB2, Lib.hid (by
                  rw [← HD.out]; exact HH.out.last hda.out (by omega) (by omega) HM HZ)⟩
                case measure => simp [intOf]; omega
              · have hmz : ¬ (m : Int) < (n : Int) := by omega
                go_wp2
                go_roundw
                case rel => exact ⟨d, Y, by go_num, by omega, by omega, hY, hB, Lib.hid (by
                  rw [← HD.out]; exact HH.out.over hda.out (by omega) han (by omega))⟩
                case measure => simp [intOf]; omega
        · have hltz : ¬ (s : Int) < (n : Int) := by omega
          go_wp2
          go_end0
          exact ⟨rfl, hB, Y, hY, HS.out.all (by omega)⟩

theorem psorting_any (b kb : Nat) (A : Option Addr) (ks : PKS) (n c cn : Nat) (w : World) (hk : PKeys w b kb A ks n c) (hA : IsV ks w b (fun k => k) n) (hn : n ≤ 10000) :
    Calls Try.prog 36 #[.slice (some ⟨b, 0, none⟩) n cn, .func (.func 32) #[] #[.pointer (some ⟨kb, 0, none⟩)]] w fun x w' => x = .returned (.tuple #[]) ∧ Only b w w' ∧ ∃ Y, IsV ks w' b Y n ∧ So.Blk (pkey ks) 0 n Y := by
  go_enter Try.func36, Try.ntmps36
  go_wp2_with (go_at_call 39; (with_reducible refine (pstable_any b kb A ks n c cn _ hk hA hn).mono ?_); rintro x w2 ⟨rfl, hB, Z, hZ, HZ⟩)
  go_end0
  exact ⟨rfl, hB, Z, hZ, HZ⟩

end Go.Proofs.Ytbmidmpooooheaa.Fix
