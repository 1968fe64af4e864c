/- LinesBreak: it returns true, and leaves all that was there as it was. -/
import Derived.Test.YtabmlohobbbnbaaLinRefO
namespace Go.Proofs.Ytabmlohobbbnbaa.Fix
open Go.ChangeShapes Go.WideShapes Go.ChangeAt Go.RowKit
set_option linter.unusedVariables false

theorem lbreak_out (A : Option Addr) (n c : Nat) (room gap : Int) (wrap : Bool) (w : World) (hx : n ≤ 9223372036854775807) (h : 200 < n) :
    Calls Try.prog 3 #[.slice A n c, .int .i64 room, .int .i64 gap, .bool wrap] w fun e w' => e = .returned (.bool true) ∧ Below w.heap.size w w' := by
  go_enter Try.func3, Try.ntmps3
  go_wp2_with (go_at_call 9; with_reducible refine (lworks_any _).mono ?_; rintro e w1 ⟨rfl, hB⟩)
  go_ret
  exact ⟨rfl, hB⟩

set_option maxHeartbeats 4000000 in
theorem lbreak_core (A : Option Addr) (l : List Int) (n c : Nat) (room gap : Int) (wrap : Bool) (w : World) (hI : Ints w A l) (hl : l.length = n) (hc : n ≤ c) (hn : n ≤ 200) :
    Calls Try.prog 3 #[.slice A n c, .int .i64 room, .int .i64 gap, .bool wrap] w fun e w' => e = .returned (.bool true) ∧ Below w.heap.size w w' := by
  have e0 : decide (200 < (n : Int)) = false := by simp; omega
  have HI := Lib.hid hI
  have HL := Lib.hid hl
  clear hI hl
  obtain ⟨L, hL⟩ : ∃ L, Li.brk room gap wrap l = L := ⟨_, rfl⟩
  obtain ⟨N, hN⟩ : ∃ N, L.length = N := ⟨_, rfl⟩
  have HBR := Lib.hid hL
  have HN := Lib.hid hN
  have nN : N ≤ 200 := by
    have := Li.brk_length room gap wrap l
    rw [hL, hN, HL.out] at this; omega
  obtain ⟨z, hz⟩ : ∃ z, Li.long gap l = z := ⟨_, rfl⟩
  have HZ := Lib.hid hz
  clear hL hN hz
  go_enter Try.func3, Try.ntmps3
  go_wp2_with (first
    | (go_at_call 9; with_reducible refine (lworks_any _).mono ?_; rintro e w1 ⟨rfl, hB⟩; have HB := Lib.hid hB; clear hB)
    | (go_at_call 11; with_reducible refine (lines_any A l n c room gap wrap _ (HI.out.after HB.out) HL.out (by omega) hc).mono ?_; rw [HBR.out, HN.out]; rintro e w2 ⟨⟨A1, c1, rfl, hp⟩, hb⟩; have HP1 := Lib.hid hp; replace HB := Lib.hid (Below.after2 HB.out (Nat.le_refl _) hb); clear hp hb)
    | (go_at_call 12; with_reducible refine (rbreak_any A l n c room gap wrap _ (HI.out.after HB.out) HL.out (by omega) hc).mono ?_; rw [HBR.out, HN.out]; rintro e w3 ⟨⟨A2, c2, rfl, hp⟩, hb⟩; have HP2 := Lib.hid hp; replace HP1 := Lib.hid (HP1.out.after hb); replace HB := Lib.hid (Below.after2 HB.out (Nat.le_refl _) hb); clear hp hb)
    | (go_at_call 10; with_reducible refine (same_any _ _ L N _ _ _ HP1.out HP2.out HN.out (by omega)).mono ?_; rintro e w4 ⟨rfl, hb⟩; replace HB := Lib.hid (Below.after2 HB.out (Nat.le_refl _) hb); clear hb)
    | (go_at_call 13; with_reducible refine (long_any A l n c gap _ (HI.out.after HB.out) HL.out hc (by omega)).mono ?_; rw [HZ.out]; rintro e w' ⟨rfl, rfl⟩)
    | (go_at_call 14; with_reducible refine (rlong_any A l n c gap _ (HI.out.after HB.out) HL.out (by omega)).mono ?_; rw [HZ.out]; rintro e w' ⟨rfl, rfl⟩)
    | (go_at_call 16; with_reducible refine (order_any A l n c _ (HI.out.after HB.out) HL.out (by omega)).mono ?_; rintro e w5 ⟨⟨b5, X, rfl, lb5, hX, hI5⟩, hb⟩; have HX := Lib.hid hX; have HI5 := Lib.hid hI5; replace HB := Lib.hid (Below.after2 HB.out (Nat.le_refl _) hb); clear hX hI5 hb lb5)
    | (go_at_call 17; with_reducible refine (rorder_any A l X n c _ (HI.out.after HB.out) HL.out (by omega) HX.out).mono ?_; rintro e w6 ⟨⟨A6, c6, rfl, hI6⟩, hb⟩; have HI6 := Lib.hid hI6; replace HI5 := Lib.hid (HI5.out.after hb); replace HB := Lib.hid (Below.after2 HB.out (Nat.le_refl _) hb); clear hI6 hb)
    | (go_at_call 15; with_reducible refine (row_any _ _ (places X n) n _ _ _ HI5.out HI6.out (places_length X n) (by omega)).mono ?_; rintro e w7 ⟨rfl, hb⟩; replace HB := Lib.hid (Below.after2 HB.out (Nat.le_refl _) hb); clear hb))
  go_ret
  exact ⟨ret_bool (by simp), HB.out⟩

theorem lbreak_walk (a0 : Option Addr) (len0 cap0 : Nat) (z0 : List Int) (room gap : Int) (wrap : Bool) (w : World) (h0 : Row w a0 len0 cap0 z0) :
    Calls Try.prog 3 #[.slice a0 len0 cap0, .int .i64 room, .int .i64 gap, .bool wrap] w fun e w' => e = .returned (.bool true) ∧ Below w.heap.size w w' := by
  have k0 := h0.cap
  obtain ⟨s, rfl, hs, _, _, c0⟩ := ints_of_row h0
  have m1 := hs.1
  simp only [maxLen] at m1
  generalize hn : s.length = n at *
  by_cases hm : 200 < n
  · exact lbreak_out a0 n cap0 room gap wrap w (by omega) hm
  · exact lbreak_core a0 s n cap0 room gap wrap w hs hn k0 (by omega)

end Go.Proofs.Ytabmlohobbbnbaa.Fix
