/- LinesMore: it returns true, and leaves all that was there as it was. -/
import Derived.Test.YtabmlohobbbnbaaRowL
import Derived.Test.YtabmlohobbbnbaaLinMoreMath
namespace Go.Proofs.Ytabmlohobbbnbaa.Fix
open Go.ChangeShapes Go.WideShapes Go.ChangeAt Go.RowKit
set_option linter.unusedVariables false

set_option maxRecDepth 100000 in
theorem lmore7_out (A : Option Addr) (n c : Nat) (room more gap : Int) (w : World) (hx : n ≤ 9223372036854775807) (h : 60 < n ∨ room < 0 ∨ 1073741824 < room ∨ more < 0 ∨ 1073741824 < more ∨ gap < 0 ∨ 1048576 < gap) :
    Calls Try.prog 6 #[.slice A n c, .int .i64 room, .int .i64 more, .int .i64 gap] w fun e w' => e = .returned (.bool true) ∧ Below w.heap.size w w' := by
  by_cases h0 : 60 < n
  · go_enter Try.func6, Try.ntmps6
    go_wp2_with (go_at_call 9; with_reducible refine (lworks_any _).mono ?_; rintro e w1 ⟨rfl, hB⟩)
    go_ret
    exact ⟨rfl, hB⟩
  · have e0 : decide (60 < (n : Int)) = false := by simp; omega
    by_cases h1 : room < 0
    · go_enter Try.func6, Try.ntmps6
      go_wp2_with (go_at_call 9; with_reducible refine (lworks_any _).mono ?_; rintro e w1 ⟨rfl, hB⟩)
      go_ret
      exact ⟨rfl, hB⟩
    · have e1 : decide (room < 0) = false := by simp; omega
      by_cases h2 : 1073741824 < room
      · go_enter Try.func6, Try.ntmps6
        go_wp2_with (go_at_call 9; with_reducible refine (lworks_any _).mono ?_; rintro e w1 ⟨rfl, hB⟩)
        go_ret
        exact ⟨rfl, hB⟩
      · have e2 : decide (1073741824 < room) = false := by simp; omega
        by_cases h3 : more < 0
        · go_enter Try.func6, Try.ntmps6
          go_wp2_with (go_at_call 9; with_reducible refine (lworks_any _).mono ?_; rintro e w1 ⟨rfl, hB⟩)
          go_ret
          exact ⟨rfl, hB⟩
        · have e3 : decide (more < 0) = false := by simp; omega
          by_cases h4 : 1073741824 < more
          · go_enter Try.func6, Try.ntmps6
            go_wp2_with (go_at_call 9; with_reducible refine (lworks_any _).mono ?_; rintro e w1 ⟨rfl, hB⟩)
            go_ret
            exact ⟨rfl, hB⟩
          · have e4 : decide (1073741824 < more) = false := by simp; omega
            by_cases h5 : gap < 0
            · go_enter Try.func6, Try.ntmps6
              go_wp2_with (go_at_call 9; with_reducible refine (lworks_any _).mono ?_; rintro e w1 ⟨rfl, hB⟩)
              go_ret
              exact ⟨rfl, hB⟩
            · have e5 : decide (gap < 0) = false := by simp; omega
              have h6 : 1048576 < gap := by omega
              clear h
              go_enter Try.func6, Try.ntmps6
              go_wp2_with (go_at_call 9; with_reducible refine (lworks_any _).mono ?_; rintro e w1 ⟨rfl, hB⟩)
              go_ret
              exact ⟨rfl, hB⟩

set_option maxRecDepth 100000 in
set_option maxHeartbeats 4000000 in
theorem lmore7_core (A : Option Addr) (l : List Int) (n c : Nat) (room more gap : Int) (w : World) (hI : Ints w A l) (hl : l.length = n) (hc : n ≤ c) (hn : n ≤ 60) (r1 : 0 ≤ room) (r2 : room ≤ 1073741824) (m1 : 0 ≤ more) (m2 : more ≤ 1073741824) (g1 : 0 ≤ gap) (g2 : gap ≤ 1048576) :
    Calls Try.prog 6 #[.slice A n c, .int .i64 room, .int .i64 more, .int .i64 gap] w fun e w' => e = .returned (.bool true) ∧ Below w.heap.size w w' := by
  have e0 : decide (60 < (n : Int)) = false := by simp; omega
  have e1 : decide (room < 0) = false := by simp; omega
  have e2 : decide (1073741824 < room) = false := by simp; omega
  have e3 : decide (more < 0) = false := by simp; omega
  have e4 : decide (1073741824 < more) = false := by simp; omega
  have e5 : decide (gap < 0) = false := by simp; omega
  have e6 : decide (1048576 < gap) = false := by simp; omega
  obtain ⟨rm, rm1, rm2⟩ : ∃ rm, rm ≤ room + more ∧ room + more ≤ rm := ⟨room + more, by omega, by omega⟩
  have w1 : IntKind.i64.wrap (room + more) = rm := by rw [IntWalk.i64_in _ (by omega)]; omega
  have HI := Lib.hid hI
  have HL := Lib.hid hl
  clear hI hl
  go_enter Try.func6, Try.ntmps6
  go_upto_region 6 with (go_at_call 9; with_reducible refine (lworks_any _).mono ?_; rintro e w1 ⟨rfl, hB⟩)
  have HB := Lib.hid hB
  have HI1 := Lib.hid (HI.out.after hB)
  clear hB e0 e1 e2 e3 e4 e5 e6
  go_wp2
  go_loopw [10] (fun vi wr => ∃ k : Nat, k ≤ n ∧ vi = .int .i64 k ∧ w1 = wr ∧ Hid (∀ j, j < k → 0 ≤ l.getD j 0)) (fun vi _ => n - (intOf vi).toNat)
  case atStart => exact ⟨0, by omega, rfl, rfl, Lib.hid (fun j hj => by omega)⟩
  case round =>
    obtain ⟨k, hk, rfl, rfl, HS⟩ := hrel
    by_cases hlt : k < n
    · have hltz : (k : Int) < (n : Int) := by omega
      obtain ⟨b1, o1, hb1, l1, c1⟩ := HI1.out.at_ (k := k) (by rw [HL.out]; exact hlt)
      subst hb1
      obtain ⟨z, hz⟩ : ∃ z, z = l.getD k 0 := ⟨_, rfl⟩
      rw [← hz] at c1
      have HZZ := Lib.hid hz
      clear hz
      by_cases z1 : z < 0
      · go_wp2
        go_ret
        exact ⟨rfl, HB.out⟩
      · have z2 : decide (z < 0) = false := by simp; omega
        by_cases z3 : 1048576 < z
        · go_wp2
          go_ret
          exact ⟨rfl, HB.out⟩
        · have z4 : decide (1048576 < z) = false := by simp; omega
          go_wp2
          go_roundw
          case rel => exact ⟨k + 1, by omega, by go_num, trivial, Lib.hid (fun j hj => by
            rcases Nat.lt_or_ge j k with h | h
            · exact HS.out j h
            · obtain rfl : j = k := by omega
              rw [← HZZ.out]; omega)⟩
          case measure => simp [intOf]; omega
    · have hltz : ¬ (k : Int) < (n : Int) := by omega
      have hpos : ∀ x ∈ l, 0 ≤ x := by
        intro y hy
        obtain ⟨j, hj, e⟩ := List.mem_iff_getElem.1 hy
        have := HS.out j (by have := HL.out; omega)
        rw [List.getD_eq_getElem?_getD, List.getElem?_eq_getElem hj, Option.getD_some, e] at this
        exact this
      have f2 := Li.brk_more (room := room) (room' := rm) (g := gap) (g' := gap) hpos (by omega) g1 (Int.le_refl _)
      have f3 := Li.brk_more (room := room) (room' := room) (g := gap) (g' := 0) hpos (by omega) g1 g1
      have f4 := Li.brk_single (room := room) (gap := gap) (l := l) (by rw [HL.out]; omega)
      rw [HL.out] at f4
      obtain ⟨n1, h1⟩ : ∃ q, (Li.brk room gap true l).length = q := ⟨_, rfl⟩
      obtain ⟨n2, h2⟩ : ∃ q, (Li.brk rm gap true l).length = q := ⟨_, rfl⟩
      obtain ⟨n3, h3⟩ : ∃ q, (Li.brk room 0 true l).length = q := ⟨_, rfl⟩
      obtain ⟨n4, h4⟩ : ∃ q, (Li.brk room gap false l).length = q := ⟨_, rfl⟩
      rw [h1, h2] at f2
      rw [h1, h3] at f3
      rw [h4] at f4
      have H1 := Lib.hid h1
      have H2 := Lib.hid h2
      have H3 := Lib.hid h3
      have H4 := Lib.hid h4
      have f2z : (n2 : Int) ≤ (n1 : Int) := by omega
      have f3z : (n3 : Int) ≤ (n1 : Int) := by omega
      have f4z : min (n : Int) 1 = (n4 : Int) := by omega
      clear h1 h2 h3 h4 f2 f3 f4 hpos HS hk hlt
      have hB := HB.out
      clear HB
      go_wp2_with (first
        | (go_at_call 11; with_reducible refine (lines_any A l n c room gap true _ (HI.out.after hB) HL.out (by omega) hc).mono ?_; rw [H1.out]; rintro e w2 ⟨⟨A', c', rfl, hp⟩, hb⟩; replace hB := Below.after2 hB (Nat.le_refl _) hb; clear hb hp)
        | (go_at_call 11; with_reducible refine (lines_any A l n c rm gap true _ (HI.out.after hB) HL.out (by omega) hc).mono ?_; rw [H2.out]; rintro e w2 ⟨⟨A', c', rfl, hp⟩, hb⟩; replace hB := Below.after2 hB (Nat.le_refl _) hb; clear hb hp)
        | (go_at_call 11; with_reducible refine (lines_any A l n c room 0 true _ (HI.out.after hB) HL.out (by omega) hc).mono ?_; rw [H3.out]; rintro e w2 ⟨⟨A', c', rfl, hp⟩, hb⟩; replace hB := Below.after2 hB (Nat.le_refl _) hb; clear hb hp)
        | (go_at_call 11; with_reducible refine (lines_any A l n c room gap false _ (HI.out.after hB) HL.out (by omega) hc).mono ?_; rw [H4.out]; rintro e w2 ⟨⟨A', c', rfl, hp⟩, hb⟩; replace hB := Below.after2 hB (Nat.le_refl _) hb; clear hb hp))
      go_ret
      exact ⟨ret_bool (by simp), hB⟩

theorem lmore7_walk (a0 : Option Addr) (len0 cap0 : Nat) (z0 : List Int) (room more gap : Int) (w : World) (h0 : Row w a0 len0 cap0 z0) :
    Calls Try.prog 6 #[.slice a0 len0 cap0, .int .i64 room, .int .i64 more, .int .i64 gap] w fun e w' => e = .returned (.bool true) ∧ Below w.heap.size w w' := by
  have k0 := h0.cap
  obtain ⟨s, rfl, hs, _, _, c0⟩ := ints_of_row h0
  have m1 := hs.1
  simp only [maxLen] at m1
  generalize hn : s.length = n at *
  by_cases hm : 60 < n ∨ room < 0 ∨ 1073741824 < room ∨ more < 0 ∨ 1073741824 < more ∨ gap < 0 ∨ 1048576 < gap
  · exact lmore7_out a0 n cap0 room more gap w (by omega) hm
  · exact lmore7_core a0 s n cap0 room more gap w hs hn k0 (by omega) (by omega) (by omega) (by omega) (by omega) (by omega) (by omega)

end Go.Proofs.Ytabmlohobbbnbaa.Fix
