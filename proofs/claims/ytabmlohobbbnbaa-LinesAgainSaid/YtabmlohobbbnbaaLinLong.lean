/- LinesLong: it returns true, and leaves all that was there as it was. -/
import Derived.Test.YtabmlohobbbnbaaRowL
import Derived.Test.YtabmlohobbbnbaaLinLongMath
namespace Go.Proofs.Ytabmlohobbbnbaa.Fix
open Go.ChangeShapes Go.WideShapes Go.ChangeAt Go.RowKit
set_option linter.unusedVariables false

theorem ints_own {w : World} {base : Nat} {e : TypeId} {v : Value} {n : Nat} {l : List Int} (h : w.ownsRow base e 1 v n (l.map (Value.int .i64))) (hm : n ≤ maxLen) :
    ∃ A c, v = .slice A n c ∧ Ints w A l ∧ n ≤ c ∧ l.length = n := by
  obtain ⟨A, c, rfl, hI⟩ := ints_of_own h hm
  have hl : l.length = n := by simpa using h.1
  refine ⟨A, c, by rw [hl], hI, ?_, hl⟩
  rcases h.2 with ⟨e1, h0⟩ | ⟨g, cap, cur, e1, _, _, hc, _⟩
  · omega
  · injection e1 with e1 e2 e3; omega

theorem llong_out (A B : Option Addr) (n m c d : Nat) (gap : Int) (w : World) (hx : n ≤ 9223372036854775807) (hy : m ≤ 9223372036854775807) (h : 200 < n ∨ 200 < m ∨ gap < -1048576 ∨ 1048576 < gap) :
    Calls Try.prog 7 #[.slice A n c, .slice B m d, .int .i64 gap] w fun e w' => e = .returned (.bool true) ∧ Below w.heap.size w w' := by
  by_cases h1 : 200 < n
  · go_enter Try.func7, Try.ntmps7
    go_wp2_with (go_at_call 9; with_reducible refine (lworks_any _).mono ?_; rintro e w1 ⟨rfl, hB⟩)
    go_ret
    exact ⟨rfl, hB⟩
  · have e1 : decide (200 < (n : Int)) = false := by simp; omega
    by_cases h2 : 200 < m
    · go_enter Try.func7, Try.ntmps7
      go_wp2_with (go_at_call 9; with_reducible refine (lworks_any _).mono ?_; rintro e w1 ⟨rfl, hB⟩)
      go_ret
      exact ⟨rfl, hB⟩
    · have e2 : decide (200 < (m : Int)) = false := by simp; omega
      by_cases h3 : gap < -1048576
      · go_enter Try.func7, Try.ntmps7
        go_wp2_with (go_at_call 9; with_reducible refine (lworks_any _).mono ?_; rintro e w1 ⟨rfl, hB⟩)
        go_ret
        exact ⟨rfl, hB⟩
      · have e3 : decide (gap < -1048576) = false := by simp; omega
        have h4 : 1048576 < gap := by omega
        clear h
        go_enter Try.func7, Try.ntmps7
        go_wp2_with (go_at_call 9; with_reducible refine (lworks_any _).mono ?_; rintro e w1 ⟨rfl, hB⟩)
        go_ret
        exact ⟨rfl, hB⟩

set_option maxRecDepth 100000 in
set_option maxHeartbeats 4000000 in
theorem llong_core (A B : Option Addr) (a b : List Int) (n m c d : Nat) (gap : Int) (w : World) (hA : Ints w A a) (hB : Ints w B b) (la : a.length = n) (lb : b.length = m) (hc : n ≤ c) (hd : m ≤ d) (zc : A = none → c = 0) (zd : B = none → d = 0)
    (hn : n ≤ 200) (hm : m ≤ 200) (g1 : -1048576 ≤ gap) (g2 : gap ≤ 1048576) :
    Calls Try.prog 7 #[.slice A n c, .slice B m d, .int .i64 gap] w fun e w' => e = .returned (.bool true) ∧ Below w.heap.size w w' := by
  have e1 : decide (200 < (n : Int)) = false := by simp; omega
  have e2 : decide (200 < (m : Int)) = false := by simp; omega
  have e3 : decide (gap < -1048576) = false := by simp; omega
  have e4 : decide (1048576 < gap) = false := by simp; omega
  have HA := Lib.hid hA
  have HB := Lib.hid hB
  have HLA := Lib.hid la
  have HLB := Lib.hid lb
  have HZ := Lib.hid zc
  have HD := Lib.hid zd
  clear hA hB la lb zc zd
  go_enter Try.func7, Try.ntmps7
  go_upto_region 8 with (go_at_call 9; with_reducible refine (lworks_any _).mono ?_; rintro e w1 ⟨rfl, hB⟩)
  have A1 := HA.out.after hB
  have B1 := HB.out.after hB
  obtain ⟨x1, wa, r1, o1, b1, s1⟩ := append_ints (xs := []) (World.ownsRow_nil _ _ _ _) hB hB.size A1 (m := n) HLA.out HZ.out (by omega)
  obtain ⟨x2, wb, r2, o2, b2, s2⟩ := append_ints o1 b1 s1 (HB.out.after b1) (m := m) HLB.out HD.out (by omega)
  obtain ⟨x3, wc, r3, o3, b3, s3⟩ := append_ints (xs := []) (World.ownsRow_nil _ _ _ _) (Below.refl wb.heap.size wb) (Nat.le_refl _) ((HB.out.after b2)) (m := m) HLB.out HD.out (by omega)
  obtain ⟨x4, wd, r4, o4, b4, s4⟩ := append_ints o3 b3 s3 ((HA.out.after b2).after b3) (m := n) HLA.out HZ.out (by omega)
  obtain ⟨P, pc, rfl, hP, hpc, hpl⟩ := ints_own o2 (by simp only [maxLen]; omega)
  obtain ⟨T, tc, rfl, hT, htc, htl⟩ := ints_own o4 (by simp only [maxLen]; omega)
  replace hP := hP.after b4
  have hBd := Below.after2 b2 (Nat.le_refl _) b4
  have A4 := HA.out.after hBd
  have B4 := HB.out.after hBd
  simp only [List.nil_append] at *
  have R1 := Lib.hid r1
  have R2 := Lib.hid r2
  have R3 := Lib.hid r3
  have R4 := Lib.hid r4
  generalize hN : 0 + n + m = N at *
  generalize hM : 0 + m + n = M at *
  have NM : N = n + m := by omega
  have MM : M = n + m := by omega
  have HPI := Lib.hid hP
  have HTI := Lib.hid hT
  have HPL := Lib.hid hpl
  have HTL := Lib.hid htl
  have HBD := Lib.hid hBd
  have HA4 := Lib.hid A4
  have HB4 := Lib.hid B4
  have HNM := Lib.hid NM
  have n1 : N ≤ 400 := by omega
  have n2 : M ≤ 400 := by omega
  clear r1 r2 r3 r4 o1 o2 o3 o4 b1 b2 b3 b4 s1 s2 s3 s4 hP hT hpl htl hBd A4 B4 A1 B1 hB hN hM NM MM
  go_upto_region 9 with (first | (at_builtin; refine wpList_append_run (by rfl) _ _ 22 rfl rfl rfl R1.out ?_) | (at_builtin; refine wpList_append_run (by rfl) _ _ 22 rfl rfl rfl R2.out ?_))
  go_upto_region 10 with (first | (at_builtin; refine wpList_append_run (by rfl) _ _ 22 rfl rfl rfl R3.out ?_) | (at_builtin; refine wpList_append_run (by rfl) _ _ 22 rfl rfl rfl R4.out ?_))
  go_wp2
  go_loopw [10] (fun vi wr => ∃ k : Nat, k ≤ N ∧ vi = .int .i64 k ∧ wd = wr ∧ Hid (∀ j, j < k → -1048576 ≤ (a ++ b).getD j 0 ∧ (a ++ b).getD j 0 ≤ 1048576)) (fun vi _ => N - (intOf vi).toNat)
  case atStart => exact ⟨0, by omega, rfl, rfl, Lib.hid (fun j hj => by omega)⟩
  case round =>
    obtain ⟨k, hk, rfl, rfl, HS⟩ := hrel
    by_cases hlt : k < N
    · have hltz : (k : Int) < (N : Int) := by omega
      obtain ⟨b1, o1, hb1, l1, c1⟩ := HPI.out.at_ (k := k) (by rw [HPL.out]; exact hlt)
      subst hb1
      obtain ⟨z, hz⟩ : ∃ z, z = (a ++ b).getD k 0 := ⟨_, rfl⟩
      rw [← hz] at c1
      have HZZ := Lib.hid hz
      clear hz
      by_cases z1 : z < -1048576
      · go_wp2
        go_ret
        exact ⟨rfl, HBD.out⟩
      · have z2 : decide (z < -1048576) = false := by simp; omega
        by_cases z3 : 1048576 < z
        · go_wp2
          go_ret
          exact ⟨rfl, HBD.out⟩
        · have z4 : decide (1048576 < z) = false := by simp; omega
          go_wp2
          go_roundw
          case rel => exact ⟨k + 1, by omega, by go_num, trivial, Lib.hid (fun j hj => by
            rcases Nat.lt_or_ge j k with h | h
            · exact HS.out j h
            · obtain rfl : j = k := by omega
              rw [← HZZ.out]; omega)⟩
          case measure => simp [intOf]; omega
    · have hltz : ¬ (k : Int) < (N : Int) := by omega
      have hsm : Li.small (a ++ b) := by
        intro y hy
        obtain ⟨j, hj, e⟩ := List.mem_iff_getElem.1 hy
        have := HS.out j (by have := HPL.out; omega)
        rw [List.getD_eq_getElem?_getD, List.getElem?_eq_getElem hj, Option.getD_some, e] at this
        exact this
      have sa : Li.small a := fun y hy => hsm y (by simp [hy])
      have sb : Li.small b := fun y hy => hsm y (by simp [hy])
      have pab := Li.long_parts gap ⟨g1, g2⟩ sa sb (by rw [HLA.out]; exact hn) (by rw [HLB.out]; exact hm)
      have pba := Li.long_parts gap ⟨g1, g2⟩ sb sa (by rw [HLB.out]; exact hm) (by rw [HLA.out]; exact hn)
      have ba := Li.long_small gap ⟨g1, g2⟩ sa (by rw [HLA.out]; omega)
      have bb := Li.long_small gap ⟨g1, g2⟩ sb (by rw [HLB.out]; omega)
      rw [HLA.out] at pab pba ba
      rw [HLB.out] at pab pba bb
      obtain ⟨x, hx⟩ : ∃ x, Li.long gap a = x := ⟨_, rfl⟩
      obtain ⟨y, hy⟩ : ∃ y, Li.long gap b = y := ⟨_, rfl⟩
      rw [hx] at pab pba ba
      rw [hy] at pab pba bb
      have HX := Lib.hid hx
      have HY := Lib.hid hy
      have x1 : -419430400 ≤ x ∧ x ≤ 419430400 := by omega
      have y1 : -419430400 ≤ y ∧ y ≤ 419430400 := by omega
      obtain ⟨x1, x2⟩ := x1
      obtain ⟨y1, y2⟩ := y1
      clear hsm sa sb ba bb hx hy HS hlt hk
      by_cases q : 0 < n ∧ 0 < m
      · rw [if_pos q] at pab
        rw [if_pos (by omega), show y + x + gap = x + y + gap by omega] at pba
        obtain ⟨q1, q2⟩ := q
        have q1z : (0 : Int) < (n : Int) := by omega
        have q2z : (0 : Int) < (m : Int) := by omega
        have q1d : decide ((0 : Int) < (n : Int)) = true := decide_eq_true q1z
        have q2d : decide ((0 : Int) < (m : Int)) = true := decide_eq_true q2z
        have HAB := Lib.hid pab
        have HBA := Lib.hid pba
        clear pab pba
        have w1 : IntKind.i64.wrap (x + y) = x + y := IntWalk.i64_in _ (by omega)
        have w2 : IntKind.i64.wrap (x + y + gap) = x + y + gap := IntWalk.i64_in _ (by omega)
        go_wp2_with (first
          | (go_at_call 13; with_reducible refine (long_any A a n c gap wd HA4.out HLA.out hc (by omega)).mono ?_; rw [HX.out]; rintro e w' ⟨rfl, rfl⟩)
          | (go_at_call 13; with_reducible refine (long_any B b m d gap wd HB4.out HLB.out hd (by omega)).mono ?_; rw [HY.out]; rintro e w' ⟨rfl, rfl⟩)
          | (go_at_call 13; with_reducible refine (long_any P (a ++ b) N pc gap wd HPI.out HPL.out hpc (by omega)).mono ?_; rw [HAB.out]; rintro e w' ⟨rfl, rfl⟩)
          | (go_at_call 13; with_reducible refine (long_any T (b ++ a) M tc gap wd HTI.out HTL.out htc (by omega)).mono ?_; rw [HBA.out]; rintro e w' ⟨rfl, rfl⟩))
        go_ret
        exact ⟨ret_bool (by simp), HBD.out⟩
      · rw [if_neg q] at pab
        rw [if_neg (by omega), show y + x = x + y by omega] at pba
        have HAB := Lib.hid pab
        have HBA := Lib.hid pba
        clear pab pba
        by_cases q1 : 0 < n
        · have q1z : (0 : Int) < (n : Int) := by omega
          have q2z : ¬ (0 : Int) < (m : Int) := by omega
          have q1d : decide ((0 : Int) < (n : Int)) = true := decide_eq_true q1z
          have q2d : decide ((0 : Int) < (m : Int)) = false := decide_eq_false q2z
          clear q
          have w1 : IntKind.i64.wrap (x + y) = x + y := IntWalk.i64_in _ (by omega)
          go_wp2_with (first
            | (go_at_call 13; with_reducible refine (long_any A a n c gap wd HA4.out HLA.out hc (by omega)).mono ?_; rw [HX.out]; rintro e w' ⟨rfl, rfl⟩)
            | (go_at_call 13; with_reducible refine (long_any B b m d gap wd HB4.out HLB.out hd (by omega)).mono ?_; rw [HY.out]; rintro e w' ⟨rfl, rfl⟩)
            | (go_at_call 13; with_reducible refine (long_any P (a ++ b) N pc gap wd HPI.out HPL.out hpc (by omega)).mono ?_; rw [HAB.out]; rintro e w' ⟨rfl, rfl⟩)
            | (go_at_call 13; with_reducible refine (long_any T (b ++ a) M tc gap wd HTI.out HTL.out htc (by omega)).mono ?_; rw [HBA.out]; rintro e w' ⟨rfl, rfl⟩))
          go_ret
          exact ⟨ret_bool (by simp), HBD.out⟩
        · have q1z : ¬ (0 : Int) < (n : Int) := by omega
          have q1d : decide ((0 : Int) < (n : Int)) = false := decide_eq_false q1z
          clear q
          have w1 : IntKind.i64.wrap (x + y) = x + y := IntWalk.i64_in _ (by omega)
          go_wp2_with (first
            | (go_at_call 13; with_reducible refine (long_any A a n c gap wd HA4.out HLA.out hc (by omega)).mono ?_; rw [HX.out]; rintro e w' ⟨rfl, rfl⟩)
            | (go_at_call 13; with_reducible refine (long_any B b m d gap wd HB4.out HLB.out hd (by omega)).mono ?_; rw [HY.out]; rintro e w' ⟨rfl, rfl⟩)
            | (go_at_call 13; with_reducible refine (long_any P (a ++ b) N pc gap wd HPI.out HPL.out hpc (by omega)).mono ?_; rw [HAB.out]; rintro e w' ⟨rfl, rfl⟩)
            | (go_at_call 13; with_reducible refine (long_any T (b ++ a) M tc gap wd HTI.out HTL.out htc (by omega)).mono ?_; rw [HBA.out]; rintro e w' ⟨rfl, rfl⟩))
          go_ret
          exact ⟨ret_bool (by simp), HBD.out⟩

theorem llong_walk (a0 : Option Addr) (len0 cap0 : Nat) (z0 : List Int) (a1 : Option Addr) (len1 cap1 : Nat) (z1 : List Int) (gap : Int) (w : World) (h0 : Row w a0 len0 cap0 z0) (h1 : Row w a1 len1 cap1 z1) :
    Calls Try.prog 7 #[.slice a0 len0 cap0, .slice a1 len1 cap1, .int .i64 gap] w fun e w' => e = .returned (.bool true) ∧ Below w.heap.size w w' := by
  have k0 := h0.cap
  have k1 := h1.cap
  obtain ⟨s, rfl, hs, _, _, c0⟩ := ints_of_row h0
  obtain ⟨t, rfl, ht, _, _, c1⟩ := ints_of_row h1
  have m1 := hs.1
  have m2 := ht.1
  simp only [maxLen] at m1 m2
  by_cases hm : 200 < s.length ∨ 200 < t.length ∨ gap < -1048576 ∨ 1048576 < gap
  · exact llong_out a0 a1 _ _ cap0 cap1 gap w (by omega) (by omega) hm
  · exact llong_core a0 a1 s t _ _ cap0 cap1 gap w hs ht rfl rfl k0 k1 c0 c1 (by omega) (by omega) (by omega) (by omega)

end Go.Proofs.Ytabmlohobbbnbaa.Fix
