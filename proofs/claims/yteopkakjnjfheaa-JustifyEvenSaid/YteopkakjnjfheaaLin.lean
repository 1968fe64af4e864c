/- The contracts of the layer lines but Order and Break: how long a line is, how many go on one; and of the document's own Long. -/
import Derived.Test.YteopkakjnjfheaaCut
import Derived.Test.YteopkakjnjfheaaLinMath
import Derived.Lib.MinMax
namespace Go.Proofs.Yteopkakjnjfheaa.Fix
open Go.ChangeShapes Go.WideShapes Go.ChangeAt Go.RowKit
set_option linter.unusedVariables false

theorem longer_any (s gap x : Int) (w : World) : Calls Try.prog 28 #[.int .i64 s, .int .i64 gap, .int .i64 x] w fun e w' => e = .returned (.int .i64 (Li.next gap s x)) ∧ w = w' := by
  go_enter Try.func28, Try.ntmps28
  go_wp2_with (first | (go_at_call 20; (with_reducible refine (add_any _ _ _).mono ?_); rintro e w' ⟨rfl, rfl⟩))
  go_ret
  exact ⟨rfl, rfl⟩

theorem long_any (A : Option Addr) (l : List Int) (n c : Nat) (gap : Int) (w : World) (hI : Ints w A l) (hl : l.length = n) (hc : n ≤ c) (hn : n ≤ 100000) : Calls Try.prog 17 #[.slice A n c, .int .i64 gap] w fun e w' => e = .returned (.int .i64 (Li.long gap l)) ∧ w = w' := by
  rcases Nat.eq_zero_or_pos n with rfl | h0
  · obtain rfl := List.eq_nil_of_length_eq_zero hl
    go_enter Try.func17, Try.ntmps17
    go_wp2
    go_ret
    exact ⟨rfl, rfl⟩
  · have HI := Lib.hid hI
    have HL := Lib.hid hl
    have I1 := hI.from_ 1 c (by omega) (by omega)
    have F1 := Lib.hid (slice_from A n c 1 (by omega))
    obtain ⟨b, off, rfl, lb, cb⟩ := hI.at_ (k := 0) (by omega)
    generalize hA1 : (if c = 1 then some (⟨b, off, none⟩ : Addr) else (some (⟨b, off, none⟩ : Addr)).map (·.add (1 * 1))) = A1 at *
    have H1 := Lib.hid I1
    have hz : ((n : Int) == 0) = false := by simp; omega
    have HX : Hid (Fx.cut (l.getD 0 0) = Li.long gap (l.take 1)) := Lib.hid (Li.long_take_one gap l (by omega)).symm
    have HT : Hid (l.take n = l) := Lib.hid (by rw [← hl]; exact List.take_length)
    have HM : Hid (n - 1 + 1 = n) := Lib.hid (by omega)
    simp only [Nat.add_zero] at cb
    generalize l.getD 0 0 = x at *
    clear hA1 I1 hI hl
    obtain ⟨m, m1, m2⟩ : ∃ m, m + 1 ≤ n ∧ n ≤ m + 1 := ⟨n - 1, by omega, by omega⟩
    have HN : Hid (n - 1 = m) := Lib.hid (by omega)
    replace F1 := Lib.hid F1.out
    rw [HN.out] at F1
    go_enter Try.func17, Try.ntmps17
    go_wp2_with (first | (refine wpList_sliced rfl (by rfl) (F1.out _) ?_) | first | (go_at_call 27; (with_reducible refine (cut_any _ _).mono ?_); rintro e w' ⟨rfl, rfl⟩))
    go_loopw [5, 7, 18] (fun vs _ vi wr => ∃ k : Nat, k ≤ m ∧ vi = .int .i64 k ∧ vs = .int .i64 (Li.long gap (l.take (k + 1))) ∧ w = wr) (fun _ _ vi _ => n - (intOf vi).toNat)
    case atStart => exact ⟨0, by omega, rfl, by rw [HX.out], rfl⟩
    case round =>
      obtain ⟨k, hk, rfl, rfl, rfl⟩ := hrel
      by_cases hlt : k < m
      · have hltz : (k : Int) < (m : Int) := by omega
        obtain ⟨b1, o1, hA1, l1, c1⟩ := H1.out.at_ (k := k) (by rw [List.length_drop, HL.out]; omega)
        subst hA1
        have HS : Hid (Li.next gap (Li.long gap (l.take (k + 1))) ((l.drop 1).getD k 0) = Li.long gap (l.take (k + 1 + 1))) := Lib.hid (by
          rw [Li.long_take gap l (k := k + 1) (by omega) (by rw [HL.out]; omega)]
          congr 1
          simp [List.getD])
        generalize (l.drop 1).getD k 0 = y at *
        go_wp2_with (first | (go_at_call 28; (with_reducible refine (longer_any _ _ _ _).mono ?_); rintro e w' ⟨rfl, rfl⟩))
        go_roundw
        case rel => exact ⟨k + 1, by omega, by go_num, by rw [HS.out], trivial⟩
        case measure => simp [intOf]; omega
      · have hltz : ¬ (k : Int) < (m : Int) := by omega
        have HE : Hid (k + 1 = n) := Lib.hid (by omega)
        go_wp2
        go_ret
        exact ⟨ret_int (by rw [HE.out, HT.out]), rfl⟩

theorem add_zero_l (x : Int) : Fx.add 0 x = Fx.cut x := by
  unfold Fx.add
  rw [Fx.cut_id (n := 0) (by omega) (by omega), Int.zero_add, Fx.cut_cut]

theorem rlong_any (A : Option Addr) (l : List Int) (n c : Nat) (gap : Int) (w : World) (hI : Ints w A l) (hl : l.length = n) (hn : n ≤ 100000) : Calls Try.prog 22 #[.slice A n c, .int .i64 gap] w fun e w' => e = .returned (.int .i64 (Li.long gap l)) ∧ w = w' := by
  have HI := Lib.hid hI
  have HL := Lib.hid hl
  have HT : Hid (l.take n = l) := Lib.hid (by rw [← hl]; exact List.take_length)
  clear hI hl
  go_enter Try.func22, Try.ntmps22
  go_wp2
  go_loopw [5, 6] (fun vs vi wr => ∃ k : Nat, k ≤ n ∧ vi = .int .i64 k ∧ vs = .int .i64 (Li.long gap (l.take k)) ∧ w = wr) (fun _ vi _ => n - (intOf vi).toNat)
  case atStart => exact ⟨0, by omega, rfl, rfl, rfl⟩
  case round =>
    obtain ⟨k, hk, rfl, rfl, rfl⟩ := hrel
    by_cases hlt : k < n
    · have hltz : (k : Int) < (n : Int) := by omega
      obtain ⟨b1, o1, hA1, l1, c1⟩ := HI.out.at_ (k := k) (by rw [HL.out]; omega)
      subst hA1
      rcases Nat.eq_zero_or_pos k with rfl | h0
      · have HX : Hid (Fx.add (Li.long gap (l.take 0)) (l.getD 0 0) = Li.long gap (l.take 1)) := Lib.hid (by rw [Li.long_take_one gap l (by rw [HL.out]; exact hlt)]; exact add_zero_l _)
        simp only [Nat.add_zero] at c1
        generalize l.getD 0 0 = y at *
        go_wp2_with (first | (go_at_call 23; (with_reducible refine (radd_any _ _ _).mono ?_); rintro e w' ⟨rfl, rfl⟩))
        go_roundw
        case rel => exact ⟨1, by omega, by go_num, by rw [← HX.out]; rfl, trivial⟩
        case measure => simp [intOf]; omega
      · have h0z : (0 : Int) < (k : Int) := by omega
        have HS : Hid (Fx.add (Fx.add (Li.long gap (l.take k)) gap) (l.getD k 0) = Li.long gap (l.take (k + 1))) := Lib.hid (Li.long_take gap l h0 (by rw [HL.out]; exact hlt)).symm
        generalize l.getD k 0 = y at *
        go_wp2_with (first | (go_at_call 23; (with_reducible refine (radd_any _ _ _).mono ?_); rintro e w' ⟨rfl, rfl⟩))
        go_roundw
        case rel => exact ⟨k + 1, by omega, by go_num, by rw [HS.out], trivial⟩
        case measure => simp [intOf]; omega
    · have hltz : ¬ (k : Int) < (n : Int) := by omega
      have HE : Hid (k = n) := Lib.hid (by omega)
      go_wp2
      go_ret
      exact ⟨ret_int (by rw [HE.out, HT.out]), rfl⟩

end Go.Proofs.Yteopkakjnjfheaa.Fix
