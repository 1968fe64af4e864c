/- The contracts of the calls of the layer fix (and of the document's own answers for it): for all integers each call returns what the plain function of XMath says, and leaves the world as it was. -/
import Derived.Test.YteopkakjnjfheaaRows
import Derived.Test.YteopkakjnjfheaaMath
import Derived.WalkKit
import Derived.ProofKit
import Derived.OpenShut
import Derived.Lib.Hide
import Derived.WalkLawsBesides
namespace Go.Proofs.Yteopkakjnjfheaa.Fix
open Go.ChangeShapes Go.WideShapes Go.ChangeAt Go.RowKit
set_option linter.unusedVariables false


theorem ret_int {k : IntKind} {a b : Int} (h : a = b) : Ending.returned (.int k a) = .returned (.int k b) := by rw [h]

theorem cut_any (n : Int) (w : World) : Calls Try.prog 27 #[.int .i64 n] w fun e w' => e = .returned (.int .i64 (Fx.cut n)) ∧ w = w' := by
  go_enter Try.func27, Try.ntmps27
  go_wp2
  all_goals
    go_ret
    exact ⟨ret_int (by unfold Fx.cut; repeat' split <;> (try split at *) <;> omega), rfl⟩

theorem rcut_any (n : Int) (w : World) : Calls Try.prog 31 #[.int .i64 n] w fun e w' => e = .returned (.int .i64 (Fx.cut n)) ∧ w = w' := by
  go_enter Try.func31, Try.ntmps31
  go_wp2
  all_goals
    go_ret
    exact ⟨ret_int (by unfold Fx.cut; repeat' split <;> omega), rfl⟩

theorem add_any (a b : Int) (w : World) : Calls Try.prog 20 #[.int .i64 a, .int .i64 b] w fun e w' => e = .returned (.int .i64 (Fx.add a b)) ∧ w = w' := by
  have ha := Fx.cut_le a
  have ha' := Fx.cut_ge a
  have hb := Fx.cut_le b
  have hb' := Fx.cut_ge b
  go_enter Try.func20, Try.ntmps20
  go_wp2_with (go_at_call 27; refine (cut_any _ _).mono ?_; rintro e w' ⟨rfl, rfl⟩)
  go_ret
  exact ⟨rfl, rfl⟩

theorem radd_any (a b : Int) (w : World) : Calls Try.prog 23 #[.int .i64 a, .int .i64 b] w fun e w' => e = .returned (.int .i64 (Fx.add a b)) ∧ w = w' := by
  have ha := Fx.cut_le a
  have ha' := Fx.cut_ge a
  have hb := Fx.cut_le b
  have hb' := Fx.cut_ge b
  go_enter Try.func23, Try.ntmps23
  go_wp2_with (go_at_call 31; refine (rcut_any _ _).mono ?_; rintro e w' ⟨rfl, rfl⟩)
  go_ret
  exact ⟨rfl, rfl⟩

theorem sub_any (a b : Int) (w : World) : Calls Try.prog 18 #[.int .i64 a, .int .i64 b] w fun e w' => e = .returned (.int .i64 (Fx.sub a b)) ∧ w = w' := by
  have ha := Fx.cut_le a
  have ha' := Fx.cut_ge a
  have hb := Fx.cut_le b
  have hb' := Fx.cut_ge b
  go_enter Try.func18, Try.ntmps18
  go_wp2_with (go_at_call 27; refine (cut_any _ _).mono ?_; rintro e w' ⟨rfl, rfl⟩)
  go_ret
  exact ⟨rfl, rfl⟩

theorem rsub_any (a b : Int) (w : World) : Calls Try.prog 21 #[.int .i64 a, .int .i64 b] w fun e w' => e = .returned (.int .i64 (Fx.sub a b)) ∧ w = w' := by
  have ha := Fx.cut_le a
  have ha' := Fx.cut_ge a
  have hb := Fx.cut_le b
  have hb' := Fx.cut_ge b
  go_enter Try.func21, Try.ntmps21
  go_wp2_with (go_at_call 31; refine (rcut_any _ _).mono ?_; rintro e w' ⟨rfl, rfl⟩)
  go_ret
  exact ⟨rfl, rfl⟩

theorem down_any (a b : Int) (w : World) (h1 : 1 ≤ b) (h2 : b ≤ 1099511627776) (h3 : -1152921504606846976 ≤ a) (h4 : a ≤ 1152921504606846976) :
    Calls Try.prog 33 #[.int .i64 a, .int .i64 b] w fun e w' => e = .returned (.int .i64 (a / b)) ∧ w = w' := by
  have g1 := Fx.tdiv_ge h1 h3
  have g2 := Fx.tdiv_le h1 h4
  go_enter Try.func33, Try.ntmps33
  go_wp2
  · have h : a.tmod b < 0 := by assumption
    go_ret
    exact ⟨ret_int (Fx.tdiv_down h1 h), rfl⟩
  · have h : 0 ≤ a.tmod b := by assumption
    go_ret
    exact ⟨ret_int (Fx.tdiv_same h1 h), rfl⟩

theorem rdown_any (a b : Int) (w : World) (h1 : 1 ≤ b) (h2 : b ≤ 1099511627776) (h3 : -1152921504606846976 ≤ a) (h4 : a ≤ 1152921504606846976) :
    Calls Try.prog 34 #[.int .i64 a, .int .i64 b] w fun e w' => e = .returned (.int .i64 (a / b)) ∧ w = w' := by
  have g1 := Fx.tdiv_ge h1 h3
  have g2 := Fx.tdiv_le h1 h4
  go_enter Try.func34, Try.ntmps34
  go_wp2
  · have h : a.tmod b < 0 := by assumption
    go_ret
    exact ⟨ret_int (Fx.tdiv_down h1 h), rfl⟩
  · have h : 0 ≤ a.tmod b := by assumption
    go_ret
    exact ⟨ret_int (Fx.tdiv_same h1 h), rfl⟩

theorem div_any (a b : Int) (w : World) : Calls Try.prog 25 #[.int .i64 a, .int .i64 b] w fun e w' => e = .returned (.int .i64 (Fx.div a b)) ∧ w = w' := by
  have ha := Fx.cut_le a
  have ha' := Fx.cut_ge a
  have hb := Fx.cut_le b
  by_cases h : b ≤ 0
  · have h0 : Fx.cut b ≤ 0 := by unfold Fx.cut; repeat' split <;> omega
    have hr : Fx.div a b = 0 := by unfold Fx.div; rw [if_pos h]
    have Hr := Lib.hid hr; clear hr
    go_enter Try.func25, Try.ntmps25
    go_wp2_with (go_at_call 27; refine (cut_any _ _).mono ?_; rintro e w' ⟨rfl, rfl⟩)
    go_ret
    exact ⟨ret_int Hr.out.symm, rfl⟩
  · have h0 : 1 ≤ Fx.cut b := Fx.cut_pos (by omega)
    have hr : Fx.div a b = Fx.cut a / Fx.cut b := by unfold Fx.div; rw [if_neg h]
    have Hr := Lib.hid hr; clear hr
    go_enter Try.func25, Try.ntmps25
    go_wp2_with (first | (go_at_call 27; refine (cut_any _ _).mono ?_; rintro e w' ⟨rfl, rfl⟩) | (go_at_call 33; refine (down_any _ _ _ (by omega) (by omega) (by omega) (by omega)).mono ?_; rintro e w' ⟨rfl, rfl⟩))
    go_ret
    exact ⟨ret_int Hr.out.symm, rfl⟩

theorem rdiv_any (a b : Int) (w : World) : Calls Try.prog 26 #[.int .i64 a, .int .i64 b] w fun e w' => e = .returned (.int .i64 (Fx.div a b)) ∧ w = w' := by
  have ha := Fx.cut_le a
  have ha' := Fx.cut_ge a
  have hb := Fx.cut_le b
  by_cases h : b ≤ 0
  · have hr : Fx.div a b = 0 := by unfold Fx.div; rw [if_pos h]
    have Hr := Lib.hid hr; clear hr
    go_enter Try.func26, Try.ntmps26
    go_wp2
    go_ret
    exact ⟨ret_int Hr.out.symm, rfl⟩
  · have h0 : 1 ≤ Fx.cut b := Fx.cut_pos (by omega)
    have hr : Fx.div a b = Fx.cut a / Fx.cut b := by unfold Fx.div; rw [if_neg h]
    have Hr := Lib.hid hr; clear hr
    go_enter Try.func26, Try.ntmps26
    go_wp2_with (first | (go_at_call 31; refine (rcut_any _ _).mono ?_; rintro e w' ⟨rfl, rfl⟩) | (go_at_call 34; refine (rdown_any _ _ _ (by omega) (by omega) (by omega) (by omega)).mono ?_; rintro e w' ⟨rfl, rfl⟩))
    go_ret
    exact ⟨ret_int Hr.out.symm, rfl⟩

theorem size_any (a : Int) (w : World) (h1 : -1099511627776 ≤ a) (h2 : a ≤ 1099511627776) :
    Calls Try.prog 36 #[.int .i64 a] w fun e w' => e = .returned (.int .u64 (Fx.siz a)) ∧ w = w' := by
  go_enter Try.func36, Try.ntmps36
  go_wp2
  all_goals
    go_ret
    exact ⟨ret_int (by unfold Fx.siz; repeat' split <;> omega), rfl⟩

theorem or_words (x y : Int) (hx : 0 ≤ x) (hy : 0 ≤ y) (hy2 : y < 4294967296) : bits .or .u64 (IntKind.u64.wrap (x * 4294967296)) y = x % 4294967296 * 4294967296 + y := by
  obtain ⟨X, hX⟩ := Int.eq_ofNat_of_zero_le (show 0 ≤ x % 4294967296 by omega)
  obtain ⟨Y, rfl⟩ := Int.eq_ofNat_of_zero_le hy
  have e : IntKind.u64.wrap (x * 4294967296) = ((X * 4294967296 : Nat) : Int) := by rw [IntKind.wrap_u64]; omega
  rw [e, u64_or_nat _ _ (by omega) (by omega), Fx.or_nat _ _ (by omega), hX]
  omega

theorem ret_two {k : IntKind} {a b c d : Int} (h : a = c) (h2 : b = d) : Ending.returned (.tuple #[.int k a, .int k b]) = .returned (.tuple #[.int k c, .int k d]) := by rw [h, h2]

theorem product_any (a b : Int) (w : World) (h1 : 0 ≤ a) (h2 : a ≤ 1099511627776) (h3 : 0 ≤ b) (h4 : b ≤ 1099511627776) :
    Calls Try.prog 35 #[.int .u64 a, .int .u64 b] w fun e w' => e = .returned (.tuple #[.int .u64 (a * b / 18446744073709551616), .int .u64 (a * b % 18446744073709551616)]) ∧ w = w' := by
  have e := Fx.halves a b
  have b1 := Fx.mul_bd (x := a / 4294967296) (y := b / 4294967296) (c := 256) (d := 256) (by omega) (by omega) (by omega) (by omega)
  have b2 := Fx.mul_bd (x := a / 4294967296) (y := b % 4294967296) (c := 256) (d := 4294967295) (by omega) (by omega) (by omega) (by omega)
  have b3 := Fx.mul_bd (x := a % 4294967296) (y := b / 4294967296) (c := 4294967295) (d := 256) (by omega) (by omega) (by omega) (by omega)
  have b4 := Fx.mul_bd (x := a % 4294967296) (y := b % 4294967296) (c := 4294967295) (d := 4294967295) (by omega) (by omega) (by omega) (by omega)
  have E := Lib.hid e
  clear e
  obtain ⟨l1, u1⟩ := b1
  obtain ⟨l2, u2⟩ := b2
  obtain ⟨l3, u3⟩ := b3
  obtain ⟨l4, u4⟩ := b4
  go_enter Try.func35, Try.ntmps35
  go_wp2
  go_ret2
  refine ⟨ret_two ?_ ?_, rfl⟩
  · rw [E.out]; omega
  · rw [or_words _ _ (by omega) (by omega) (by omega), E.out]; omega

theorem mul_any (a b : Int) (w : World) : Calls Try.prog 30 #[.int .i64 a, .int .i64 b] w fun e w' => e = .returned (.int .i64 (Fx.mul a b)) ∧ w = w' := by
  have ha := Fx.cut_le a
  have ha' := Fx.cut_ge a
  have hb := Fx.cut_le b
  have hb' := Fx.cut_ge b
  obtain ⟨s1, s2⟩ := Fx.siz_bd a
  obtain ⟨s3, s4⟩ := Fx.siz_bd b
  have hp := Int.mul_nonneg s1 s3
  have hm := Fx.mul_siz a b
  have HM := Lib.hid hm; clear hm
  go_enter Try.func30, Try.ntmps30
  go_wp2_with (first | (go_at_call 27; refine (cut_any _ _).mono ?_; rintro e w' ⟨rfl, rfl⟩) | (go_at_call 36; refine (size_any _ _ (by omega) (by omega)).mono ?_; rintro e w' ⟨rfl, rfl⟩) | (go_at_call 35; refine (product_any _ _ _ (by omega) (by omega) (by omega) (by omega)).mono ?_; rintro e w' ⟨rfl, rfl⟩))
  all_goals
    go_ret
    refine ⟨ret_int ?_, rfl⟩
    rw [HM.out]
    first
      | rw [show (!(decide (Fx.cut a < 0) == decide (Fx.cut b < 0))) = true from by assumption, cond_true]
      | rw [show (!(decide (Fx.cut a < 0) == decide (Fx.cut b < 0))) = false from by assumption, cond_false]
    unfold Fx.cut at *
    generalize Fx.siz _ * Fx.siz _ = p at *
    repeat' split <;> omega

theorem rmul_any (a b : Int) (w : World) : Calls Try.prog 37 #[.int .i64 a, .int .i64 b] w fun e w' => e = .returned (.int .i64 (Fx.mul a b)) ∧ w = w' := by
  have ha := Fx.cut_le a
  have ha' := Fx.cut_ge a
  have hb := Fx.cut_le b
  have hb' := Fx.cut_ge b
  obtain ⟨s1, s2⟩ := Fx.siz_bd a
  obtain ⟨s3, s4⟩ := Fx.siz_bd b
  have hm := Fx.mul_siz a b
  have HM := Lib.hid hm; clear hm
  obtain ⟨x, hx⟩ : ∃ x, decide (Fx.cut a < 0) = x := ⟨_, rfl⟩
  obtain ⟨y, hy⟩ : ∃ y, decide (Fx.cut b < 0) = y := ⟨_, rfl⟩
  have HT : Hid (Fx.mul a b = bif !(x == y) then -Fx.cut (Fx.siz (Fx.cut a) * Fx.siz (Fx.cut b)) else Fx.cut (Fx.siz (Fx.cut a) * Fx.siz (Fx.cut b))) := Lib.hid (by rw [HM.out, hx, hy])
  clear HM
  cases x <;> cases y
  all_goals
    have k1 := hx
    have k2 := hy
    simp only [decide_eq_true_eq, decide_eq_false_iff_not, Int.not_lt] at k1 k2
    go_enter Try.func37, Try.ntmps37
    go_wp2_with (first | (go_at_call 31; refine (rcut_any _ _).mono ?_; rintro e w' ⟨rfl, rfl⟩))
    go_loop [0, 1, 6] (fun x y n => ∃ p q s : Int, 0 ≤ p ∧ p ≤ 1099511627776 ∧ 0 ≤ q ∧ q ≤ 1099511627776 ∧ 0 ≤ s ∧ s ≤ 1099511627776 ∧ x = .int .i64 p ∧ y = .int .i64 q ∧ n = .int .i64 s ∧ Hid (Fx.cut (s + p * q) = Fx.cut (Fx.siz (Fx.cut a) * Fx.siz (Fx.cut b)))) (fun _ y _ => (intOf y).toNat)
    case atStart => exact ⟨_, _, 0, by omega, by omega, by omega, by omega, by omega, by omega, rfl, rfl, rfl, Lib.hid (by unfold Fx.siz; rw [Int.zero_add]; (repeat' split) <;> first | rfl | omega)⟩
    case round =>
      obtain ⟨p, q, s, p1, p2, q1, q2, n1, n2, rfl, rfl, rfl, HI⟩ := hrel
      by_cases hq : 0 < q
      · have c1 := Fx.cut_le (2 * p)
        have c2 := Fx.cut_nonneg (n := 2 * p) (by omega)
        have c3 := Fx.cut_le (s + p)
        have c4 := Fx.cut_nonneg (n := s + p) (by omega)
        by_cases ho : q % 2 = 1
        · have d := Lib.hid (Fx.dbl_odd n1 p1 q1 ho)
          have ho' : (q % 2 == 1) = true := by simp [ho]
          clear ho
          go_wp2_with (first | (go_at_call 31; refine (rcut_any _ _).mono ?_; rintro e w' ⟨rfl, rfl⟩))
          go_round
          case rel => exact ⟨_, _, _, c2, c1, by omega, by omega, c4, c3, rfl, rfl, rfl, Lib.hid (d.out.trans HI.out)⟩
          case measure => simp [intOf]; omega
        · have d := Lib.hid (Fx.dbl_even n1 p1 q1 ho)
          have ho' : (q % 2 == 1) = false := by simp [ho]
          clear ho
          go_wp2_with (first | (go_at_call 31; refine (rcut_any _ _).mono ?_; rintro e w' ⟨rfl, rfl⟩))
          go_round
          case rel => exact ⟨_, _, _, c2, c1, by omega, by omega, n1, n2, rfl, rfl, rfl, Lib.hid (d.out.trans HI.out)⟩
          case measure => simp [intOf]; omega
      · have HE : Hid (Fx.cut (Fx.siz (Fx.cut a) * Fx.siz (Fx.cut b)) = s) := Lib.hid (by
          rw [← HI.out, show q = 0 by omega, Int.mul_zero, Int.add_zero]; exact Fx.cut_id (by omega) n2)
        go_wp2
        go_ret
        refine ⟨ret_int ?_, rfl⟩
        rw [HT.out, HE.out]
        rfl

end Go.Proofs.Yteopkakjnjfheaa.Fix
