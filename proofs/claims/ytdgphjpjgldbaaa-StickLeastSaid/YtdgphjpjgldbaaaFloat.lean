/- Floats that are whole numbers: what the words of such numbers come to, by plain integers. No program in sight. -/
import Derived.Laws.FloatArith
import Derived.Laws.ComplexArith
import Derived.Test.YtdgphjpjgldbaaaMath
namespace Go.Proofs.Ytdgphjpjgldbaaa
namespace Fl
open Ieee Go

def W (s : Bool) (n : Nat) : Nat := double.nearest s n 0
def sg (s : Bool) (n : Nat) : Int := if s then -(n : Int) else n
/-- the rung of a whole number -/
def R (n : Nat) : Nat := if n = 0 then 0 else (n.log2 + 1022) * 4503599627370496 + n * 2 ^ (52 - n.log2)

theorem log2_mul (n k : Nat) (h : n ≠ 0) : (n * 2 ^ k).log2 = n.log2 + k := by
  have h1 := Nat.log2_self_le h
  have h2 := Nat.lt_log2_self (n := n)
  have hp : 0 < 2 ^ k := Nat.two_pow_pos k
  rw [Nat.log2_eq_iff (Nat.mul_ne_zero h (by omega))]
  rw [Nat.pow_add, show n.log2 + k + 1 = (n.log2 + 1) + k by omega, Nat.pow_add]
  exact ⟨Nat.mul_le_mul_right _ h1, Nat.mul_lt_mul_of_pos_right h2 hp⟩

theorem log2_lt53 {n : Nat} (h0 : n ≠ 0) (h : n < 9007199254740992) : n.log2 ≤ 52 := by
  have := (Nat.log2_lt (k := 53) h0).2 h
  omega

theorem cut_zero (s : Bool) (n : Nat) : Toward.even.cut s n 0 = n := by
  unfold Toward.cut
  simp [Nat.mod_one]

theorem cut_exact (s : Bool) (n d : Nat) (h0 : n ≠ 0) : Toward.even.cut s (n * 2 ^ d) d = n := by
  unfold Toward.cut
  have hm : min d ((n * 2 ^ d).log2 + 2) = d := by rw [log2_mul n d h0]; omega
  have hp : 0 < 2 ^ d := Nat.two_pow_pos d
  simp only [hm, Nat.one_shiftLeft, Nat.mul_mod_left, Nat.mul_div_left _ hp, Nat.mul_zero]
  have h1 : decide (2 ^ d < 0) = false := by simp
  have h2 : (2 ^ d == 0) = false := by simp
  rw [h1, h2]
  simp

theorem R_bd {n : Nat} (h0 : n ≠ 0) (h : n < 9007199254740992) : 4503599627370496 ≤ n * 2 ^ (52 - n.log2) ∧ n * 2 ^ (52 - n.log2) < 9007199254740992 := by
  have hl := log2_lt53 h0 h
  have h1 := Nat.log2_self_le h0
  have h2 := Nat.lt_log2_self (n := n)
  have e1 : 2 ^ n.log2 * 2 ^ (52 - n.log2) = 4503599627370496 := by rw [← Nat.pow_add, show n.log2 + (52 - n.log2) = 52 by omega]
  have e2 : 2 ^ (n.log2 + 1) * 2 ^ (52 - n.log2) = 9007199254740992 := by rw [← Nat.pow_add, show n.log2 + 1 + (52 - n.log2) = 53 by omega]
  constructor
  · rw [← e1]; exact Nat.mul_le_mul_right _ h1
  · rw [← e2]; exact Nat.mul_lt_mul_of_pos_right h2 (Nat.two_pow_pos _)

theorem R_le {n : Nat} (h0 : n ≠ 0) (h : n < 9007199254740992) : (n.log2 + 1022) * 4503599627370496 + n * 2 ^ (52 - n.log2) ≤ 2047 * 4503599627370496 := by
  obtain ⟨b1, b2⟩ := R_bd h0 h
  have hl := log2_lt53 h0 h
  generalize n * 2 ^ (52 - n.log2) = x at *
  omega

theorem nearest_eq (s : Bool) (n k : Nat) (h : n < 9007199254740992) : double.nearest s (n * 2 ^ k) (-(k : Int)) = double.word s (R n) := by
  by_cases h0 : n = 0
  · subst h0; simp [Format.nearest, R]
  have hl := log2_lt53 h0 h
  obtain ⟨b1, b2⟩ := R_bd h0 h
  have hp : 0 < 2 ^ k := Nat.two_pow_pos k
  have hne : n * 2 ^ k ≠ 0 := Nat.mul_ne_zero h0 (by omega)
  unfold Format.nearest
  rw [if_neg hne]
  simp only [log2_mul n k h0]
  have hfb : double.fractionBits = 52 := rfl
  have hlp : double.leastPlace = -1074 := by decide
  have hbi : double.binade = 4503599627370496 := rfl
  have hin : double.infRung = 2047 * 4503599627370496 := by decide
  rw [hfb, hlp, hbi, hin]
  have hlast : max (-(k : Int) + ((n.log2 + k : Nat) : Int) - ((52 : Nat) : Int)) (-1074) = (n.log2 : Int) - 52 := by omega
  rw [hlast]
  have hkept : Toward.even.cut s ((n * 2 ^ k) <<< (-(k : Int) - ((n.log2 : Int) - 52)).toNat) ((n.log2 : Int) - 52 - -(k : Int)).toNat = n * 2 ^ (52 - n.log2) := by
    by_cases hk : k ≤ 52 - n.log2
    · rw [show ((n.log2 : Int) - 52 - -(k : Int)).toNat = 0 by omega, cut_zero, show (-(k : Int) - ((n.log2 : Int) - 52)).toNat = 52 - n.log2 - k by omega, Nat.shiftLeft_eq, Nat.mul_assoc, ← Nat.pow_add]
      congr 2; omega
    · rw [show (-(k : Int) - ((n.log2 : Int) - 52)).toNat = 0 by omega, Nat.shiftLeft_zero]
      have e : n * 2 ^ k = n * 2 ^ (52 - n.log2) * 2 ^ (((n.log2 : Int) - 52 - -(k : Int)).toNat) := by
        rw [Nat.mul_assoc, ← Nat.pow_add]; congr 2; omega
      rw [e]
      exact cut_exact s _ _ (by omega)
  rw [hkept]
  unfold R
  rw [if_neg h0, show ((n.log2 : Int) - 52 - -1074).toNat = n.log2 + 1022 by omega]
  rw [Nat.min_eq_left (R_le h0 h)]

theorem W_eq (s : Bool) {n : Nat} (h : n < 9007199254740992) : W s n = double.word s (R n) := by
  have := nearest_eq s n 0 h
  simpa [W] using this

/-- what a datum stands for: a whole number with its sign -/
def Val (d : Datum) (s : Bool) (n : Nat) : Prop := ∃ k : Nat, d = .number s (n * 2 ^ k) (-(k : Int))

theorem R_lt {n : Nat} (h : n < 9007199254740992) : R n < 9223372036854775808 := by
  unfold R
  split
  · decide
  · rename_i h0
    obtain ⟨b1, b2⟩ := R_bd h0 h
    have hl := log2_lt53 h0 h
    have : (n.log2 + 1022) * 4503599627370496 ≤ 1074 * 4503599627370496 := Nat.mul_le_mul_right _ (by omega)
    omega

theorem read_W (s : Bool) {n : Nat} (h : n < 9007199254740992) : Val (double.read (W s n)) s n := by
  have hR := R_lt h
  rw [W_eq s h]
  have hsw : double.signWeight = 9223372036854775808 := by decide
  have e1 : ((double.word s (R n)) / double.signWeight % 2 == 1) = s := by
    unfold Format.word
    rw [hsw]
    cases s
    · rw [if_neg (by decide), Nat.div_eq_of_lt hR]; rfl
    · rw [if_pos rfl, Nat.add_div_left _ (by decide), Nat.div_eq_of_lt hR]; rfl
  have e2 : (double.word s (R n)) % double.signWeight = R n := by
    unfold Format.word
    rw [hsw]
    cases s
    · rw [if_neg (by decide), Nat.mod_eq_of_lt hR]
    · rw [if_pos rfl, Nat.add_mod_left, Nat.mod_eq_of_lt hR]
  unfold Format.read
  simp only [e1, e2]
  have hbi : double.binade = 4503599627370496 := rfl
  have hin : double.infRung = 2047 * 4503599627370496 := by decide
  have hlp : double.leastPlace = -1074 := by decide
  rw [hbi, hin, hlp]
  by_cases h0 : n = 0
  · subst h0
    have e0 : R 0 = 0 := rfl
    rw [e0, if_pos (by decide)]
    obtain ⟨k, hk⟩ : ∃ k : Nat, k = 1074 := ⟨_, rfl⟩
    refine ⟨k, ?_⟩
    rw [Nat.zero_mul, hk]; rfl
  · obtain ⟨b1, b2⟩ := R_bd h0 h
    have hl := log2_lt53 h0 h
    have e : R n = (n.log2 + 1022) * 4503599627370496 + n * 2 ^ (52 - n.log2) := by unfold R; rw [if_neg h0]
    have : (n.log2 + 1022) * 4503599627370496 ≤ 1074 * 4503599627370496 := Nat.mul_le_mul_right _ (by omega)
    rw [if_neg (by omega), if_pos (by omega)]
    refine ⟨52 - n.log2, ?_⟩
    generalize hx : n * 2 ^ (52 - n.log2) = x at *
    have em : R n % 4503599627370496 = x - 4503599627370496 := by rw [e]; omega
    have ed : R n / 4503599627370496 = n.log2 + 1023 := by rw [e]; omega
    rw [em, ed, show 4503599627370496 + (x - 4503599627370496) = x by omega, show (-1074 : Int) + ((n.log2 + 1023 - 1 : Nat) : Int) = -((52 - n.log2 : Nat) : Int) by omega]

theorem write_Val {d : Datum} {s : Bool} {n : Nat} (h : Val d s n) (hn : n < 9007199254740992) : double.write d = W s n := by
  obtain ⟨k, rfl⟩ := h
  rw [W_eq s hn]
  exact nearest_eq s n k hn

theorem signed_sg (s : Bool) (n k : Nat) : signed s n k = sg s n * 2 ^ k := by
  unfold signed sg
  rw [Nat.shiftLeft_eq]
  cases s <;> simp [Int.neg_mul]

theorem signed_up (s : Bool) (n k M : Nat) (h : k ≤ M) : signed s (n * 2 ^ k) (M - k) = sg s n * 2 ^ M := by
  rw [signed_sg]
  have : ((2 : Int) ^ M) = 2 ^ k * 2 ^ (M - k) := by rw [← Int.pow_add]; congr 1; omega
  rw [this]
  unfold sg
  cases s <;> simp [Int.mul_assoc, Int.neg_mul]

theorem sum_Val {d e : Datum} {s t : Bool} {n m : Nat} (hd : Val d s n) (he : Val e t m) :
    ∃ r, d.sum e = some r ∧ Val r (if sg s n + sg t m = 0 then s && t else decide (sg s n + sg t m < 0)) (sg s n + sg t m).natAbs := by
  obtain ⟨k, rfl⟩ := hd
  obtain ⟨j, rfl⟩ := he
  refine ⟨_, rfl, max k j, ?_⟩
  have hb : min (-(k : Int)) (-(j : Int)) = -((max k j : Nat) : Int) := by omega
  rw [hb]
  have e1 : (-(k : Int) - -((max k j : Nat) : Int)).toNat = max k j - k := by omega
  have e2 : (-(j : Int) - -((max k j : Nat) : Int)).toNat = max k j - j := by omega
  rw [e1, e2, signed_up _ _ _ _ (by omega), signed_up _ _ _ _ (by omega), ← Int.add_mul]
  have hp : (0 : Int) < 2 ^ (max k j) := Int.pow_pos (by decide)
  generalize sg s n + sg t m = z
  have h1 : (z * 2 ^ max k j = 0) ↔ z = 0 := by
    constructor
    · intro h; rcases Int.mul_eq_zero.1 h with h | h <;> omega
    · rintro rfl; simp
  have h2 : (z * 2 ^ max k j < 0) ↔ z < 0 := by
    constructor
    · intro h
      by_cases hz : z < 0
      · exact hz
      · have := Int.mul_nonneg (show 0 ≤ z by omega) (Int.le_of_lt hp); omega
    · intro h; exact Int.mul_neg_of_neg_of_pos h hp
  have h3 : (z * 2 ^ max k j).natAbs = z.natAbs * 2 ^ max k j := by
    rw [Int.natAbs_mul]; congr 1
  rw [h3]
  simp only [h1, h2]

theorem product_Val {d e : Datum} {s t : Bool} {n m : Nat} (hd : Val d s n) (he : Val e t m) : ∃ r, d.product e = some r ∧ Val r (s ^^ t) (n * m) := by
  obtain ⟨k, rfl⟩ := hd
  obtain ⟨j, rfl⟩ := he
  refine ⟨_, rfl, k + j, ?_⟩
  congr 1
  · rw [Nat.pow_add, Nat.mul_mul_mul_comm]
  · omega

theorem opposite_Val {d : Datum} {s : Bool} {n : Nat} (hd : Val d s n) : Val d.opposite (!s) n := by
  obtain ⟨k, rfl⟩ := hd
  exact ⟨k, rfl⟩

theorem order_Val {d e : Datum} {s t : Bool} {n m : Nat} (hd : Val d s n) (he : Val e t m) : d.order e = some (compare (sg s n) (sg t m)) := by
  obtain ⟨k, rfl⟩ := hd
  obtain ⟨j, rfl⟩ := he
  unfold Datum.order
  have hb : min (-(k : Int)) (-(j : Int)) = -((max k j : Nat) : Int) := by omega
  simp only [hb]
  have e1 : (-(k : Int) - -((max k j : Nat) : Int)).toNat = max k j - k := by omega
  have e2 : (-(j : Int) - -((max k j : Nat) : Int)).toNat = max k j - j := by omega
  rw [e1, e2, signed_up _ _ _ _ (by omega), signed_up _ _ _ _ (by omega)]
  have hp : (0 : Int) < 2 ^ (max k j) := Int.pow_pos (by decide)
  generalize sg s n = x
  generalize sg t m = y
  congr 1
  have hl : ∀ a b : Int, a * 2 ^ max k j < b * 2 ^ max k j ↔ a < b := fun a b => ⟨fun h => Int.lt_of_mul_lt_mul_right h (Int.le_of_lt hp), fun h => Int.mul_lt_mul_of_pos_right h hp⟩
  rcases Int.lt_trichotomy x y with h | h | h
  · rw [Int.compare_eq_lt.2 h, Int.compare_eq_lt.2 ((hl _ _).2 h)]
  · subst h; simp
  · rw [Int.compare_eq_gt.2 h, Int.compare_eq_gt.2 ((hl _ _).2 h)]

theorem toInt_Val {d : Datum} {s : Bool} {n : Nat} (hd : Val d s n) : d.toInt .zero = some (sg s n) := by
  obtain ⟨k, rfl⟩ := hd
  unfold Datum.toInt Datum.integral
  simp only
  rw [show (-(k : Int)).toNat = 0 by omega, show (- -(k : Int)).toNat = k by omega, Nat.shiftLeft_zero]
  have : Toward.zero.cut s (n * 2 ^ k) k = n := by
    unfold Toward.cut
    by_cases h0 : n = 0
    · subst h0; simp
    · have hm : min k ((n * 2 ^ k).log2 + 2) = k := by rw [log2_mul n k h0]; omega
      simp [hm, Nat.one_shiftLeft, Nat.mul_div_left _ (Nat.two_pow_pos k)]
  rw [this, signed_sg]; simp
/-- a word that is a whole number (a zero may have either sign) -/
def Has (b : Nat) (z : Int) : Prop := ∃ s n, n < 9007199254740992 ∧ b = W s n ∧ sg s n = z
theorem sg_abs (z : Int) : sg (decide (z < 0)) z.natAbs = z := by
  unfold sg
  by_cases h : z < 0
  · simp [h]; omega
  · simp [h]; omega
theorem abs_sg (s : Bool) (n : Nat) : (sg s n).natAbs = n := by unfold sg; cases s <;> simp
theorem near_W (z : Int) : FloatKind.f64.nearest z = W (decide (z < 0)) z.natAbs := rfl
theorem has_near {z : Int} (h1 : -9007199254740992 < z) (h2 : z < 9007199254740992) : Has (FloatKind.f64.nearest z) z :=
  ⟨_, _, by omega, near_W z, sg_abs z⟩
theorem has_order {a b : Nat} {x y : Int} (ha : Has a x) (hb : Has b y) : FloatKind.f64.format.order a b = some (compare x y) := by
  obtain ⟨s, n, hn, rfl, rfl⟩ := ha
  obtain ⟨t, m, hm, rfl, rfl⟩ := hb
  exact order_Val (read_W s hn) (read_W t hm)
theorem has_int {a : Nat} {x : Int} (ha : Has a x) : floatToIntVal .f64 a .i64 = some x := by
  have ha' := ha
  obtain ⟨s, n, hn, rfl, rfl⟩ := ha
  have e : (FloatKind.f64.decode (W s n)).toInt .zero = some (sg s n) := toInt_Val (read_W s hn)
  unfold floatToIntVal
  rw [e]
  dsimp only
  have b1 : IntKind.i64.min ≤ sg s n := by
    have : IntKind.i64.min = -9223372036854775808 := rfl
    rw [this]; unfold sg; cases s <;> simp <;> omega
  have b2 : sg s n ≤ IntKind.i64.max := by
    have : IntKind.i64.max = 9223372036854775807 := rfl
    rw [this]; unfold sg; cases s <;> simp <;> omega
  rw [if_pos ⟨b1, b2⟩]
theorem has_of_sum {r : Datum} {s t : Bool} {z : Int} (hv : Val r (if z = 0 then s && t else decide (z < 0)) z.natAbs) (h1 : -9007199254740992 < z) (h2 : z < 9007199254740992) : Has (double.write r) z := by
  refine ⟨_, _, ?_, write_Val hv (by omega), ?_⟩
  · omega
  · by_cases hz : z = 0
    · subst hz; unfold sg; simp
    · rw [if_neg hz]; exact sg_abs z
theorem has_add {a b : Nat} {x y : Int} (ha : Has a x) (hb : Has b y) (h1 : -9007199254740992 < x + y) (h2 : x + y < 9007199254740992) : ∃ r, floatBits .add .f64 a b = some r ∧ Has r (x + y) := by
  obtain ⟨s, n, hn, rfl, rfl⟩ := ha
  obtain ⟨t, m, hm, rfl, rfl⟩ := hb
  obtain ⟨r, hr, hv⟩ := sum_Val (read_W s hn) (read_W t hm)
  refine ⟨double.write r, ?_, has_of_sum hv h1 h2⟩
  exact congrArg (Option.map double.write) hr
theorem sg_not (s : Bool) (n : Nat) : sg (!s) n = -sg s n := by unfold sg; cases s <;> simp
theorem has_sub {a b : Nat} {x y : Int} (ha : Has a x) (hb : Has b y) (h1 : -9007199254740992 < x - y) (h2 : x - y < 9007199254740992) : ∃ r, floatBits .sub .f64 a b = some r ∧ Has r (x - y) := by
  obtain ⟨s, n, hn, rfl, rfl⟩ := ha
  obtain ⟨t, m, hm, rfl, rfl⟩ := hb
  obtain ⟨r, hr, hv⟩ := sum_Val (read_W s hn) (opposite_Val (read_W t hm))
  rw [sg_not, ← Int.sub_eq_add_neg] at hv
  refine ⟨double.write r, ?_, has_of_sum hv h1 h2⟩
  exact congrArg (Option.map double.write) hr
theorem sg_mul (s t : Bool) (n m : Nat) : sg (s ^^ t) (n * m) = sg s n * sg t m := by
  unfold sg
  cases s <;> cases t <;> simp [Int.neg_mul, Int.mul_neg]
theorem has_mul {a b : Nat} {x y : Int} (ha : Has a x) (hb : Has b y) (h1 : -9007199254740992 < x * y) (h2 : x * y < 9007199254740992) : ∃ r, floatBits .mul .f64 a b = some r ∧ Has r (x * y) := by
  obtain ⟨s, n, hn, rfl, rfl⟩ := ha
  obtain ⟨t, m, hm, rfl, rfl⟩ := hb
  obtain ⟨r, hr, hv⟩ := product_Val (read_W s hn) (read_W t hm)
  rw [← sg_mul] at h1 h2 ⊢
  have hb : n * m < 9007199254740992 := by
    have := abs_sg (s ^^ t) (n * m)
    omega
  refine ⟨double.write r, ?_, _, _, hb, write_Val hv hb, rfl⟩
  exact congrArg (Option.map double.write) hr
theorem xor_top {r : Nat} (h : r < 9223372036854775808) : r ^^^ 9223372036854775808 = 9223372036854775808 + r := by
  have e : (9223372036854775808 : Nat) = 2 ^ 63 := by decide
  rw [e] at *
  apply Nat.eq_of_testBit_eq
  intro j
  rw [Nat.testBit_xor]
  rcases Nat.lt_trichotomy j 63 with hj | hj | hj
  · rw [Nat.testBit_two_pow_add_gt hj, Nat.testBit_two_pow, decide_eq_false (by omega), Bool.xor_false]
  · subst hj; rw [Nat.testBit_two_pow_add_eq, Nat.testBit_two_pow]; cases r.testBit 63 <;> rfl
  · have h0 : 2 ^ 63 ≤ 2 ^ j := Nat.pow_le_pow_right (by decide) (by omega)
    have h1 : r.testBit j = false := Nat.testBit_lt_two_pow (Nat.lt_of_lt_of_le h h0)
    have h2 : (2 ^ 63 + r).testBit j = false := Nat.testBit_lt_two_pow (by
      have : 2 ^ 64 ≤ 2 ^ j := Nat.pow_le_pow_right (by decide) (by omega)
      have e2 : (2 ^ 64 : Nat) = 2 ^ 63 + 2 ^ 63 := by decide
      rw [e2] at this
      generalize (2 ^ 63 : Nat) = c at *
      omega)
    rw [h1, h2, Nat.testBit_two_pow, decide_eq_false (by omega), Bool.xor_false]
theorem has_neg {a : Nat} {x : Int} (ha : Has a x) : Has (Op.negFloat .f64 a) (-x) := by
  obtain ⟨s, n, hn, rfl, rfl⟩ := ha
  have hR := R_lt hn
  refine ⟨!s, n, hn, ?_, sg_not s n⟩
  rw [W_eq _ hn, W_eq _ hn]
  have hsw : double.signWeight = 9223372036854775808 := by decide
  have e : Op.negFloat .f64 (double.word s (R n)) = double.word s (R n) ^^^ 9223372036854775808 := rfl
  rw [e]
  unfold Format.word
  rw [hsw]
  cases s
  · exact xor_top hR
  · show (9223372036854775808 + R n) ^^^ 9223372036854775808 = R n
    rw [← xor_top hR, Nat.xor_assoc, Nat.xor_self, Nat.xor_zero]

/-- the word of a number, cut -/
def fb (z : Int) : Nat := FloatKind.f64.nearest (Fx.cut z)
theorem fb_cut (z : Int) : fb (Fx.cut z) = fb z := by unfold fb; rw [Fx.cut_cut]
theorem has_fb (z : Int) : Has (fb z) (Fx.cut z) := by
  have h1 := Fx.cut_le z
  have h2 := Fx.cut_ge z
  exact has_near (by omega) (by omega)
theorem of_near (z : Int) : floatOfInt .f64 (Fx.cut z) = fb z := rfl
theorem order_fb (a b : Int) : FloatKind.f64.format.order (fb a) (fb b) = some (compare (Fx.cut a) (Fx.cut b)) := has_order (has_fb a) (has_fb b)
theorem eq_fb (a b : Int) : (FloatKind.f64.format.order (fb a) (fb b) == some .eq) = decide (Fx.cut a = Fx.cut b) := by
  rw [order_fb]
  by_cases h : Fx.cut a = Fx.cut b
  · rw [h]; simp
  · rcases Int.lt_or_gt_of_ne h with g | g
    · rw [Int.compare_eq_lt.2 g]; simp [h]
    · rw [Int.compare_eq_gt.2 g]; simp [h]
theorem add_fb {a b : Int} (h1 : -1099511627776 ≤ Fx.cut a + Fx.cut b) (h2 : Fx.cut a + Fx.cut b ≤ 1099511627776) : floatBits .add .f64 (fb a) (fb b) = some (fb (Fx.add a b)) := by
  have e : fb (Fx.add a b) = FloatKind.f64.nearest (Fx.cut a + Fx.cut b) := by unfold fb Fx.add; rw [Fx.cut_cut, Fx.cut_id h1 h2]
  rw [e, near_W]
  have c1 := Fx.cut_le a
  have c2 := Fx.cut_ge a
  have c3 := Fx.cut_le b
  have c4 := Fx.cut_ge b
  obtain ⟨r, hr, hv⟩ := sum_Val (read_W (decide (Fx.cut a < 0)) (n := (Fx.cut a).natAbs) (by omega)) (read_W (decide (Fx.cut b < 0)) (n := (Fx.cut b).natAbs) (by omega))
  rw [sg_abs, sg_abs] at hv
  refine (show floatBits .add .f64 (fb a) (fb b) = some (double.write r) from congrArg (Option.map double.write) hr).trans (congrArg some ((write_Val hv (by omega)).trans ?_))
  congr 1
  split
  · rename_i hz
    rw [hz]
    by_cases h3 : Fx.cut a < 0
    · have : ¬ Fx.cut b < 0 := by omega
      simp [this]
    · simp [h3]
  · rfl

/-- half a turn's product: 1i times what is conjugated; and -1 times it -/
theorem has_turn {b c : Nat} {x y : Int} (hb : Has b x) (hc : Has c y) (x1 : -1099511627776 ≤ x) (x2 : x ≤ 1099511627776) (y1 : -1099511627776 ≤ y) (y2 : y ≤ 1099511627776) :
    ∃ re im, cMulBits 0 4607182418800017408 b (Op.negFloat .f64 c) = some (re, im) ∧ Has re y ∧ Has im x := by
  have hn := has_neg hc
  have h0 : Has 0 0 := ⟨false, 0, by decide, by decide, by decide⟩
  have h1 : Has 4607182418800017408 1 := ⟨false, 1, by decide, by decide, by decide⟩
  obtain ⟨r1, e1, v1⟩ := has_mul h0 hb (by rw [Int.zero_mul]; decide) (by rw [Int.zero_mul]; decide)
  obtain ⟨r2, e2, v2⟩ := has_mul h1 hn (by rw [Int.one_mul]; omega) (by rw [Int.one_mul]; omega)
  rw [Int.zero_mul] at v1
  rw [Int.one_mul] at v2
  obtain ⟨r3, e3, v3⟩ := has_sub v1 v2 (by omega) (by omega)
  obtain ⟨r4, e4, v4⟩ := has_mul h0 hn (by rw [Int.zero_mul]; decide) (by rw [Int.zero_mul]; decide)
  obtain ⟨r5, e5, v5⟩ := has_mul h1 hb (by rw [Int.one_mul]; omega) (by rw [Int.one_mul]; omega)
  rw [Int.zero_mul] at v4
  rw [Int.one_mul] at v5
  obtain ⟨r6, e6, v6⟩ := has_add v4 v5 (by omega) (by omega)
  rw [show (0 : Int) - -y = y by omega] at v3
  rw [show (0 : Int) + x = x by omega] at v6
  refine ⟨r3, r6, ?_, v3, v6⟩
  unfold cMulBits
  simp [e1, e2, e3, e4, e5, e6]
theorem has_flip {b c : Nat} {x y : Int} (hb : Has b x) (hc : Has c y) (x1 : -1099511627776 ≤ x) (x2 : x ≤ 1099511627776) (y1 : -1099511627776 ≤ y) (y2 : y ≤ 1099511627776) :
    ∃ re im, cMulBits 13830554455654793216 0 b (Op.negFloat .f64 c) = some (re, im) ∧ Has re (-x) ∧ Has im y := by
  have hn := has_neg hc
  have h0 : Has 0 0 := ⟨false, 0, by decide, by decide, by decide⟩
  have h1 : Has 13830554455654793216 (-1) := ⟨true, 1, by decide, by decide, by decide⟩
  obtain ⟨r1, e1, v1⟩ := has_mul h1 hb (by rw [Int.neg_mul, Int.one_mul]; omega) (by rw [Int.neg_mul, Int.one_mul]; omega)
  obtain ⟨r2, e2, v2⟩ := has_mul h0 hn (by rw [Int.zero_mul]; decide) (by rw [Int.zero_mul]; decide)
  rw [Int.neg_mul, Int.one_mul] at v1
  rw [Int.zero_mul] at v2
  obtain ⟨r3, e3, v3⟩ := has_sub v1 v2 (by omega) (by omega)
  obtain ⟨r4, e4, v4⟩ := has_mul h1 hn (by rw [Int.neg_mul, Int.one_mul]; omega) (by rw [Int.neg_mul, Int.one_mul]; omega)
  obtain ⟨r5, e5, v5⟩ := has_mul h0 hb (by rw [Int.zero_mul]; decide) (by rw [Int.zero_mul]; decide)
  rw [Int.neg_mul, Int.one_mul] at v4
  rw [Int.zero_mul] at v5
  obtain ⟨r6, e6, v6⟩ := has_add v4 v5 (by omega) (by omega)
  rw [show -x - 0 = -x by omega] at v3
  rw [show - -y + 0 = y by omega] at v6
  refine ⟨r3, r6, ?_, v3, v6⟩
  unfold cMulBits
  simp [e1, e2, e3, e4, e5, e6]
end Fl
end Go.Proofs.Ytdgphjpjgldbaaa
