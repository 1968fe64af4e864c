/- Plain numbers of the layer fix: what its calls come to, as functions of integers, and their laws. No program in sight. -/
set_option maxRecDepth 100000
namespace Go.Proofs.Ytbmidmpooooheaa
namespace Fx
def cut (n : Int) : Int := if 1099511627776 < n then 1099511627776 else if n < -1099511627776 then -1099511627776 else n
def add (a b : Int) : Int := cut (cut a + cut b)
def sub (a b : Int) : Int := cut (cut a - cut b)
def mul (a b : Int) : Int := cut (cut a * cut b)
def div (a b : Int) : Int := if b ≤ 0 then 0 else cut a / cut b
def parts (n : Int) : Int := if n < 0 then 0 else if 1000000 < n then 1000000 else n
def part (a n : Int) : Int := cut (cut a * parts n / 10000)
def clamp (n lo hi : Int) : Int := if (if cut hi < cut n then cut hi else cut n) < cut lo then cut lo else (if cut hi < cut n then cut hi else cut n)
def sumTo (s : Int) (l : List Int) : Int := l.foldl add s
def sum (l : List Int) : Int := sumTo 0 l

theorem cut_le (n : Int) : cut n ≤ 1099511627776 := by unfold cut; split <;> (try split) <;> omega
theorem cut_ge (n : Int) : -1099511627776 ≤ cut n := by unfold cut; split <;> (try split) <;> omega
theorem cut_id {n : Int} (a : -1099511627776 ≤ n) (b : n ≤ 1099511627776) : cut n = n := by unfold cut; split <;> (try split) <;> omega
theorem cut_cut (n : Int) : cut (cut n) = cut n := cut_id (cut_ge n) (cut_le n)
theorem cut_mono {a b : Int} (h : a ≤ b) : cut a ≤ cut b := by unfold cut; (repeat' split) <;> omega
theorem cut_neg (n : Int) : cut (-n) = -cut n := by unfold cut; (repeat' split) <;> omega
theorem cut_pos {n : Int} (h : 1 ≤ n) : 1 ≤ cut n := by unfold cut; (repeat' split) <;> omega
theorem cut_nonneg {n : Int} (h : 0 ≤ n) : 0 ≤ cut n := by unfold cut; (repeat' split) <;> omega
theorem parts_ge (n : Int) : 0 ≤ parts n := by unfold parts; split <;> (try split) <;> omega
theorem parts_le (n : Int) : parts n ≤ 1000000 := by unfold parts; split <;> (try split) <;> omega

theorem tdiv_down {a b : Int} (hb : 1 ≤ b) (h : a.tmod b < 0) : a.tdiv b - 1 = a / b := by
  have e := Int.mul_tdiv_add_tmod a b
  have l := Int.lt_tmod_of_pos a (show 0 < b by omega)
  have : a = (b + a.tmod b) + b * (a.tdiv b - 1) := by rw [Int.mul_sub]; omega
  have u := (Int.ediv_emod_unique (a := a) (r := b + a.tmod b) (q := a.tdiv b - 1) (show 0 < b by omega)).2 ⟨this.symm, by omega, by omega⟩
  exact u.1.symm
theorem tdiv_same {a b : Int} (hb : 1 ≤ b) (h : 0 ≤ a.tmod b) : a.tdiv b = a / b := by
  have e := Int.mul_tdiv_add_tmod a b
  have l := Int.tmod_lt_of_pos a (show 0 < b by omega)
  have u := (Int.ediv_emod_unique (a := a) (r := a.tmod b) (q := a.tdiv b) (show 0 < b by omega)).2 ⟨by omega, by omega, by omega⟩
  exact u.1.symm
theorem ediv_ge {a b c : Int} (hb : 1 ≤ b) (h0 : 0 ≤ c) (h : -c ≤ a) : -c ≤ a / b := by
  apply Int.le_ediv_of_mul_le (by omega)
  have : c * 1 ≤ c * b := Int.mul_le_mul_of_nonneg_left hb h0
  rw [Int.neg_mul]; omega
theorem ediv_le {a b c : Int} (hb : 1 ≤ b) (h0 : 0 ≤ c) (h : a ≤ c) : a / b ≤ c := by
  apply Int.ediv_le_of_le_mul (by omega)
  have : c * 1 ≤ c * b := Int.mul_le_mul_of_nonneg_left hb h0
  omega
theorem tdiv_ge {a b : Int} (hb : 1 ≤ b) (h3 : -1152921504606846976 ≤ a) : -1152921504606846976 ≤ a.tdiv b := by
  have := ediv_ge hb (by omega) h3
  by_cases h : a.tmod b < 0
  · have := tdiv_down hb h; omega
  · have := tdiv_same hb (by omega : 0 ≤ a.tmod b); omega
theorem tdiv_le {a b : Int} (hb : 1 ≤ b) (h3 : a ≤ 1152921504606846976) : a.tdiv b ≤ 1152921504606846977 := by
  have := ediv_le hb (by omega) h3
  by_cases h : a.tmod b < 0
  · have := tdiv_down hb h; omega
  · have := tdiv_same hb (by omega : 0 ≤ a.tmod b); omega
theorem clamp_parts (n : Int) : clamp n 0 1000000 = parts n := by
  unfold clamp parts cut
  (repeat' split) <;> omega
theorem part_bd (a n : Int) : -1152921504606846976 ≤ cut a * parts n ∧ cut a * parts n ≤ 1152921504606846976 := by
  have h1 := cut_le a
  have h2 := cut_ge a
  have h3 := parts_ge n
  have h4 := parts_le n
  constructor
  · have : (-1099511627776) * parts n ≤ cut a * parts n := Int.mul_le_mul_of_nonneg_right h2 h3
    omega
  · have : cut a * parts n ≤ 1099511627776 * parts n := Int.mul_le_mul_of_nonneg_right h1 h3
    omega
theorem div_cut (a b : Int) : cut (div a b) = div a b := by
  unfold div
  split
  · rfl
  · have := cut_pos (n := b) (by omega)
    exact cut_id (ediv_ge this (by omega) (cut_ge a)) (ediv_le this (by omega) (cut_le a))

theorem sum_nil : sum [] = 0 := rfl
theorem sumTo_snoc (s : Int) (l : List Int) (x : Int) : sumTo s (l ++ [x]) = add (sumTo s l) x := by simp [sumTo]
theorem sum_snoc (l : List Int) (x : Int) : sum (l ++ [x]) = add (sum l) x := sumTo_snoc 0 l x

/-- the size of a number -/
def siz (n : Int) : Int := if n < 0 then -n else n
theorem siz_bd (a : Int) : 0 ≤ siz (cut a) ∧ siz (cut a) ≤ 1099511627776 := by
  have h1 := cut_le a
  have h2 := cut_ge a
  unfold siz; split <;> omega
theorem mul_siz (a b : Int) : mul a b = bif !(decide (cut a < 0) == decide (cut b < 0)) then -cut (siz (cut a) * siz (cut b)) else cut (siz (cut a) * siz (cut b)) := by
  unfold mul siz
  by_cases ha : cut a < 0 <;> by_cases hb : cut b < 0 <;> simp [ha, hb, Int.neg_mul, Int.mul_neg, Int.neg_neg, cut_neg]
/-- what a round of doubling keeps -/
theorem cut_add {x y : Int} (hx : 0 ≤ x) (hy : 0 ≤ y) : cut (cut x + y) = cut (x + y) := by unfold cut; (repeat' split) <;> omega
theorem cut_add' {x y : Int} (hx : 0 ≤ x) (hy : 0 ≤ y) : cut (x + cut y) = cut (x + y) := by unfold cut; (repeat' split) <;> omega
theorem cut_dbl {n a b : Int} (hn : 0 ≤ n) (ha : 0 ≤ a) (hb : 0 ≤ b) : cut (n + cut (2 * a) * b) = cut (n + 2 * a * b) := by
  by_cases h : 2 * a ≤ 1099511627776
  · rw [cut_id (n := 2 * a) (by omega) h]
  · by_cases h0 : b = 0
    · subst h0; simp
    · have e : cut (2 * a) = 1099511627776 := by unfold cut; split <;> omega
      rw [e]
      have : (2 * a) * 1 ≤ 2 * a * b := Int.mul_le_mul_of_nonneg_left (by omega) (by omega)
      unfold cut
      (repeat' split) <;> omega
theorem dbl_even {n a b : Int} (hn : 0 ≤ n) (ha : 0 ≤ a) (hb : 0 ≤ b) (h : b % 2 ≠ 1) : cut (n + cut (2 * a) * (b / 2)) = cut (n + a * b) := by
  rw [cut_dbl hn ha (by omega)]
  have e : a * b = 2 * a * (b / 2) := by
    rw [Int.mul_assoc, Int.mul_left_comm]
    congr 1; omega
  rw [e]
theorem dbl_odd {n a b : Int} (hn : 0 ≤ n) (ha : 0 ≤ a) (hb : 0 ≤ b) (h : b % 2 = 1) : cut (cut (n + a) + cut (2 * a) * (b / 2)) = cut (n + a * b) := by
  rw [cut_dbl (cut_nonneg (by omega)) ha (by omega)]
  have p : 0 ≤ 2 * a * (b / 2) := Int.mul_nonneg (by omega) (by omega)
  rw [cut_add (by omega) p]
  have e : a * b = a + 2 * a * (b / 2) := by
    have : b = 1 + 2 * (b / 2) := by omega
    have e2 : 2 * a * (b / 2) = a * (2 * (b / 2)) := by rw [Int.mul_assoc, Int.mul_left_comm]
    rw [e2]
    calc a * b = a * (1 + 2 * (b / 2)) := by rw [← this]
      _ = _ := by rw [Int.mul_add, Int.mul_one]
  rw [e, Int.add_assoc]

/-- a product by its halves -/
theorem halves (a b : Int) : a * b = (a / 4294967296) * (b / 4294967296) * 18446744073709551616 + ((a / 4294967296) * (b % 4294967296) + (a % 4294967296) * (b / 4294967296)) * 4294967296 + (a % 4294967296) * (b % 4294967296) := by
  generalize hx : a / 4294967296 = x
  generalize hy : a % 4294967296 = y
  generalize hz : b / 4294967296 = z
  generalize hu : b % 4294967296 = u
  have ea : a = x * 4294967296 + y := by omega
  have eb : b = z * 4294967296 + u := by omega
  rw [ea, eb]
  simp only [Int.add_mul, Int.mul_add]
  have e1 : x * 4294967296 * (z * 4294967296) = x * z * 18446744073709551616 := by
    rw [Int.mul_assoc, Int.mul_left_comm (4294967296) z, ← Int.mul_assoc x z]; congr 1
  have e2 : x * 4294967296 * u = x * u * 4294967296 := by rw [Int.mul_assoc, Int.mul_comm 4294967296 u, ← Int.mul_assoc]
  have e3 : y * (z * 4294967296) = y * z * 4294967296 := by rw [← Int.mul_assoc]
  rw [e1, e2, e3]
  omega
theorem mul_bd {x y c d : Int} (h1 : 0 ≤ x) (h2 : x ≤ c) (h3 : 0 ≤ y) (h4 : y ≤ d) : 0 ≤ x * y ∧ x * y ≤ c * d :=
  ⟨Int.mul_nonneg h1 h3, Int.mul_le_mul h2 h4 h3 (by omega)⟩
theorem or_nat (x y : Nat) (hy : y < 4294967296) : x * 4294967296 ||| y = x * 4294967296 + y := by
  have := Nat.shiftLeft_add_eq_or_of_lt (i := 32) (b := y) (by simpa using hy) x
  rw [Nat.shiftLeft_eq] at this
  simpa using this.symm
theorem add_mono {a b c : Int} (h : a ≤ b) : add a c ≤ add b c := cut_mono (by have := cut_mono h; omega)
theorem sub_mono {a b c : Int} (h : a ≤ b) : sub c b ≤ sub c a := cut_mono (by have := cut_mono h; omega)
theorem part_mono {a b n : Int} (h : a ≤ b) : part a n ≤ part b n := by
  have h1 : cut a * parts n ≤ cut b * parts n := Int.mul_le_mul_of_nonneg_right (cut_mono h) (parts_ge n)
  unfold part
  exact cut_mono (by omega)
theorem div_mono {a b n : Int} (h : a ≤ b) : div a n ≤ div b n := by
  unfold div
  split
  · omega
  · exact Int.ediv_le_ediv (by have := cut_pos (n := n) (by omega); omega) (cut_mono h)
theorem clamp_ge {a b n : Int} (h : a ≤ b) : cut a ≤ clamp n a b := by
  have := cut_mono h
  unfold clamp; (repeat' split) <;> omega
theorem clamp_le {a b n : Int} (h : a ≤ b) : clamp n a b ≤ cut b := by
  have := cut_mono h
  unfold clamp; (repeat' split) <;> omega
theorem clamp_cut {a b n : Int} : cut (clamp n a b) = clamp n a b := by
  unfold clamp; (repeat' split) <;> exact cut_cut _
theorem clamp_again {a b n : Int} (h : a ≤ b) : clamp (clamp n a b) a b = clamp n a b := by
  have h1 := clamp_ge (n := n) h
  have h2 := clamp_le (n := n) h
  have h3 := clamp_cut (a := a) (b := b) (n := n)
  generalize clamp n a b = x at *
  unfold clamp
  rw [h3]
  (repeat' split) <;> omega
theorem add_comm (a b : Int) : add a b = add b a := by unfold add; rw [Int.add_comm]
theorem mul_comm (a b : Int) : mul a b = mul b a := by unfold mul; rw [Int.mul_comm]
theorem div_plain {a b : Int} (h1 : 0 ≤ a) (h2 : a ≤ 549755813888) (h3 : 1 ≤ b) (h4 : b ≤ 1073741824) : div a b = a / b := by
  unfold div
  rw [if_neg (by omega), cut_id (by omega) (by omega), cut_id (by omega) (by omega)]
theorem div_mul_le {a b : Int} (h1 : 0 ≤ a) (h2 : a ≤ 549755813888) (h3 : 1 ≤ b) (h4 : b ≤ 1073741824) : div a b * b ≤ a := by
  rw [div_plain h1 h2 h3 h4]; exact Int.ediv_mul_le a (by omega)
theorem div_mul_gt {a b : Int} (h1 : 0 ≤ a) (h2 : a ≤ 549755813888) (h3 : 1 ≤ b) (h4 : b ≤ 1073741824) : a - div a b * b < b := by
  rw [div_plain h1 h2 h3 h4]
  have := Int.lt_ediv_add_one_mul_self a (show 0 < b by omega)
  rw [Int.add_mul] at this; omega
theorem div_mul_ge {a b : Int} (h1 : 0 ≤ a) (h2 : a ≤ 549755813888) (h3 : 1 ≤ b) (h4 : b ≤ 1073741824) : 0 ≤ div a b * b := by
  rw [div_plain h1 h2 h3 h4]; exact Int.mul_nonneg (Int.ediv_nonneg h1 (by omega)) (by omega)
theorem part_half {a : Int} (h1 : 0 ≤ a) (h2 : a ≤ 549755813888) : 2 * part a 5000 ≤ a ∧ a - 2 * part a 5000 ≤ 1 := by
  unfold part
  rw [cut_id (n := a) (by omega) (by omega), show parts 5000 = 5000 from rfl, cut_id (by omega) (by omega)]
  omega
theorem part_whole {a : Int} (h1 : 0 ≤ a) (h2 : a ≤ 549755813888) : part a 10000 = a := by
  unfold part
  rw [cut_id (n := a) (by omega) (by omega), show parts 10000 = 10000 from rfl, cut_id (by omega) (by omega)]
  omega
theorem part_none {a : Int} : part a 0 = 0 := by
  unfold part; rw [show parts 0 = 0 from rfl, Int.mul_zero]; rfl
theorem div_one {a : Int} (h1 : 0 ≤ a) (h2 : a ≤ 549755813888) : div a 1 = a := by
  rw [div_plain h1 h2 (by omega) (by omega), Int.ediv_one]
theorem mul_neg (a b : Int) : mul (-a) b = -mul a b := by unfold mul; rw [cut_neg, Int.neg_mul, cut_neg]
theorem sub_neg (a b : Int) : sub a b = -sub b a := by unfold sub; rw [← cut_neg, Int.neg_sub]
theorem add_neg (a b : Int) : add (-a) (-b) = -add a b := by unfold add; rw [cut_neg a, cut_neg b, ← cut_neg (cut a + cut b), Int.neg_add]
theorem mul_zero (a : Int) : mul a 0 = 0 := by unfold mul; rw [show cut 0 = 0 from rfl, Int.mul_zero]; rfl
theorem mul_one (a : Int) : mul a 1 = cut a := by unfold mul; rw [show cut 1 = 1 from rfl, Int.mul_one, cut_cut]
theorem part_cut (a n : Int) : cut (part a n) = part a n := cut_cut _
theorem sumTo_cut (l : List Int) (s : Int) (h : cut s = s) : cut (sumTo s l) = sumTo s l := by
  induction l generalizing s with
  | nil => exact h
  | cons x l ih => exact ih (add s x) (cut_cut _)
theorem sum_cut (l : List Int) : cut (sum l) = sum l := sumTo_cut l 0 rfl
/-- the eight results of which FixLimits speaks -/
def eight (a b c : Int) : List Int := [cut a, add a b, sub a b, mul a b, div a b, part a b, clamp a b c, sum [a, b, c]]
theorem eight_cut (a b c : Int) (k : Nat) (h : k < 8) : cut ((eight a b c).getD k 0) = (eight a b c).getD k 0 := by
  unfold eight
  match k, h with
  | 0, _ => exact cut_cut _
  | 1, _ => exact cut_cut _
  | 2, _ => exact cut_cut _
  | 3, _ => exact cut_cut _
  | 4, _ => exact div_cut _ _
  | 5, _ => exact cut_cut _
  | 6, _ => exact clamp_cut
  | 7, _ => exact sum_cut _
/-- a plain total, and when a sum is it -/
def tot (l : List Int) : Int := l.foldr (· + ·) 0
theorem tot_append (a b : List Int) : tot (a ++ b) = tot a + tot b := by
  induction a with
  | nil => simp [tot]
  | cons x a ih => show x + tot (a ++ b) = x + tot a + tot b; omega
theorem tot_reverse (l : List Int) : tot l.reverse = tot l := by
  induction l with
  | nil => rfl
  | cons x l ih => rw [List.reverse_cons, tot_append, ih]; show tot l + (x + 0) = x + tot l; omega
def smallB (l : List Int) : Bool := l.all fun z => decide (z ≤ 1073741824) && decide (-1073741824 ≤ z)
theorem smallB_cons (x : Int) (l : List Int) : smallB (x :: l) = (smallB l && decide (x ≤ 1073741824) && decide (-1073741824 ≤ x)) := by
  unfold smallB
  rw [List.all_cons]
  cases decide (x ≤ 1073741824) <;> cases decide (-1073741824 ≤ x) <;> simp
theorem smallB_mem {l : List Int} (h : smallB l = true) {x : Int} (hx : x ∈ l) : x ≤ 1073741824 ∧ -1073741824 ≤ x := by
  unfold smallB at h
  have := List.all_eq_true.1 h x hx
  simpa using this
theorem sumTo_plain (l : List Int) (s : Int) (b : Int) (hb : 0 ≤ b) (h : ∀ x ∈ l, x ≤ 1073741824 ∧ -1073741824 ≤ x) (hs : s ≤ b) (hs2 : -b ≤ s) (hm : b + l.length * 1073741824 ≤ 1099511627776) : sumTo s l = s + tot l := by
  induction l generalizing s b with
  | nil => simp [sumTo, tot]
  | cons x l ih =>
    obtain ⟨x1, x2⟩ := h x (by simp)
    have hlen : ((x :: l).length : Int) = (l.length : Int) + 1 := by simp
    rw [hlen, Int.add_mul] at hm
    have : (0 : Int) ≤ (l.length : Int) * 1073741824 := by omega
    have e : add s x = s + x := by unfold add; rw [cut_id (n := s) (by omega) (by omega), cut_id (n := x) (by omega) (by omega), cut_id (by omega) (by omega)]
    show sumTo (add s x) l = s + (x + tot l)
    rw [e, ih (s + x) (b + 1073741824) (by omega) (fun y hy => h y (by simp [hy])) (by omega) (by omega) (by omega)]
    omega
theorem sum_plain {l : List Int} (h : smallB l = true) (hl : l.length ≤ 1000) : sum l = tot l := by
  have := sumTo_plain l 0 0 (by omega) (fun x hx => smallB_mem h hx) (by omega) (by omega) (by omega)
  unfold sum; rw [this]; omega
theorem smallB_reverse (l : List Int) : smallB l.reverse = smallB l := by unfold smallB; simp
theorem sum_reverse {l : List Int} (h : smallB l = true) (hl : l.length ≤ 1000) : sum l.reverse = sum l := by
  rw [sum_plain h hl, sum_plain (by rw [smallB_reverse]; exact h) (by simpa using hl), tot_reverse]
theorem tot_snoc (l : List Int) (x : Int) : tot (l ++ [x]) = tot l + x := by rw [tot_append]; show tot l + (x + 0) = _; omega
theorem sumTo_most (l : List Int) (h : ∀ x ∈ l, 0 ≤ x) : sumTo 1099511627776 l = 1099511627776 := by
  induction l with
  | nil => rfl
  | cons x l ih =>
    have hx := h x (by simp)
    have e : add 1099511627776 x = 1099511627776 := by
      unfold add
      have := cut_nonneg hx
      rw [show cut 1099511627776 = 1099511627776 from rfl]
      unfold cut
      (repeat' split) <;> omega
    show sumTo (add 1099511627776 x) l = _
    rw [e]; exact ih fun y hy => h y (by simp [hy])
theorem sum_most (l : List Int) (h : ∀ x ∈ l, 0 ≤ x) : sum (1099511627776 :: l) = 1099511627776 := by
  show sumTo (add 0 1099511627776) l = _
  rw [show add 0 1099511627776 = 1099511627776 from rfl]; exact sumTo_most l h
theorem add_most (m : Int) (h : 0 ≤ m) : add 1099511627776 m = 1099511627776 := by
  have := sumTo_most [m] (by simpa using h)
  exact this
theorem sub_most (m : Int) (h : 0 ≤ m) : sub (-1099511627776) m = -1099511627776 := by
  have := cut_nonneg h
  unfold sub
  rw [show cut (-1099511627776) = -1099511627776 from rfl]
  unfold cut at *
  (repeat' split) <;> omega
end Fx
end Go.Proofs.Ytbmidmpooooheaa
