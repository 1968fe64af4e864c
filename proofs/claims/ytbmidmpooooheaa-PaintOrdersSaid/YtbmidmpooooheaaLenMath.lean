/- Plain numbers of the layer length. No program in sight. -/
import Derived.Test.YtbmidmpooooheaaSpanMath
set_option maxRecDepth 100000
namespace Go.Proofs.Ytbmidmpooooheaa
namespace Fx
/-- a length is a kind (1: a number; 2: parts of a base) and a number -/
def fixd (k base : Int) : Bool := decide (k = 1) || (decide (k = 2) && decide (0 ≤ base))
def len (k n base none : Int) : Int := if k = 1 then cut n else if k = 2 ∧ 0 ≤ base then part base n else cut none
def valid (k n : Int) : Bool := if k = 0 then decide (n = 0) else if k = 1 then decide (n = cut n) else if k = 2 then decide (0 ≤ n) && decide (n ≤ 1000000) else false
def limit (n lk ln hk hn base : Int) : Int := mx (clamp n (len lk ln base (-1099511627776)) (len hk hn base 1099511627776)) 0
theorem fixd_iff {k base : Int} : fixd k base = true ↔ k = 1 ∨ (k = 2 ∧ 0 ≤ base) := by unfold fixd; simp
theorem fixd_not {k base : Int} : fixd k base = false ↔ k ≠ 1 ∧ (k = 2 → base < 0) := by unfold fixd; simp
theorem len_px {k n base none : Int} (h : k = 1) : len k n base none = cut n := by unfold len; rw [if_pos h]
theorem len_per {k n base none : Int} (h : k = 2) (h2 : 0 ≤ base) : len k n base none = part base n := by unfold len; rw [if_neg (by omega), if_pos ⟨h, h2⟩]
theorem len_not {k n base none : Int} (h : fixd k base = false) : len k n base none = cut none := by
  rw [fixd_not] at h
  unfold len; rw [if_neg h.1, if_neg (by omega)]
theorem len_same {k n base none none' : Int} (h : fixd k base = true) : len k n base none = len k n base none' := by
  rw [fixd_iff] at h
  unfold len
  by_cases h1 : k = 1
  · rw [if_pos h1, if_pos h1]
  · rw [if_neg h1, if_neg h1, if_pos (by omega), if_pos (by omega)]
theorem len_cut (k n base none : Int) : cut (len k n base none) = len k n base none := by
  unfold len
  (repeat' split)
  · exact cut_cut _
  · exact part_cut _ _
  · exact cut_cut _
theorem len_le (k n base none : Int) : len k n base none ≤ 1099511627776 := by rw [← len_cut]; exact cut_le _
theorem len_ge (k n base none : Int) : -1099511627776 ≤ len k n base none := by rw [← len_cut]; exact cut_ge _
/-- what an end that is not fixed holds: nothing -/
theorem limit_eq (n lk ln hk hn base : Int) : limit n lk ln hk hn base =
    mx (bif fixd lk base then mx (bif fixd hk base then mn (cut n) (len hk hn base 0) else cut n) (len lk ln base 0) else (bif fixd hk base then mn (cut n) (len hk hn base 0) else cut n)) 0 := by
  have l1 := cut_le n
  have l2 := cut_ge n
  have l3 := len_le hk hn base 0
  have l4 := len_ge hk hn base 0
  have l5 := len_le lk ln base 0
  have l6 := len_ge lk ln base 0
  unfold limit clamp
  rw [len_cut, len_cut]
  cases h1 : fixd lk base <;> cases h2 : fixd hk base <;> simp only [cond_true, cond_false]
  · rw [len_not h1, len_not h2]; simp only [cut_id (n := 1099511627776) (by omega) (by omega), cut_id (n := -1099511627776) (by omega) (by omega)]
    unfold mx; (repeat' split) <;> omega
  · rw [len_not h1, len_same (none' := 0) h2]; simp only [cut_id (n := -1099511627776) (by omega) (by omega)]
    unfold mx mn; (repeat' split) <;> omega
  · rw [len_not h2, len_same (none' := 0) h1]; simp only [cut_id (n := 1099511627776) (by omega) (by omega)]
    unfold mx; (repeat' split) <;> omega
  · rw [len_same (none' := 0) h1, len_same (none := 1099511627776) (none' := 0) h2]
    unfold mx mn; (repeat' split) <;> omega
theorem part_more {a n m : Int} (h : 0 ≤ a) (h2 : n ≤ m) : part a n ≤ part a m := by
  unfold part
  refine cut_mono (Int.ediv_le_ediv (by omega) (Int.mul_le_mul_of_nonneg_left ?_ (cut_nonneg h)))
  unfold parts; (repeat' split) <;> omega
theorem part_all {a : Int} (h : 0 ≤ a) (h2 : a ≤ 1099511627776) : part a 10000 = a := by
  unfold part
  have e : parts 10000 = 10000 := by decide
  rw [e, cut_id (n := a) (by omega) (by omega), Int.mul_ediv_cancel a (by omega), cut_id (by omega) h2]
theorem part_ge0 {a n : Int} (h : 0 ≤ a) : 0 ≤ part a n := by
  have := @part_more a 0 (parts n) h (parts_ge n)
  have e : part a 0 = 0 := part_none
  unfold part
  exact cut_nonneg (Int.ediv_nonneg (Int.mul_nonneg (cut_nonneg h) (parts_ge n)) (by omega))
theorem limit_ge0 (n lk ln hk hn base : Int) : 0 ≤ limit n lk ln hk hn base := by unfold limit mx; split <;> omega
theorem limit_lo {n lk ln hk hn base : Int} (h : fixd lk base = true) : len lk ln base 0 ≤ limit n lk ln hk hn base := by
  rw [limit_eq, h]; simp only [cond_true]
  unfold mx; (repeat' split) <;> omega
theorem limit_hi {n lk ln hk hn base : Int} (h : fixd hk base = true) (h2 : fixd lk base = false) : limit n lk ln hk hn base ≤ mx (len hk hn base 0) 0 := by
  rw [limit_eq, h, h2]; simp only [cond_true, cond_false]
  unfold mx mn; (repeat' split) <;> omega
theorem limit_hi2 {n lk ln hk hn base : Int} (h : fixd hk base = true) (h2 : fixd lk base = true) : limit n lk ln hk hn base ≤ mx (len hk hn base 0) (mx (len lk ln base 0) 0) := by
  rw [limit_eq, h, h2]; simp only [cond_true]
  unfold mx mn; (repeat' split) <;> omega
theorem limit_more {n m lk ln hk hn base : Int} (h : n ≤ m) : limit n lk ln hk hn base ≤ limit m lk ln hk hn base := by
  have := cut_mono h
  unfold limit mx clamp; (repeat' split) <;> omega
theorem limit_cut (n lk ln hk hn base : Int) : cut (limit n lk ln hk hn base) = limit n lk ln hk hn base := by
  have l1 := cut_le n
  have l2 := cut_ge n
  have l3 := len_le hk hn base 1099511627776
  have l5 := len_le lk ln base (-1099511627776)
  refine cut_id (by have := limit_ge0 n lk ln hk hn base; omega) ?_
  unfold limit clamp
  rw [len_cut, len_cut]
  unfold mx; (repeat' split) <;> omega
theorem limit_again (n lk ln hk hn base : Int) : limit (limit n lk ln hk hn base) lk ln hk hn base = limit n lk ln hk hn base := by
  have h := limit_cut n lk ln hk hn base
  have l1 := cut_le n
  have l2 := cut_ge n
  have l3 := len_le hk hn base 1099511627776
  have l5 := len_le lk ln base (-1099511627776)
  have e : ∀ m, limit m lk ln hk hn base = mx (if (if len hk hn base 1099511627776 < cut m then len hk hn base 1099511627776 else cut m) < len lk ln base (-1099511627776) then len lk ln base (-1099511627776) else (if len hk hn base 1099511627776 < cut m then len hk hn base 1099511627776 else cut m)) 0 := by
    intro m; unfold limit clamp; rw [len_cut, len_cut]
  rw [e (limit n lk ln hk hn base), h, e n]
  unfold mx; (repeat' split) <;> omega
theorem limit_px {n low high base : Int} (h1 : -549755813888 ≤ low) (h2 : low ≤ 549755813888) (h3 : -549755813888 ≤ high) (h4 : high ≤ 549755813888) (h5 : -549755813888 ≤ n) (h6 : n ≤ 549755813888) :
    limit n 1 low 1 high base = mx (if (if high < n then high else n) < low then low else (if high < n then high else n)) 0 := by
  unfold limit clamp
  rw [len_px rfl, len_px rfl, cut_cut, cut_cut, cut_id (n := low) (by omega) (by omega), cut_id (n := high) (by omega) (by omega), cut_id (n := n) (by omega) (by omega)]
theorem limit_none {n base : Int} (h5 : -549755813888 ≤ n) (h6 : n ≤ 549755813888) : limit n 0 0 0 0 base = mx n 0 := by
  rw [limit_eq, show fixd 0 base = false from fixd_not.2 ⟨by omega, by omega⟩, cut_id (n := n) (by omega) (by omega)]; rfl
theorem valid_false {k n : Int} (h : valid k n = false) : k < 0 ∨ 2 < k ∨ n ≠ 0 := by
  by_cases hn : n = 0
  · subst hn
    unfold valid at h
    have e : cut 0 = 0 := by decide
    rw [e] at h
    by_cases h0 : k = 0
    · simp [h0] at h
    · by_cases h1 : k = 1
      · simp [h1] at h
      · by_cases h2 : k = 2
        · simp [h2] at h
        · omega
  · omega
theorem valid_true {k n base : Int} (h : valid k n = true) : (k = 0 ∧ len k n base 0 = 0) ∨ (k = 1 ∧ len k n base 0 = n) ∨ (k = 2 ∧ 0 ≤ len k n base 0) := by
  have e : cut 0 = 0 := by decide
  unfold valid at h
  by_cases h0 : k = 0
  · left; subst h0; exact ⟨rfl, by rw [len_not (fixd_not.2 ⟨by omega, by omega⟩), e]⟩
  · by_cases h1 : k = 1
    · right; left; subst h1
      simp at h
      exact ⟨rfl, by rw [len_px rfl]; exact h.symm⟩
    · by_cases h2 : k = 2
      · right; right; subst h2
        refine ⟨rfl, ?_⟩
        by_cases hb : 0 ≤ base
        · rw [len_per rfl hb]; exact part_ge0 hb
        · rw [len_not (fixd_not.2 ⟨by omega, by omega⟩), e]; omega
      · rw [if_neg h0, if_neg h1, if_neg h2] at h; cases h
theorem len_auto {k n base : Int} (h : fixd k base = false) : len k n base 0 = 0 := by rw [len_not h]; decide
theorem within_lo (n ln hk hn : Int) {lk base : Int} : (bif fixd lk base then mx (len lk ln base 0) 0 else 0) ≤ limit n lk ln hk hn base := by
  have h := limit_ge0 n lk ln hk hn base
  cases h1 : fixd lk base
  · simpa using h
  · have := limit_lo (n := n) (ln := ln) (hk := hk) (hn := hn) h1
    simp only [cond_true]; unfold mx; split <;> omega
theorem within_hi (n lk ln hn : Int) {hk base : Int} : bif fixd hk base then limit n lk ln hk hn base ≤ mx (len hk hn base 0) (bif fixd lk base then mx (len lk ln base 0) 0 else 0) else True := by
  cases h2 : fixd hk base
  · trivial
  · cases h1 : fixd lk base
    · exact limit_hi h2 h1
    · exact limit_hi2 h2 h1
def lv (k n v : Int) : Prop := if k = 0 then v = 0 else if k = 1 then v = n else 0 ≤ v
theorem lv_0 {n v : Int} : lv 0 n v = (v = 0) := rfl
theorem lv_1 {n v : Int} : lv 1 n v = (v = n) := rfl
theorem lv_2 {n v : Int} : lv 2 n v = (0 ≤ v) := rfl
end Fx
end Go.Proofs.Ytbmidmpooooheaa
