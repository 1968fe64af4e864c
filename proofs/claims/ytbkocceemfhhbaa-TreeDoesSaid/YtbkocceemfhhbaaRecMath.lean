/- Plain numbers of the layer record, and of its statements. No program in sight. -/
import Derived.Test.YtbkocceemfhhbaaLenMath
namespace Go.Proofs.Ytbkocceemfhhbaa.Re
set_option linter.unusedVariables false

/-- the places of what is true or false -/
def isB (i : Nat) : Bool := i == 45 || i == 47 || i == 51 || i == 52
/-- a style: what is a number at its place, and what is true or false at its -/
structure St where
  c : Nat → Int
  b : Nat → Bool
def num (s : St) (i : Nat) : Int := if isB i = true then (if s.b i = true then 1 else 0) else s.c i
def putL (s : St) : List Int := (List.range 55).map (num s)
def inn (n lo hi : Int) : Bool := decide (lo ≤ n) && decide (n ≤ hi)
/-- the places of lengths (their kinds) -/
def lens : List Nat := [3, 5, 7, 9, 11, 13, 41, 15, 23, 17, 25, 19, 27, 21, 29]
/-- the places of sizes -/
def sizes : List Nat := [46, 53, 54, 31, 35, 32, 36, 33, 37, 34, 38]
def kindsV (s : St) : Bool := inn (s.c 0) 0 3 && inn (s.c 1) 0 4 && inn (s.c 2) 0 2 && inn (s.c 43) 0 5 && inn (s.c 44) 0 3 && inn (s.c 49) 0 2 && inn (s.c 50) 0 3
def lensV (s : St) : Bool := lens.all fun i => Fx.valid (s.c i) (s.c (i + 1))
def sizesV (s : St) : Bool := sizes.all fun i => inn (s.c i) 0 1048576
def valid (s : St) : Bool := kindsV s && lensV s && sizesV s && inn (s.c 39) 0 1000 && inn (s.c 40) 0 1000 && inn (s.c 48) (-1048576) 1048576
def zero : St := ⟨fun _ => 0, fun _ => false⟩
def getS (l : List Int) : St := ⟨fun i => l.getD i 0, fun i => l.getD i 0 == 1⟩
def boolsOk (l : List Int) : Bool := inn (l.getD 45 0) 0 1 && inn (l.getD 47 0) 0 1 && inn (l.getD 51 0) 0 1 && inn (l.getD 52 0) 0 1
/-- the style that numbers are, and what is wrong -/
def got (l : List Int) : St × Int := if l.length < 55 then (zero, 10) else if 55 < l.length then (zero, 11) else if (valid (getS l) && boolsOk l) = true then (getS l, 0) else (zero, 11)
/-- the same, at each place -/
def same (s t : St) : Prop := ∀ i, i < 55 → (if isB i = true then s.b i = t.b i else s.c i = t.c i)
def sameB (s t : St) : Bool := (List.range 55).all fun i => if isB i then s.b i == t.b i else s.c i == t.c i

theorem sameB_iff {s t : St} : sameB s t = true ↔ same s t := by
  unfold sameB same
  rw [List.all_eq_true]
  constructor
  · intro h i hi
    have := h i (List.mem_range.2 hi)
    by_cases e : isB i = true
    · rw [if_pos e] at this ⊢; simpa using this
    · rw [if_neg e] at this ⊢; simpa using this
  · intro h i hi
    have := h i (List.mem_range.1 hi)
    by_cases e : isB i = true
    · rw [if_pos e] at this ⊢; simpa using this
    · rw [if_neg e] at this ⊢; simpa using this

theorem inn_iff {n lo hi : Int} : inn n lo hi = true ↔ lo ≤ n ∧ n ≤ hi := by unfold inn; simp

theorem putL_length (s : St) : (putL s).length = 55 := by simp [putL]
theorem putL_get (s : St) {i : Nat} (h : i < 55) : (putL s).getD i 0 = num s i := by
  unfold putL
  rw [List.getD_eq_getElem?_getD, List.getElem?_map, List.getElem?_range h]
  rfl

theorem num_b {s : St} {i : Nat} (h : isB i = true) : (num s i == 1) = s.b i := by
  unfold num
  rw [if_pos h]
  cases s.b i <;> rfl
theorem num_c {s : St} {i : Nat} (h : isB i = false) : num s i = s.c i := by unfold num; rw [if_neg (by simp [h])]

theorem get_put (s : St) : same (getS (putL s)) s := by
  intro i hi
  unfold getS
  by_cases h : isB i = true
  · rw [if_pos h]
    show ((putL s).getD i 0 == 1) = s.b i
    rw [putL_get s hi, num_b h]
  · rw [if_neg h]
    show (putL s).getD i 0 = s.c i
    rw [putL_get s hi, num_c (by simpa using h)]

theorem same.symm {s t : St} (h : same s t) : same t s := fun i hi => by
  have := h i hi
  by_cases e : isB i = true
  · rw [if_pos e] at this ⊢; exact this.symm
  · rw [if_neg e] at this ⊢; exact this.symm

theorem same.c {s t : St} (h : same s t) (i : Nat) (hi : i < 55) (hb : isB i = false) : s.c i = t.c i := by
  have := h i hi
  rwa [if_neg (by simp [hb])] at this
theorem same.b {s t : St} (h : same s t) (i : Nat) (hi : i < 55) (hb : isB i = true) : s.b i = t.b i := by
  have := h i hi
  rwa [if_pos hb] at this

theorem num_same {s t : St} (h : same s t) {i : Nat} (hi : i < 55) : num s i = num t i := by
  unfold num
  by_cases e : isB i = true
  · rw [if_pos e, if_pos e, h.b i hi e]
  · rw [if_neg e, if_neg e, h.c i hi (by simpa using e)]

theorem same_num {s t : St} (h : ∀ i, i < 55 → num s i = num t i) : same s t := by
  intro i hi
  have := h i hi
  unfold num at this
  by_cases e : isB i = true
  · rw [if_pos e]
    rw [if_pos e, if_pos e] at this
    cases h1 : s.b i <;> cases h2 : t.b i <;> simp [h1, h2] at this ⊢
  · rw [if_neg e]
    rwa [if_neg e, if_neg e] at this

/-- Each style has one row of numbers. -/
theorem putL_same {s t : St} : putL s = putL t ↔ same s t := by
  constructor
  · intro h
    refine same_num fun i hi => ?_
    rw [← putL_get s hi, ← putL_get t hi, h]
  · intro h
    unfold putL
    exact List.map_congr_left fun i hi => num_same h (List.mem_range.1 hi)

theorem valid_same {s t : St} (h : same s t) : valid s = valid t := by
  unfold valid kindsV lensV sizesV lens sizes
  simp only [List.all_cons, List.all_nil]
  rw [h.c 0 (by decide) rfl, h.c 1 (by decide) rfl, h.c 2 (by decide) rfl, h.c 3 (by decide) rfl, h.c 4 (by decide) rfl, h.c 5 (by decide) rfl, h.c 6 (by decide) rfl, h.c 7 (by decide) rfl, h.c 8 (by decide) rfl, h.c 9 (by decide) rfl,
    h.c 10 (by decide) rfl, h.c 11 (by decide) rfl, h.c 12 (by decide) rfl, h.c 13 (by decide) rfl, h.c 14 (by decide) rfl, h.c 15 (by decide) rfl, h.c 16 (by decide) rfl, h.c 17 (by decide) rfl, h.c 18 (by decide) rfl, h.c 19 (by decide) rfl,
    h.c 20 (by decide) rfl, h.c 21 (by decide) rfl, h.c 22 (by decide) rfl, h.c 23 (by decide) rfl, h.c 24 (by decide) rfl, h.c 25 (by decide) rfl, h.c 26 (by decide) rfl, h.c 27 (by decide) rfl, h.c 28 (by decide) rfl, h.c 29 (by decide) rfl,
    h.c 30 (by decide) rfl, h.c 31 (by decide) rfl, h.c 32 (by decide) rfl, h.c 33 (by decide) rfl, h.c 34 (by decide) rfl, h.c 35 (by decide) rfl, h.c 36 (by decide) rfl, h.c 37 (by decide) rfl, h.c 38 (by decide) rfl, h.c 39 (by decide) rfl,
    h.c 40 (by decide) rfl, h.c 41 (by decide) rfl, h.c 42 (by decide) rfl, h.c 43 (by decide) rfl, h.c 44 (by decide) rfl, h.c 46 (by decide) rfl, h.c 48 (by decide) rfl, h.c 49 (by decide) rfl, h.c 50 (by decide) rfl, h.c 53 (by decide) rfl, h.c 54 (by decide) rfl]

theorem boolsOk_put (s : St) : boolsOk (putL s) = true := by
  have h : ∀ i, i < 55 → isB i = true → inn ((putL s).getD i 0) 0 1 = true := fun i hi hb => by
    rw [putL_get s hi, inn_iff]
    unfold num
    rw [if_pos hb]
    split <;> omega
  unfold boolsOk
  rw [h 45 (by decide) rfl, h 47 (by decide) rfl, h 51 (by decide) rfl, h 52 (by decide) rfl]
  rfl

/-- What is put is got again, if it may be. -/
theorem got_put (s : St) : got (putL s) = if valid s = true then (getS (putL s), 0) else (zero, 11) := by
  unfold got
  rw [putL_length, if_neg (by decide), if_neg (by decide), boolsOk_put, valid_same (get_put s)]
  simp

theorem put_get {l : List Int} (hl : l.length = 55) (hb : boolsOk l = true) : putL (getS l) = l := by
  have e : ∀ i, i < 55 → num (getS l) i = l.getD i 0 := by
    intro i hi
    by_cases h : isB i = true
    · have hin : inn (l.getD i 0) 0 1 = true := by
        unfold boolsOk at hb
        simp only [Bool.and_eq_true] at hb
        have : i = 45 ∨ i = 47 ∨ i = 51 ∨ i = 52 := by simpa [isB, or_assoc] using h
        rcases this with rfl | rfl | rfl | rfl
        · exact hb.1.1.1
        · exact hb.1.1.2
        · exact hb.1.2
        · exact hb.2
      rw [inn_iff] at hin
      unfold num getS
      rw [if_pos h]
      show (if (l.getD i 0 == 1) = true then (1 : Int) else 0) = _
      by_cases g : l.getD i 0 = 1
      · rw [g]; rfl
      · rw [if_neg (by simpa using g)]; omega
    · rw [num_c (by simpa using h)]; rfl
  apply List.ext_getElem?
  intro i
  by_cases hi : i < 55
  · rw [List.getElem?_eq_getElem (by rw [putL_length]; exact hi), List.getElem?_eq_getElem (by rw [hl]; exact hi)]
    have := e i hi
    rw [← putL_get _ hi, List.getD_eq_getElem?_getD, List.getD_eq_getElem?_getD, List.getElem?_eq_getElem (by rw [putL_length]; exact hi), List.getElem?_eq_getElem (by rw [hl]; exact hi)] at this
    exact congrArg some this
  · rw [List.getElem?_eq_none (by rw [putL_length]; omega), List.getElem?_eq_none (by omega)]

/-- The cases of what is got. -/
theorem got_cases (l : List Int) : (got l = (zero, 10) ∧ l.length < 55) ∨ (got l = (zero, 11) ∧ 55 ≤ l.length) ∨ (got l = (getS l, 0) ∧ l.length = 55 ∧ valid (getS l) = true ∧ boolsOk l = true) := by
  unfold got
  by_cases h1 : l.length < 55
  · exact .inl ⟨by rw [if_pos h1], h1⟩
  · by_cases h2 : 55 < l.length
    · exact .inr (.inl ⟨by rw [if_neg h1, if_pos h2], by omega⟩)
    · rw [if_neg h1, if_neg h2]
      by_cases h3 : (valid (getS l) && boolsOk l) = true
      · rw [if_pos h3]
        simp only [Bool.and_eq_true] at h3
        exact .inr (.inr ⟨rfl, by omega, h3⟩)
      · rw [if_neg h3]
        exact .inr (.inl ⟨rfl, by omega⟩)

theorem len_limit {k n : Int} (h : Fx.valid k n = true) : -1099511627776 ≤ k ∧ k ≤ 1099511627776 ∧ -1099511627776 ≤ n ∧ n ≤ 1099511627776 := by
  unfold Fx.valid Fx.cut at h
  (repeat' split at h) <;> simp at h <;> omega

/-- A style that may be has nothing beyond its limits. -/
theorem limits {s : St} (h : valid s = true) {i : Nat} (hi : i < 55) : -1099511627776 ≤ num s i ∧ num s i ≤ 1099511627776 := by
  by_cases hb : isB i = true
  · unfold num
    rw [if_pos hb]
    split <;> omega
  rw [num_c (by simpa using hb)]
  unfold valid kindsV lensV sizesV at h
  simp only [Bool.and_eq_true, List.all_eq_true] at h
  obtain ⟨⟨⟨⟨⟨h1, h2⟩, h3⟩, h4⟩, h5⟩, h6⟩ := h
  obtain ⟨⟨⟨⟨⟨⟨k0, k1⟩, k2⟩, k3⟩, k4⟩, k5⟩, k6⟩ := h1
  simp only [inn_iff] at k0 k1 k2 k3 k4 k5 k6 h3 h4 h5 h6
  have L : ∀ j ∈ lens, (-1099511627776 ≤ s.c j ∧ s.c j ≤ 1099511627776) ∧ -1099511627776 ≤ s.c (j + 1) ∧ s.c (j + 1) ≤ 1099511627776 := fun j hj => by
    have := len_limit (h2 j hj)
    omega
  by_cases e : i ∈ lens
  · exact (L i e).1
  by_cases e2 : 1 ≤ i ∧ i - 1 ∈ lens
  · have := (L (i - 1) e2.2).2
    rwa [show i - 1 + 1 = i by omega] at this
  by_cases e3 : i ∈ sizes
  · have := h3 i e3; omega
  have : i = 0 ∨ i = 1 ∨ i = 2 ∨ i = 39 ∨ i = 40 ∨ i = 43 ∨ i = 44 ∨ i = 48 ∨ i = 49 ∨ i = 50 := by
    simp [lens, sizes, isB] at e e2 e3 hb
    omega
  rcases this with rfl | rfl | rfl | rfl | rfl | rfl | rfl | rfl | rfl | rfl <;> omega

/-- One field that is another one: the rest stay. -/
theorem put_other {s t : St} {i : Nat} (hi : i < 55) (h : if isB i = true then s.b i = t.b i else s.c i = t.c i) : (putL s).getD i 0 = (putL t).getD i 0 := by
  rw [putL_get s hi, putL_get t hi]
  unfold num
  by_cases e : isB i = true
  · rw [if_pos e] at h ⊢; rw [if_pos e, h]
  · rw [if_neg e] at h ⊢; rw [if_neg e, h]

end Go.Proofs.Ytbkocceemfhhbaa.Re
