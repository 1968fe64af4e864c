/- Plain facts of the layer flex, as the document's own answer reckons: the places that are not frozen, as a list. -/
import Derived.Test.YtefofdjkinbfgaaFlexMath
namespace Go.Proofs.Ytefofdjkinbfgaa.Fe

/-- the places that are not frozen, in order -/
def ats (S : Nat → St) : Nat → List Nat
  | 0 => []
  | k + 1 => if (S k).f then ats S k else ats S k ++ [k]
theorem ats_length (S : Nat → St) (n : Nat) : (ats S n).length = pl S n := by
  induction n with
  | zero => rfl
  | succ n ih => simp only [ats, pl]; split <;> simp [ih]
theorem ats_get (S : Nat → St) {n k : Nat} (h : k < pl S n) : (ats S n).getD k 0 < n ∧ (S ((ats S n).getD k 0)).f = false ∧ pl S ((ats S n).getD k 0) = k := by
  induction n with
  | zero => simp [pl] at h
  | succ n ih =>
    simp only [ats, pl] at h ⊢
    split
    · rename_i hf
      rw [if_pos hf] at h
      obtain ⟨h1, h2⟩ := ih h
      exact ⟨by omega, h2⟩
    · rename_i hf
      rw [if_neg hf] at h
      rcases Nat.lt_or_ge k (pl S n) with h' | h'
      · obtain ⟨h1, h2⟩ := ih h'
        rw [List.getD_eq_getElem?_getD, List.getElem?_append_left (by rw [ats_length]; exact h'), ← List.getD_eq_getElem?_getD]
        exact ⟨by omega, h2⟩
      · obtain rfl : k = pl S n := by omega
        rw [List.getD_eq_getElem?_getD, List.getElem?_append_right (by rw [ats_length]; omega), ats_length]
        simp
        simpa using hf
/-- a place that is not frozen stands where it counts -/
theorem ats_at (S : Nat → St) {n i : Nat} (hi : i < n) (hf : (S i).f = false) : (ats S n).getD (pl S i) 0 = i := by
  induction n with
  | zero => omega
  | succ n ih =>
    simp only [ats]
    rcases Nat.lt_or_ge i n with h | h
    · have := pl_lt S h hf
      split
      · exact ih h
      · rw [List.getD_eq_getElem?_getD, List.getElem?_append_left (by rw [ats_length]; exact this), ← List.getD_eq_getElem?_getD]
        exact ih h
    · obtain rfl : i = n := by omega
      rw [if_neg (by simp [hf]), List.getD_eq_getElem?_getD, List.getElem?_append_right (by rw [ats_length]; omega), ats_length]
      simp

/-- the sum of what was made, over a list of places -/
def msum (T : Nat → St) (L : List Nat) : Int := L.foldl (fun s i => s + (T i).m) 0
theorem msum_snoc (T : Nat → St) (L : List Nat) (i : Nat) : msum T (L ++ [i]) = msum T L + (T i).m := by simp [msum]
theorem made_msum {S T : Nat → St} (h : ∀ i, (T i).f = (S i).f) (n : Nat) : made T n = msum T (ats S n) := by
  induction n with
  | zero => rfl
  | succ n ih =>
    simp only [made, ats, h]
    split
    · exact ih
    · rw [msum_snoc, ih]

theorem share_free {gr : Bool} {room : Int} {S : Nat → St} {n : Nat} (w : List Int) : share (sg gr * left room S n) w = share (free gr room S n) w := by
  have e : to (sg gr * left room S n) 67108864 = to (free gr room S n) 67108864 := by
    unfold free to
    (repeat' split) <;> omega
  unfold share part so
  rw [e]

/-- in the middle of a round: the first k that are not frozen are done -/
def midr (S R : Nat → St) (k : Nat) : Nat → St := fun i => if (S i).f = false ∧ pl S i < k then R i else S i
theorem midr_zero (S R : Nat → St) : midr S R 0 = S := by funext i; simp [midr]
theorem midr_all {S R : Nat → St} {n : Nat} (h : ∀ i, (S i).f = true → R i = S i) {i : Nat} (hi : i < n) : midr S R (pl S n) i = R i := by
  unfold midr
  cases hf : (S i).f with
  | true => simp [h i hf]
  | false => simp [pl_lt S hi hf]
theorem midr_at {S R : Nat → St} {n k : Nat} (h : k < pl S n) : midr S R (k + 1) ((ats S n).getD k 0) = R ((ats S n).getD k 0) := by
  obtain ⟨_, h2, h3⟩ := ats_get S h
  unfold midr
  rw [if_pos ⟨h2, by omega⟩]
theorem midr_off {S R : Nat → St} {n k i : Nat} (hi : i < n) (hne : i ≠ (ats S n).getD k 0) : midr S R (k + 1) i = midr S R k i := by
  unfold midr
  cases hf : (S i).f with
  | true => simp
  | false =>
    have : pl S i ≠ k := fun e => hne (by rw [← e]; exact (ats_at S hi hf).symm)
    by_cases hlt : pl S i < k
    · simp [hlt, show pl S i < k + 1 by omega]
    · simp [hlt, show ¬ pl S i < k + 1 by omega]

end Go.Proofs.Ytefofdjkinbfgaa.Fe
