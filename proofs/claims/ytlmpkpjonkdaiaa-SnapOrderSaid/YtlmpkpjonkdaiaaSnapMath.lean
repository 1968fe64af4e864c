/- Plain numbers of the layer snap, and of its statements. -/
import Derived.Test.YtlmpkpjonkdaiaaMath
namespace Go.Proofs.Ytlmpkpjonkdaiaa.Sn
set_option linter.unusedVariables false

/-- an area: its span's ends, and its edge's number -/
structure Ar where
  lo : Int
  hi : Int
  e : Int

def snaps (e : Int) : Bool := decide (e = 1) || decide (e = 2) || decide (e = 3)
def at_ (lo hi e p : Int) : Int := if e = 1 then Fx.cut lo else if e = 2 then Fx.div (Fx.sum [lo, hi, -(max p 0)]) 2 else if e = 3 then Fx.sub hi (max p 0) else 0
def rat_ (lo hi e p : Int) : Int := if e = 1 then Fx.cut lo else if e = 3 then Fx.sub hi (Fx.cut (max p 0)) else if e = 2 then Fx.div (Fx.add (Fx.add lo hi) (-(Fx.cut (max p 0)))) 2 else 0

theorem at_one {lo hi p : Int} : at_ lo hi 1 p = Fx.cut lo := by unfold at_; rw [if_pos rfl]
theorem at_two {lo hi p : Int} : at_ lo hi 2 p = Fx.div (Fx.sum [lo, hi, -(max p 0)]) 2 := by unfold at_; rw [if_neg (by decide), if_pos rfl]
theorem at_three {lo hi p : Int} : at_ lo hi 3 p = Fx.sub hi (max p 0) := by unfold at_; rw [if_neg (by decide), if_neg (by decide), if_pos rfl]
theorem rat_one {lo hi p : Int} : rat_ lo hi 1 p = Fx.cut lo := by unfold rat_; rw [if_pos rfl]
theorem rat_two {lo hi p : Int} : rat_ lo hi 2 p = Fx.div (Fx.add (Fx.add lo hi) (-(Fx.cut (max p 0)))) 2 := by unfold rat_; rw [if_neg (by decide), if_neg (by decide), if_pos rfl]
theorem rat_three {lo hi p : Int} : rat_ lo hi 3 p = Fx.sub hi (Fx.cut (max p 0)) := by unfold rat_; rw [if_neg (by decide), if_pos rfl]
theorem snaps_no {e : Int} (h1 : e ≠ 1) (h2 : e ≠ 2) (h3 : e ≠ 3) : snaps e = false := by unfold snaps; simp [h1, h2, h3]

theorem sum_three (a b c : Int) : Fx.sum [a, b, c] = Fx.add (Fx.add a b) c := by
  show Fx.add (Fx.add (Fx.add 0 a) b) c = _
  have h0 : Fx.add 0 a = Fx.cut a := by unfold Fx.add; rw [show Fx.cut 0 = 0 from rfl, Int.zero_add, Fx.cut_cut]
  rw [h0]; unfold Fx.add; simp only [Fx.cut_cut]

theorem add_cutr (a b : Int) : Fx.add a (Fx.cut b) = Fx.add a b := by unfold Fx.add; rw [Fx.cut_cut]
theorem sub_cutr (a b : Int) : Fx.sub a (Fx.cut b) = Fx.sub a b := by unfold Fx.sub; rw [Fx.cut_cut]

theorem rat_eq (lo hi e p : Int) : rat_ lo hi e p = at_ lo hi e p := by
  unfold rat_ at_
  rw [sum_three, sub_cutr, ← Fx.cut_neg, add_cutr]
  (repeat' split) <;> first | rfl | omega

theorem at_le (lo hi e p : Int) : at_ lo hi e p ≤ 1099511627776 := by
  unfold at_
  (repeat' split)
  · exact Fx.cut_le _
  · rw [← Fx.div_cut]; exact Fx.cut_le _
  · exact Fx.cut_le _
  · omega
theorem at_ge (lo hi e p : Int) : -1099511627776 ≤ at_ lo hi e p := by
  unfold at_
  (repeat' split)
  · exact Fx.cut_ge _
  · rw [← Fx.div_cut]; exact Fx.cut_ge _
  · exact Fx.cut_ge _
  · omega

/-- whether it is a stop -/
def inn (a : Ar) (p m : Int) : Bool := snaps a.e && decide (0 ≤ at_ a.lo a.hi a.e p) && decide (at_ a.lo a.hi a.e p ≤ max m 0)

theorem le_cut (n m : Int) (h : n ≤ 1099511627776) : (n ≤ Fx.cut (max m 0)) ↔ n ≤ max m 0 := by
  unfold Fx.cut; (repeat' split) <;> omega

theorem inn_false {a : Ar} {p m : Int} (h : inn a p m = false) : snaps a.e = false ∨ at_ a.lo a.hi a.e p < 0 ∨ max m 0 < at_ a.lo a.hi a.e p := by
  unfold inn at h
  cases hs : snaps a.e
  · exact .inl rfl
  · simp only [hs, Bool.true_and, Bool.and_eq_false_iff, decide_eq_false_iff_not] at h
    omega
theorem inn_true {a : Ar} {p m : Int} (h : inn a p m = true) : snaps a.e = true ∧ 0 ≤ at_ a.lo a.hi a.e p ∧ at_ a.lo a.hi a.e p ≤ max m 0 := by
  unfold inn at h
  simp only [Bool.and_eq_true, decide_eq_true_eq] at h
  exact ⟨h.1.1, h.1.2, h.2⟩

/-- the stops of the first k areas -/
def stops (l : Nat → Ar) (p m : Int) : Nat → List Int
  | 0 => []
  | k + 1 => if inn (l k) p m = true then stops l p m k ++ [at_ (l k).lo (l k).hi (l k).e p] else stops l p m k

theorem stops_len (l : Nat → Ar) (p m : Int) (k : Nat) : (stops l p m k).length ≤ k := by
  induction k with
  | zero => simp [stops]
  | succ k ih => unfold stops; split <;> (try simp) <;> omega

theorem stops_yes {l : Nat → Ar} {p m : Int} {k : Nat} (h : inn (l k) p m = true) : stops l p m (k + 1) = stops l p m k ++ [at_ (l k).lo (l k).hi (l k).e p] := by
  rw [stops, if_pos h]
theorem stops_no {l : Nat → Ar} {p m : Int} {k : Nat} (h : inn (l k) p m = false) : stops l p m (k + 1) = stops l p m k := by
  rw [stops, if_neg (by simp [h])]

theorem stops_mem {l : Nat → Ar} {p m : Int} {k : Nat} {x : Int} (h : x ∈ stops l p m k) : 0 ≤ x ∧ x ≤ max m 0 ∧ x ≤ 1099511627776 := by
  induction k with
  | zero => simp [stops] at h
  | succ k ih =>
    unfold stops at h
    split at h
    · rename_i hi
      rcases List.mem_append.1 h with h | h
      · exact ih h
      · have := inn_true hi
        have := at_le (l k).lo (l k).hi (l k).e p
        simp at h; subst h; omega
    · exact ih h

/-- The stops of the first i are the first ones of all. -/
theorem stops_pre (l : Nat → Ar) (p m : Int) (i n : Nat) (h : i ≤ n) : ∃ r, stops l p m n = stops l p m i ++ r := by
  induction n with
  | zero => obtain rfl : i = 0 := by omega
            exact ⟨[], by simp⟩
  | succ n ih =>
    rcases Nat.lt_or_ge i (n + 1) with hlt | hge
    · obtain ⟨r, hr⟩ := ih (by omega)
      cases hi : inn (l n) p m
      · exact ⟨r, by rw [stops_no hi, hr]⟩
      · exact ⟨r ++ [at_ (l n).lo (l n).hi (l n).e p], by rw [stops_yes hi, hr, List.append_assoc]⟩
    · obtain rfl : i = n + 1 := by omega
      exact ⟨[], by simp⟩

theorem stops_at {l : Nat → Ar} {p m : Int} {i n : Nat} (h : i < n) (hi : inn (l i) p m = true) : (stops l p m i).length < (stops l p m n).length ∧ (stops l p m n).getD (stops l p m i).length 0 = at_ (l i).lo (l i).hi (l i).e p := by
  obtain ⟨r, hr⟩ := stops_pre l p m (i + 1) n (by omega)
  rw [hr, stops_yes hi]
  constructor
  · simp
  · simp [List.getD]

/-- how far from each other, to either side -/
def far (a b : Int) : Int := if Fx.sub a b < 0 then -(Fx.sub a b) else Fx.sub a b

theorem far_max (a b : Int) : max (Fx.sub a b) (-(Fx.sub a b)) = far a b := by unfold far; split <;> omega
theorem far_ge (a b : Int) : 0 ≤ far a b := by unfold far; split <;> omega
theorem far_le (a b : Int) : far a b ≤ 1099511627776 := by
  have h1 : Fx.sub a b ≤ 1099511627776 := Fx.cut_le _
  have h2 : -1099511627776 ≤ Fx.sub a b := Fx.cut_ge _
  unfold far; split <;> omega
theorem sub_le (a b : Int) : Fx.sub a b ≤ 1099511627776 := Fx.cut_le _
theorem sub_ge (a b : Int) : -1099511627776 ≤ Fx.sub a b := Fx.cut_ge _
/-- no beyond the limit it is just that -/
theorem far_plain {a b : Int} (h1 : -549755813888 ≤ a) (h2 : a ≤ 549755813888) (h3 : -549755813888 ≤ b) (h4 : b ≤ 549755813888) : far a b = max (a - b) (b - a) := by
  have e : Fx.sub a b = a - b := by unfold Fx.sub; rw [Fx.cut_id (n := a) (by omega) (by omega), Fx.cut_id (n := b) (by omega) (by omega), Fx.cut_id (by omega) (by omega)]
  unfold far; rw [e]; split <;> omega
theorem far_zero {a b : Int} (h1 : 0 ≤ a) (h2 : a ≤ 1099511627776) (h3 : 0 ≤ b) (h4 : b ≤ 1099511627776) : far a b = max (a - b) (b - a) := by
  have e : Fx.sub a b = a - b := by unfold Fx.sub; rw [Fx.cut_id (n := a) (by omega) (by omega), Fx.cut_id (n := b) (by omega) (by omega), Fx.cut_id (by omega) (by omega)]
  unfold far; rw [e]; split <;> omega

/-- the place of the nearest one of the first k: -1 of none -/
def best (s : List Int) (want : Int) : Nat → Int
  | 0 => -1
  | k + 1 => if best s want k < 0 ∨ far (s.getD k 0) want < far (s.getD (best s want k).toNat 0) want then (k : Int) else best s want k

theorem best_pos (s : List Int) (want : Int) (k : Nat) : 0 ≤ best s want (k + 1) ∧ best s want (k + 1) ≤ k := by
  induction k with
  | zero => rw [best, if_pos (.inl (by show (-1 : Int) < 0; decide))]; omega
  | succ k ih => rw [best]; split <;> omega
theorem best_ge (s : List Int) (want : Int) (k : Nat) : -1 ≤ best s want k := by
  cases k with
  | zero => exact Int.le_refl _
  | succ k => have := best_pos s want k; omega
theorem best_lt (s : List Int) (want : Int) (k : Nat) : best s want k < k ∨ k = 0 := by
  cases k with
  | zero => exact .inr rfl
  | succ k => have := best_pos s want k; omega
theorem best_lt2 (s : List Int) (want : Int) (k : Nat) : best s want k < k := by
  cases k with
  | zero => exact (show (-1 : Int) < 0 by decide)
  | succ k => have := best_pos s want k; omega
theorem best_none {s : List Int} {want : Int} {k : Nat} (h : best s want k < 0) : k = 0 := by
  cases k with
  | zero => rfl
  | succ k => have := best_pos s want k; omega
/-- it is a place -/
theorem best_some {s : List Int} {want : Int} {k : Nat} (h : ¬ best s want k < 0) : ∃ j : Nat, j < k ∧ best s want k = j := by
  cases k with
  | zero => exact absurd (show (-1 : Int) < 0 by decide) h
  | succ k => have := best_pos s want k; exact ⟨(best s want (k + 1)).toNat, by omega, by omega⟩

theorem best_first (s : List Int) (want : Int) : best s want 1 = 0 := by rw [best, if_pos (.inl (by show (-1 : Int) < 0; decide))]; rfl
theorem best_nearer {s : List Int} {want : Int} {k j : Nat} (hj : best s want k = j) (h : far (s.getD k 0) want < far (s.getD j 0) want) : best s want (k + 1) = k := by
  rw [best, if_pos (.inr (by rw [hj]; exact h))]
theorem best_not {s : List Int} {want : Int} {k j : Nat} (hj : best s want k = j) (h : ¬ far (s.getD k 0) want < far (s.getD j 0) want) : best s want (k + 1) = j := by
  rw [best, if_neg, hj]
  rw [hj]
  simp only [Int.toNat_natCast]
  intro h2
  rcases h2 with h2 | h2
  · omega
  · exact h h2

/-- None is nearer, and none as near ahead of it. -/
theorem best_near {s : List Int} {want : Int} {n j i : Nat} (hj : best s want n = j) (h : i < n) : far (s.getD j 0) want ≤ far (s.getD i 0) want ∧ (far (s.getD i 0) want = far (s.getD j 0) want → j ≤ i) := by
  induction n generalizing j with
  | zero => omega
  | succ n ih =>
    by_cases h0 : best s want n < 0
    · have := best_none h0
      subst this
      rw [best_first] at hj
      obtain rfl : j = 0 := by omega
      obtain rfl : i = 0 := by omega
      exact ⟨Int.le_refl _, fun _ => Nat.le_refl _⟩
    · obtain ⟨q, hq, hqe⟩ := best_some h0
      by_cases hlt : far (s.getD n 0) want < far (s.getD q 0) want
      · rw [best_nearer hqe hlt] at hj
        obtain rfl : j = n := by omega
        rcases Nat.lt_or_ge i j with hi | hi
        · have := ih hqe hi
          exact ⟨by omega, fun e => by omega⟩
        · obtain rfl : i = j := by omega
          exact ⟨Int.le_refl _, fun _ => Nat.le_refl _⟩
      · rw [best_not hqe hlt] at hj
        obtain rfl : j = q := by omega
        rcases Nat.lt_or_ge i n with hi | hi
        · exact ih hqe hi
        · obtain rfl : i = n := by omega
          exact ⟨by omega, fun _ => by omega⟩

/-- where it comes to rest, of these stops, by what is liked -/
def rest (kind : Int) (s : List Int) (liked : Int) : Int :=
  if best s liked s.length < 0 then liked
  else if kind = 1 ∨ (kind = 2 ∧ far (s.getD (best s liked s.length).toNat 0) liked ≤ 6400) then s.getD (best s liked s.length).toNat 0 else liked

def liked (want m : Int) : Int := Fx.clamp want 0 m

theorem rliked_eq (want m : Int) : Fx.clamp want 0 (max m 0) = liked want m := by
  unfold liked Fx.clamp
  simp only [show Fx.cut 0 = 0 from rfl]
  by_cases h : m ≤ 0
  · rw [Int.max_eq_right h, show Fx.cut 0 = 0 from rfl]
    have h1 : Fx.cut m ≤ 0 := by have := Fx.cut_mono h; exact this
    (repeat' split) <;> omega
  · rw [Int.max_eq_left (by omega)]

theorem liked_eq (want m : Int) : liked want m = min (min (max want 0) (max m 0)) 1099511627776 := by
  unfold liked Fx.clamp
  unfold Fx.cut
  (repeat' split) <;> omega

theorem rest_none {kind : Int} {liked : Int} : rest kind [] liked = liked := by unfold rest; rw [if_pos (by show (-1 : Int) < 0; decide)]

/-- what is there but stops: the nearest one -/
theorem rest_stop {kind : Int} {s : List Int} {liked : Int} {j : Nat} (hj : best s liked s.length = j) (hk : kind = 1 ∨ (kind = 2 ∧ far (s.getD j 0) liked ≤ 6400)) : rest kind s liked = s.getD j 0 := by
  unfold rest
  rw [if_neg (by omega), hj]
  simp only [Int.toNat_natCast]
  rw [if_pos hk]
theorem rest_liked {kind : Int} {s : List Int} {liked : Int} {j : Nat} (hj : best s liked s.length = j) (hk : ¬ (kind = 1 ∨ (kind = 2 ∧ far (s.getD j 0) liked ≤ 6400))) : rest kind s liked = liked := by
  unfold rest
  rw [if_neg (by omega), hj]
  simp only [Int.toNat_natCast]
  rw [if_neg hk]

theorem getD_mem {s : List Int} {j : Nat} (h : j < s.length) : s.getD j 0 ∈ s := by
  rw [List.getD_eq_getElem?_getD, List.getElem?_eq_getElem h]; simp

/-- either what is liked, or a stop -/
theorem rest_or (kind : Int) (s : List Int) (liked : Int) : rest kind s liked = liked ∨ ∃ j : Nat, j < s.length ∧ best s liked s.length = j ∧ rest kind s liked = s.getD j 0 := by
  by_cases h0 : best s liked s.length < 0
  · exact .inl (by unfold rest; rw [if_pos h0])
  · obtain ⟨j, hj, he⟩ := best_some h0
    by_cases hk : kind = 1 ∨ (kind = 2 ∧ far (s.getD j 0) liked ≤ 6400)
    · exact .inr ⟨j, hj, he, rest_stop he hk⟩
    · exact .inl (rest_liked he hk)

theorem rest_bd {kind : Int} {s : List Int} {want m : Int} (hs : ∀ x ∈ s, 0 ≤ x ∧ x ≤ max m 0 ∧ x ≤ 1099511627776) : 0 ≤ rest kind s (liked want m) ∧ rest kind s (liked want m) ≤ max m 0 ∧ rest kind s (liked want m) ≤ 1099511627776 := by
  rcases rest_or kind s (liked want m) with h | ⟨j, hj, _, h⟩
  · rw [h, liked_eq]; omega
  · rw [h]; exact hs _ (getD_mem hj)

/-- of two that are asked for in order, the stops come in order -/
theorem rest_mono {s : List Int} {a b : Int} (hab : a ≤ b) (ha : 0 ≤ a) (hb : b ≤ 1099511627776) (hs : ∀ x ∈ s, 0 ≤ x ∧ x ≤ 1099511627776) (h0 : 0 < s.length) : rest 1 s a ≤ rest 1 s b := by
  have na : ¬ best s a s.length < 0 := fun h => by have := best_none h; omega
  have nb : ¬ best s b s.length < 0 := fun h => by have := best_none h; omega
  obtain ⟨i, hi, ei⟩ := best_some na
  obtain ⟨j, hj, ej⟩ := best_some nb
  rw [rest_stop ei (.inl rfl), rest_stop ej (.inl rfl)]
  have h1 := (best_near ei hj).1
  have h2 := (best_near ej hi).1
  have xi := hs _ (getD_mem hi)
  have xj := hs _ (getD_mem hj)
  rw [far_zero xi.1 xi.2 (by omega) (by omega), far_zero xj.1 xj.2 (by omega) (by omega)] at h1
  rw [far_zero xi.1 xi.2 (by omega) (by omega), far_zero xj.1 xj.2 (by omega) (by omega)] at h2
  by_cases e : a = b
  · subst e; rw [ei] at ej; have : i = j := by omega
    subst this; exact Int.le_refl _
  · generalize s.getD i 0 = x at *
    generalize s.getD j 0 = y at *
    omega

end Go.Proofs.Ytlmpkpjonkdaiaa.Sn
