/- More plain numbers of the layer snap: what the statements ask of Rest. -/
import Derived.Test.YtlmpkpjonkdaiaaSnapMath
namespace Go.Proofs.Ytlmpkpjonkdaiaa.Sn
set_option linter.unusedVariables false

theorem rest_zero {s : List Int} {k : Int} : rest 0 s k = k := by
  rcases rest_or 0 s k with h | ⟨j, hj, he, h⟩
  · exact h
  · exact rest_liked he (by rintro (h | ⟨h, _⟩) <;> exact absurd h (by decide))

/-- Proximity snaps where it is mandatory, if that is near, and else not at all. -/
theorem near_two {s : List Int} {k r : Int} {m : Int} (hs : ∀ x ∈ s, 0 ≤ x ∧ x ≤ max m 0 ∧ x ≤ 1099511627776) (h1 : 0 ≤ k) (h2 : k ≤ 1099511627776) (hr : rest 1 s k = r) :
    (6400 < max (r - k) (k - r) → rest 2 s k = k) ∧ (¬ 6400 < max (r - k) (k - r) → rest 2 s k = r) := by
  subst hr
  by_cases h0 : best s k s.length < 0
  · have e : ∀ kind, rest kind s k = k := fun kind => by unfold rest; rw [if_pos h0]
    rw [e, e]
    exact ⟨fun _ => rfl, fun _ => rfl⟩
  · obtain ⟨j, hj, he⟩ := best_some h0
    have hx := hs _ (getD_mem hj)
    have hf := far_zero hx.1 hx.2.2 h1 h2
    rw [rest_stop he (.inl rfl)]
    refine ⟨fun h => rest_liked he ?_, fun h => rest_stop he (.inr ⟨rfl, by omega⟩)⟩
    rintro (h' | ⟨_, h'⟩)
    · exact absurd h' (by decide)
    · omega

theorem liked_eq2 (want m : Int) : liked want m = min (max want 0) (min (max m 0) 1099511627776) := by rw [liked_eq, Int.min_assoc]

/-- If it must it rests at a stop. -/
theorem rest_in {s : List Int} {k : Int} (h : 0 < s.length) : rest 1 s k ∈ s := by
  by_cases h0 : best s k s.length < 0
  · have := best_none h0; omega
  · obtain ⟨j, hj, he⟩ := best_some h0
    rw [rest_stop he (.inl rfl)]; exact getD_mem hj

/-- Asked for where it rests, it stays there. -/
theorem rest_again {kind : Int} {s : List Int} {want m : Int} (hs : ∀ x ∈ s, 0 ≤ x ∧ x ≤ max m 0 ∧ x ≤ 1099511627776) : rest kind s (liked (rest kind s (liked want m)) m) = rest kind s (liked want m) := by
  obtain ⟨h1, h2, h3⟩ := rest_bd (kind := kind) (want := want) (m := m) hs
  have e : liked (rest kind s (liked want m)) m = rest kind s (liked want m) := by rw [liked_eq]; omega
  rw [e]
  rcases rest_or kind s (liked want m) with h | ⟨j, hj, he, h⟩
  · rw [h, h]
  · generalize rest kind s (liked want m) = r at *
    rcases rest_or kind s r with h' | ⟨i, hi, hie, h'⟩
    · exact h'
    · have hx := hs _ (getD_mem hi)
      have hn := (best_near hie hj).1
      rw [← h, far_zero hx.1 hx.2.2 h1 h3, far_zero h1 h3 h1 h3] at hn
      rw [h']
      omega

/-- whether it is among the first k -/
def has (s : List Int) (r : Int) (k : Nat) : Bool := decide (r ∈ s.take k)
theorem has_zero (s : List Int) (r : Int) : has s r 0 = false := by simp [has]
theorem take_next {s : List Int} {k : Nat} (h : k < s.length) : s.take (k + 1) = s.take k ++ [s.getD k 0] := by
  rw [List.take_succ_eq_append_getElem h]; simp [List.getElem?_eq_getElem h]
theorem has_yes {s : List Int} {r : Int} {k : Nat} (hk : k < s.length) (h : has s r k = true) : has s r (k + 1) = true := by
  unfold has at *; rw [take_next hk]; simp at h ⊢; exact .inl h
theorem has_new {s : List Int} {r : Int} {k : Nat} (hk : k < s.length) (h : s.getD k 0 = r) : has s r (k + 1) = true := by
  unfold has; rw [take_next hk, h]; simp
theorem has_not {s : List Int} {r : Int} {k : Nat} (hk : k < s.length) (h : has s r k = false) (h2 : s.getD k 0 ≠ r) : has s r (k + 1) = false := by
  unfold has at *; rw [take_next hk]
  rw [decide_eq_false_iff_not] at *
  intro h'
  rcases List.mem_append.1 h' with h' | h'
  · exact h h'
  · rw [List.mem_singleton] at h'; exact h2 h'.symm
theorem has_all {s : List Int} {r : Int} {q : Nat} (hq : s.length = q) : has s r q = decide (r ∈ s) := by
  unfold has; rw [List.take_of_length_le (by omega)]

/-- where it rests that is among no stops -/
theorem rest_out {kind : Int} {s : List Int} {k : Int} (h : rest kind s k ∉ s) : rest kind s k = k ∧ (kind = 1 → s.length = 0) := by
  constructor
  · rcases rest_or kind s k with h' | ⟨j, hj, _, h'⟩
    · exact h'
    · exact absurd (h' ▸ getD_mem hj) h
  · intro hk
    subst hk
    rcases Nat.eq_zero_or_pos s.length with h0 | h0
    · exact h0
    · exact absurd (rest_in h0) h

theorem stops_congr {l q : Nat → Ar} {p m : Int} {n : Nat} (h : ∀ k, k < n → l k = q k) : stops l p m n = stops q p m n := by
  induction n with
  | zero => rfl
  | succ n ih => simp only [stops]; rw [ih (fun k hk => h k (by omega)), h n (by omega)]

theorem getD_left {s t : List Int} {i : Nat} (h : i < s.length) : (s ++ t).getD i 0 = s.getD i 0 := by
  rw [List.getD_eq_getElem?_getD, List.getD_eq_getElem?_getD, List.getElem?_append_left h]

/-- A stop more lets it rest no further off. -/
theorem rest_more {s t : List Int} {w : Int} (h0 : 0 < s.length) : far (rest 1 (s ++ t) w) w ≤ far (rest 1 s w) w := by
  have na : ¬ best s w s.length < 0 := fun h => by have := best_none h; omega
  have nb : ¬ best (s ++ t) w (s ++ t).length < 0 := fun h => by have := best_none h; rw [List.length_append] at this; omega
  obtain ⟨i, hi, ei⟩ := best_some na
  obtain ⟨j, hj, ej⟩ := best_some nb
  rw [rest_stop ei (.inl rfl), rest_stop ej (.inl rfl)]
  have := (best_near ej (i := i) (by rw [List.length_append]; omega)).1
  rw [getD_left hi] at this
  exact this

/-- its edges, where nothing is cut -/
theorem edge_start {lo hi p : Int} (h1 : -1073741824 ≤ lo) (h2 : lo ≤ 1073741824) : at_ lo hi 1 p = lo := by
  rw [at_one]; exact Fx.cut_id (by omega) (by omega)
theorem edge_end {lo hi p : Int} (h1 : -1073741824 ≤ hi) (h2 : hi ≤ 1073741824) (h3 : 0 ≤ p) (h4 : p ≤ 1073741824) : at_ lo hi 3 p = hi - p := by
  rw [at_three, show max p 0 = p by omega]
  unfold Fx.sub
  rw [Fx.cut_id (n := hi) (by omega) (by omega), Fx.cut_id (n := p) (by omega) (by omega), Fx.cut_id (by omega) (by omega)]
theorem edge_mid {lo hi p : Int} (h1 : -1073741824 ≤ lo) (h2 : lo ≤ 1073741824) (h3 : -1073741824 ≤ hi) (h4 : hi ≤ 1073741824) (h5 : 0 ≤ p) (h6 : p ≤ 1073741824) : at_ lo hi 2 p = (lo + hi - p) / 2 := by
  rw [at_two, show max p 0 = p by omega, sum_three]
  have e1 : Fx.add lo hi = lo + hi := by
    unfold Fx.add
    rw [Fx.cut_id (n := lo) (by omega) (by omega), Fx.cut_id (n := hi) (by omega) (by omega), Fx.cut_id (by omega) (by omega)]
  have e2 : Fx.add (lo + hi) (-p) = lo + hi - p := by
    unfold Fx.add
    rw [Fx.cut_id (n := lo + hi) (by omega) (by omega), Fx.cut_id (n := -p) (by omega) (by omega), Fx.cut_id (by omega) (by omega)]
    omega
  rw [e1, e2]
  unfold Fx.div
  rw [if_neg (by decide), Fx.cut_id (by omega) (by omega)]
  rfl

end Go.Proofs.Ytlmpkpjonkdaiaa.Sn
