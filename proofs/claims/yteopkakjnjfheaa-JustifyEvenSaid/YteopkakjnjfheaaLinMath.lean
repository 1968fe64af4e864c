/- Plain numbers of the layer lines: how long a line is, how many go on it, and all lines. No program in sight. -/
import Derived.Test.YteopkakjnjfheaaMath
namespace Go.Proofs.Yteopkakjnjfheaa
namespace Li
/-- one more, and the gap ahead of it -/
def next (gap s x : Int) : Int := Fx.add (Fx.add s gap) x

def long (gap : Int) : List Int → Int
  | [] => 0
  | x :: l => l.foldl (next gap) (Fx.cut x)

theorem long_nil (gap : Int) : long gap [] = 0 := rfl

theorem long_one (gap x : Int) : long gap [x] = Fx.cut x := rfl

theorem long_snoc (gap : Int) (l : List Int) (x : Int) (h : l ≠ []) : long gap (l ++ [x]) = next gap (long gap l) x := by
  cases l with
  | nil => exact absurd rfl h
  | cons y l => simp [long]

theorem take_snoc (l : List Int) {k : Nat} (h : k < l.length) : l.take (k + 1) = l.take k ++ [l.getD k 0] := by
  rw [List.take_succ_eq_append_getElem h]; simp [List.getElem?_eq_getElem h]

theorem take_ne (l : List Int) {k : Nat} (h0 : 0 < k) (h : 0 < l.length) : l.take k ≠ [] := by
  intro e
  have h1 : (l.take k).length = 0 := by rw [e]; rfl
  rw [List.length_take] at h1
  omega

theorem long_take (gap : Int) (l : List Int) {k : Nat} (h0 : 0 < k) (h : k < l.length) : long gap (l.take (k + 1)) = next gap (long gap (l.take k)) (l.getD k 0) := by
  rw [take_snoc l h, long_snoc _ _ _ (take_ne l h0 (by omega))]

theorem long_take_one (gap : Int) (l : List Int) (h : 0 < l.length) : long gap (l.take 1) = Fx.cut (l.getD 0 0) := by
  rw [take_snoc l h]; rfl

/-- behind n of them one more goes on the line -/
def goes (room gap : Int) (wrap : Bool) (l : List Int) (n : Nat) : Bool := decide (n < l.length) && (decide (n < 64) && (!wrap || decide (long gap (l.take (n + 1)) ≤ room)))

theorem goes_iff {room gap : Int} {wrap : Bool} {l : List Int} {n : Nat} : goes room gap wrap l n = true ↔ n < l.length ∧ n < 64 ∧ (wrap = true → long gap (l.take (n + 1)) ≤ room) := by
  unfold goes
  cases wrap <;> simp

def cntF (room gap : Int) (wrap : Bool) (l : List Int) : Nat → Nat → Nat
  | 0, n => n
  | f + 1, n => if goes room gap wrap l n then cntF room gap wrap l f (n + 1) else n

/-- how many go on the first line -/
def cnt (room gap : Int) (wrap : Bool) (l : List Int) : Nat := cntF room gap wrap l 64 1

structure IsCnt (room gap : Int) (wrap : Bool) (l : List Int) (n : Nat) : Prop where
  one : 1 ≤ n
  all : ∀ k, 1 ≤ k → k < n → goes room gap wrap l k = true
  end_ : goes room gap wrap l n = false

theorem cntF_is (room gap : Int) (wrap : Bool) (l : List Int) : ∀ f n, 64 ≤ f + n → 1 ≤ n → (∀ k, 1 ≤ k → k < n → goes room gap wrap l k = true) → IsCnt room gap wrap l (cntF room gap wrap l f n)
  | 0, n, hf, h1, ha => ⟨h1, ha, by
    show goes room gap wrap l n = false
    cases h : goes room gap wrap l n with
    | false => rfl
    | true => have := goes_iff.1 h; omega⟩
  | f + 1, n, hf, h1, ha => by
    unfold cntF
    split
    · rename_i h
      refine cntF_is room gap wrap l f (n + 1) (by omega) (by omega) fun k k1 k2 => ?_
      rcases Nat.lt_or_ge k n with k3 | k3
      · exact ha k k1 k3
      · obtain rfl : k = n := by omega
        exact h
    · rename_i h
      exact ⟨h1, ha, by simpa using h⟩

theorem cnt_is (room gap : Int) (wrap : Bool) (l : List Int) : IsCnt room gap wrap l (cnt room gap wrap l) := cntF_is room gap wrap l 64 1 (by omega) (Nat.le_refl _) fun k h1 h2 => by omega

theorem IsCnt.unique {room gap : Int} {wrap : Bool} {l : List Int} {n m : Nat} (h : IsCnt room gap wrap l n) (k : IsCnt room gap wrap l m) : n = m := by
  rcases Nat.lt_trichotomy n m with h1 | h1 | h1
  · have := k.all n h.one h1; rw [h.end_] at this; cases this
  · exact h1
  · have := h.all m k.one h1; rw [k.end_] at this; cases this

theorem IsCnt.eq {room gap : Int} {wrap : Bool} {l : List Int} {n : Nat} (h : IsCnt room gap wrap l n) : cnt room gap wrap l = n := (cnt_is room gap wrap l).unique h

theorem IsCnt.le {room gap : Int} {wrap : Bool} {l : List Int} {n : Nat} (h : IsCnt room gap wrap l n) (h0 : 0 < l.length) : n ≤ l.length ∧ n ≤ 64 := by
  rcases Nat.lt_or_ge 1 n with h1 | h1
  · have := goes_iff.1 (h.all (n - 1) (by omega) (by omega)); omega
  · omega

theorem cnt_le (room gap : Int) (wrap : Bool) (l : List Int) (h0 : 0 < l.length) : cnt room gap wrap l ≤ l.length := ((cnt_is room gap wrap l).le h0).1

theorem cnt_pos (room gap : Int) (wrap : Bool) (l : List Int) : 1 ≤ cnt room gap wrap l := (cnt_is room gap wrap l).one

def brkF (room gap : Int) (wrap : Bool) (l : List Int) : Nat → Nat → List (Nat × Nat)
  | 0, _ => []
  | f + 1, at_ => if at_ < l.length then (at_, at_ + cnt room gap wrap (l.drop at_)) :: brkF room gap wrap l f (at_ + cnt room gap wrap (l.drop at_)) else []

/-- all lines from place at_ on -/
def tail (room gap : Int) (wrap : Bool) (l : List Int) (at_ : Nat) : List (Nat × Nat) := brkF room gap wrap l (l.length - at_) at_

/-- all lines -/
def brk (room gap : Int) (wrap : Bool) (l : List Int) : List (Nat × Nat) := tail room gap wrap l 0

theorem brkF_more (room gap : Int) (wrap : Bool) (l : List Int) : ∀ f g at_, l.length ≤ f + at_ → l.length ≤ g + at_ → brkF room gap wrap l f at_ = brkF room gap wrap l g at_
  | 0, 0, _, _, _ => rfl
  | 0, g + 1, at_, h, _ => by unfold brkF; rw [if_neg (by omega)]
  | f + 1, 0, at_, _, h => by unfold brkF; rw [if_neg (by omega)]
  | f + 1, g + 1, at_, hf, hg => by
    unfold brkF
    split
    · rename_i h
      have := cnt_pos room gap wrap (l.drop at_)
      rw [brkF_more room gap wrap l f g _ (by omega) (by omega)]
    · rfl

theorem tail_end (room gap : Int) (wrap : Bool) (l : List Int) {at_ : Nat} (h : l.length ≤ at_) : tail room gap wrap l at_ = [] := by
  unfold tail
  rw [show l.length - at_ = 0 by omega]
  rfl

/-- where the line that begins at place at_ ends -/
def stop (room gap : Int) (wrap : Bool) (l : List Int) (at_ : Nat) : Nat := at_ + cnt room gap wrap (l.drop at_)

theorem stop_gt (room gap : Int) (wrap : Bool) (l : List Int) (at_ : Nat) : at_ < stop room gap wrap l at_ := by
  have := cnt_pos room gap wrap (l.drop at_)
  unfold stop; omega

theorem stop_le (room gap : Int) (wrap : Bool) (l : List Int) {at_ : Nat} (h : at_ < l.length) : stop room gap wrap l at_ ≤ l.length := by
  have := cnt_le room gap wrap (l.drop at_) (by rw [List.length_drop]; omega)
  rw [List.length_drop] at this
  unfold stop; omega

theorem tail_step (room gap : Int) (wrap : Bool) (l : List Int) {at_ : Nat} (h : at_ < l.length) : tail room gap wrap l at_ = (at_, stop room gap wrap l at_) :: tail room gap wrap l (stop room gap wrap l at_) := by
  have h1 := stop_gt room gap wrap l at_
  unfold tail
  obtain ⟨f, hf⟩ : ∃ f, l.length - at_ = f + 1 := ⟨l.length - at_ - 1, by omega⟩
  rw [hf]
  conv => lhs; unfold brkF
  rw [if_pos h]
  show (at_, stop room gap wrap l at_) :: brkF room gap wrap l f (stop room gap wrap l at_) = _
  rw [brkF_more room gap wrap l f (l.length - stop room gap wrap l at_) _ (by omega) (by omega)]

theorem tail_length (room gap : Int) (wrap : Bool) (l : List Int) (at_ : Nat) : (tail room gap wrap l at_).length ≤ l.length - at_ := by
  obtain ⟨d, hd⟩ : ∃ d, l.length - at_ ≤ d := ⟨_, Nat.le_refl _⟩
  induction d generalizing at_ with
  | zero => rw [tail_end _ _ _ _ (by omega)]; simp
  | succ d ih =>
    rcases Nat.lt_or_ge at_ l.length with h | h
    · have h1 := stop_gt room gap wrap l at_
      rw [tail_step _ _ _ _ h]
      have := ih (stop room gap wrap l at_) (by omega)
      simp only [List.length_cons]
      omega
    · rw [tail_end _ _ _ _ h]; simp

theorem brk_length (room gap : Int) (wrap : Bool) (l : List Int) : (brk room gap wrap l).length ≤ l.length := tail_length room gap wrap l 0

/-- the cells of a row of lines -/
def flat (l : List (Nat × Nat)) : List Int := l.flatMap fun x => [(x.1 : Int), (x.2 : Int)]

theorem flat_snoc (l : List (Nat × Nat)) (x : Nat × Nat) : flat (l ++ [x]) = flat l ++ [(x.1 : Int), (x.2 : Int)] := by simp [flat]

theorem flat_length (l : List (Nat × Nat)) : (flat l).length = l.length * 2 := by
  induction l with
  | nil => rfl
  | cons x l ih =>
    have e : flat (x :: l) = (x.1 : Int) :: (x.2 : Int) :: flat l := rfl
    rw [e]
    simp only [List.length_cons]
    omega

theorem flat_get (l : List (Nat × Nat)) {k : Nat} (h : k < l.length) : (flat l)[k * 2]? = some ((l[k]).1 : Int) ∧ (flat l)[k * 2 + 1]? = some ((l[k]).2 : Int) := by
  induction l generalizing k with
  | nil => simp at h
  | cons x l ih =>
    have e : flat (x :: l) = (x.1 : Int) :: (x.2 : Int) :: flat l := rfl
    cases k with
    | zero => rw [e]; simp
    | succ k =>
      have := ih (k := k) (by simpa using h)
      rw [e, show (k + 1) * 2 = k * 2 + 1 + 1 by omega]
      simpa using this

end Li
end Go.Proofs.Yteopkakjnjfheaa
