/- Plain numbers of the layer flex: what counts, parts by weights, and sizes round by round (namespace Fe). -/
import Derived.Test.YtefofdjkinbfgaaMath
namespace Go.Proofs.Ytefofdjkinbfgaa.Fe

/-- from 0 up to a limit -/
def to (n m : Int) : Int := if m < n then m else if n < 0 then 0 else n
theorem to_ge {n m : Int} (h : 0 ≤ m) : 0 ≤ to n m := by unfold to; (repeat' split) <;> omega
theorem to_le {n m : Int} (h : 0 ≤ m) : to n m ≤ m := by unfold to; (repeat' split) <;> omega
theorem to_id {n m : Int} (h : 0 ≤ n) (h2 : n ≤ m) : to n m = n := by unfold to; (repeat' split) <;> omega
theorem to_to {n m : Int} (h : 0 ≤ m) : to (to n m) m = to n m := to_id (to_ge h) (to_le h)

def cw (n : Int) : Int := to n 1073741824
theorem cw_ge (n : Int) : 0 ≤ cw n := to_ge (by omega)
theorem cw_le (n : Int) : cw n ≤ 1073741824 := to_le (by omega)

/-- an item -/
structure It where
  b : Int
  lo : Int
  hi : Int
  g : Int
  s : Int

/-- as it counts -/
def cnt (x : It) : It := ⟨to x.b 1048576, to x.lo 1048576, to x.hi 1048576, to x.g 1000, to x.s 1000⟩
theorem cnt_cnt (x : It) : cnt (cnt x) = cnt x := by unfold cnt; simp [to_to]

/-- within -/
def inn (lo hi n : Int) : Int := if (if hi < n then hi else n) < lo then lo else (if hi < n then hi else n)
def clamp (x : It) (n : Int) : Int := inn (cnt x).lo (cnt x).hi n
theorem clamp_cnt (x : It) (n : Int) : clamp (cnt x) n = clamp x n := by unfold clamp; rw [cnt_cnt]

theorem cnt_bd (x : It) : 0 ≤ (cnt x).b ∧ (cnt x).b ≤ 1048576 ∧ 0 ≤ (cnt x).lo ∧ (cnt x).lo ≤ 1048576 ∧ 0 ≤ (cnt x).hi ∧ (cnt x).hi ≤ 1048576 ∧ 0 ≤ (cnt x).g ∧ (cnt x).g ≤ 1000 ∧ 0 ≤ (cnt x).s ∧ (cnt x).s ≤ 1000 := by
  unfold cnt
  exact ⟨to_ge (by omega), to_le (by omega), to_ge (by omega), to_le (by omega), to_ge (by omega), to_le (by omega), to_ge (by omega), to_le (by omega), to_ge (by omega), to_le (by omega)⟩

theorem inn_bd {lo hi n : Int} (h1 : 0 ≤ lo) (h2 : lo ≤ 1048576) (h3 : 0 ≤ hi) (h4 : hi ≤ 1048576) : 0 ≤ inn lo hi n ∧ inn lo hi n ≤ 1048576 := by
  unfold inn; (repeat' split) <;> omega

theorem clamp_bd (x : It) (n : Int) : 0 ≤ clamp x n ∧ clamp x n ≤ 1048576 := by
  obtain ⟨_, _, h1, h2, h3, h4, _⟩ := cnt_bd x
  exact inn_bd h1 h2 h3 h4

theorem inn_inn (lo hi n : Int) : inn lo hi (inn lo hi n) = inn lo hi n := by unfold inn; (repeat' split) <;> omega
theorem clamp_clamp (x : It) (n : Int) : clamp x (clamp x n) = clamp x n := inn_inn _ _ _

/-- what fix.Clamp makes of it -/
theorem fix_to {n m : Int} (h : 0 ≤ m) (h2 : m ≤ 1073741824) : Fx.clamp n 0 m = to n m := by
  unfold Fx.clamp Fx.cut to; (repeat' split) <;> omega
theorem fix_inn {n lo hi : Int} (h1 : 0 ≤ lo) (h2 : lo ≤ 1048576) (h3 : 0 ≤ hi) (h4 : hi ≤ 1048576) : Fx.clamp n lo hi = inn lo hi n := by
  unfold Fx.clamp Fx.cut inn; (repeat' split) <;> omega

/-- the first k weights together -/
def up (w : List Int) : Nat → Int
  | 0 => 0
  | k + 1 => up w k + cw (w.getD k 0)
theorem up_step (w : List Int) (k : Nat) : up w k ≤ up w (k + 1) := by have := cw_ge (w.getD k 0); simp only [up]; omega
theorem up_mono (w : List Int) {i j : Nat} (h : i ≤ j) : up w i ≤ up w j := by
  induction j with
  | zero => obtain rfl : i = 0 := by omega
            exact Int.le_refl _
  | succ j ih =>
    rcases Nat.lt_or_ge i (j + 1) with h' | h'
    · exact Int.le_trans (ih (by omega)) (up_step w j)
    · obtain rfl : i = j + 1 := by omega
      exact Int.le_refl _
theorem up_ge (w : List Int) (k : Nat) : 0 ≤ up w k := up_mono w (Nat.zero_le k)
theorem up_le (w : List Int) (k : Nat) : up w k ≤ 1073741824 * k := by
  induction k with
  | zero => simp [up]
  | succ k ih => have := cw_le (w.getD k 0); simp only [up]; omega

def all (w : List Int) : Int := up w w.length
/-- what the first k come to, of n -/
def so (n : Int) (w : List Int) (k : Nat) : Int := to n 67108864 * up w k / all w
/-- a part -/
def part (n : Int) (w : List Int) (k : Nat) : Int := so n w (k + 1) - so n w k
def share (n : Int) (w : List Int) : List Int := (List.range w.length).map (part n w)

theorem share_length (n : Int) (w : List Int) : (share n w).length = w.length := by simp [share]
theorem share_get (n : Int) (w : List Int) {k : Nat} (h : k < w.length) : (share n w).getD k 0 = part n w k := by simp [share, h]

theorem so_zero (n : Int) (w : List Int) : so n w 0 = 0 := by simp [so, up]
theorem prod_bd {a b c d : Int} (h1 : 0 ≤ a) (h2 : a ≤ c) (h3 : 0 ≤ b) (h4 : b ≤ d) : 0 ≤ a * b ∧ a * b ≤ c * d := Fx.mul_bd h1 h2 h3 h4
theorem so_mono (n : Int) (w : List Int) {i j : Nat} (h : i ≤ j) : so n w i ≤ so n w j := by
  unfold so
  rcases Int.lt_or_le 0 (all w) with h0 | h0
  · exact Int.ediv_le_ediv h0 (Int.mul_le_mul_of_nonneg_left (up_mono w h) (to_ge (by omega)))
  · have : all w = 0 := by have := up_ge w w.length; unfold all at *; omega
    rw [this]; simp
theorem so_ge (n : Int) (w : List Int) (k : Nat) : 0 ≤ so n w k := by rw [← so_zero n w]; exact so_mono n w (Nat.zero_le k)
theorem so_le (n : Int) (w : List Int) {k : Nat} (h : k ≤ w.length) : so n w k ≤ to n 67108864 := by
  unfold so
  rcases Int.lt_or_le 0 (all w) with h0 | h0
  · refine Int.le_trans (Int.ediv_le_ediv h0 (Int.mul_le_mul_of_nonneg_left (up_mono w h) (to_ge (by omega)))) ?_
    show to n 67108864 * all w / all w ≤ _
    rw [Int.mul_ediv_cancel _ (by omega)]; exact Int.le_refl _
  · have : all w = 0 := by have := up_ge w w.length; unfold all at *; omega
    rw [this]; simp; exact to_ge (by omega)
theorem part_bd (n : Int) (w : List Int) {k : Nat} (h : k < w.length) : 0 ≤ part n w k ∧ part n w k ≤ 67108864 := by
  have h1 := so_mono n w (show k ≤ k + 1 by omega)
  have h2 := so_le n w (k := k + 1) h
  have h3 := so_ge n w k
  have h4 : to n 67108864 ≤ 67108864 := to_le (by omega)
  unfold part; omega
theorem part_none {n : Int} {w : List Int} (h : all w = 0) (k : Nat) : part n w k = 0 := by simp [part, so, h]
/-- what the walk meets -/
theorem so_bd (n : Int) (w : List Int) {k : Nat} (h : k ≤ 64) : 0 ≤ to n 67108864 * up w k ∧ to n 67108864 * up w k ≤ 4611686018427387904 := by
  have h1 := up_ge w k
  have h2 := up_le w k
  have := prod_bd (to_ge (n := n) (m := 67108864) (by omega)) (to_le (by omega)) h1 (show up w k ≤ 68719476736 by omega)
  omega

/-- an item on the way -/
structure St where
  x : It
  z : Int
  m : Int
  f : Bool

def fac (gr : Bool) (x : It) : Int := if gr then x.g else x.s
def wt (gr : Bool) (x : It) : Int := if gr then x.g else x.s * x.b
def sg (gr : Bool) : Int := if gr then 1 else -1
def stay (gr : Bool) (c : It) (z : Int) : Bool := decide (fac gr c = 0) || decide (sg gr * z < sg gr * c.b)

/-- all at their clamped bases -/
def sumz (l : Nat → It) : Nat → Int
  | 0 => 0
  | k + 1 => sumz l k + clamp (l k) (cnt (l k)).b
def gro (l : Nat → It) (n : Nat) (room : Int) : Bool := decide (sumz l n < room)
def fresh (l : Nat → It) : Nat → St := fun i => ⟨cnt (l i), clamp (l i) (cnt (l i)).b, 0, false⟩
def begun (gr : Bool) (l : Nat → It) : Nat → St := fun i => ⟨cnt (l i), clamp (l i) (cnt (l i)).b, 0, stay gr (cnt (l i)) (clamp (l i) (cnt (l i)).b)⟩

/-- how many are not frozen among the first k -/
def pl (S : Nat → St) : Nat → Nat
  | 0 => 0
  | k + 1 => pl S k + if (S k).f then 0 else 1
/-- their weights -/
def ws (gr : Bool) (S : Nat → St) : Nat → List Int
  | 0 => []
  | k + 1 => if (S k).f then ws gr S k else ws gr S k ++ [wt gr (S k).x]
def left (room : Int) (S : Nat → St) : Nat → Int
  | 0 => room
  | k + 1 => if (S k).f then left room S k - (S k).z else left room S k - (S k).x.b
def free (gr : Bool) (room : Int) (S : Nat → St) (n : Nat) : Int := if sg gr * left room S n < 0 then 0 else sg gr * left room S n
def parts (gr : Bool) (room : Int) (S : Nat → St) (n : Nat) : List Int := share (free gr room S n) (ws gr S n)
def want (gr : Bool) (p : List Int) (S : Nat → St) (i : Nat) : Int := (S i).x.b + sg gr * p.getD (pl S i) 0
def sharedBy (gr : Bool) (p : List Int) (S : Nat → St) : Nat → St := fun i =>
  if (S i).f then S i else ⟨(S i).x, clamp (S i).x (want gr p S i), clamp (S i).x (want gr p S i) - want gr p S i, false⟩
def shared (gr : Bool) (room : Int) (n : Nat) (S : Nat → St) : Nat → St := sharedBy gr (parts gr room S n) S
def made (S : Nat → St) : Nat → Int
  | 0 => 0
  | k + 1 => if (S k).f then made S k else made S k + (S k).m
def frz (t m : Int) : Bool := decide (t = 0) || (decide (0 < t) && decide (0 < m)) || (decide (t < 0) && decide (m < 0))
def froze (n : Nat) (S : Nat → St) : Nat → St := fun i => if (S i).f then S i else ⟨(S i).x, (S i).z, (S i).m, frz (made S n) (S i).m⟩
def round (gr : Bool) (room : Int) (n : Nat) (S : Nat → St) : Nat → St := froze n (shared gr room n S)
def rounds (gr : Bool) (room : Int) (n : Nat) (S : Nat → St) : Nat → Nat → St
  | 0 => S
  | k + 1 => round gr room n (rounds gr room n S k)
/-- in the end -/
def fin (l : Nat → It) (n : Nat) (room : Int) : Nat → St := rounds (gro l n room) room n (begun (gro l n room) l) n

theorem pl_le (S : Nat → St) (k : Nat) : pl S k ≤ k := by
  induction k with
  | zero => simp [pl]
  | succ k ih => simp only [pl]; split <;> omega
theorem ws_length (gr : Bool) (S : Nat → St) (k : Nat) : (ws gr S k).length = pl S k := by
  induction k with
  | zero => rfl
  | succ k ih => simp only [ws, pl]; split <;> simp [ih]
theorem pl_mono (S : Nat → St) {i j : Nat} (h : i ≤ j) : pl S i ≤ pl S j := by
  induction j with
  | zero => obtain rfl : i = 0 := by omega
            exact Nat.le_refl _
  | succ j ih =>
    rcases Nat.lt_or_ge i (j + 1) with h' | h'
    · exact Nat.le_trans (ih (by omega)) (by simp only [pl]; omega)
    · obtain rfl : i = j + 1 := by omega
      exact Nat.le_refl _
theorem pl_lt (S : Nat → St) {i n : Nat} (h : i < n) (hf : (S i).f = false) : pl S i < pl S n := by
  have h1 : pl S (i + 1) = pl S i + 1 := by simp [pl, hf]
  have := pl_mono S (show i + 1 ≤ n by omega)
  omega
theorem pl_none {S : Nat → St} {n : Nat} (h : pl S n = 0) : ∀ i, i < n → (S i).f = true := by
  intro i hi
  cases hf : (S i).f with
  | true => rfl
  | false => have := pl_lt S hi hf; omega
theorem pl_all {S : Nat → St} {n : Nat} (h : ∀ i, i < n → (S i).f = true) : pl S n = 0 := by
  induction n with
  | zero => rfl
  | succ n ih => simp only [pl, h n (by omega), if_true]; rw [ih fun i hi => h i (by omega)]
theorem pl_same {S T : Nat → St} {n : Nat} (h : ∀ i, i < n → (S i).f = (T i).f) : pl S n = pl T n := by
  induction n with
  | zero => rfl
  | succ n ih => simp only [pl, h n (by omega)]; rw [ih fun i hi => h i (by omega)]
/-- frozen ones stay, and one more makes it less -/
theorem pl_less {S T : Nat → St} {n : Nat} (h : ∀ i, i < n → (S i).f = true → (T i).f = true) : pl T n ≤ pl S n := by
  induction n with
  | zero => exact Nat.le_refl _
  | succ n ih =>
    have := ih fun i hi => h i (by omega)
    have h2 := h n (by omega)
    simp only [pl]
    cases hs : (S n).f <;> cases ht : (T n).f <;> simp_all <;> omega
theorem pl_lesser {S T : Nat → St} {n i : Nat} (h : ∀ i, i < n → (S i).f = true → (T i).f = true) (hi : i < n) (h1 : (S i).f = false) (h2 : (T i).f = true) : pl T n < pl S n := by
  induction n with
  | zero => omega
  | succ n ih =>
    have hle := pl_less (n := n) fun i hi => h i (by omega)
    rcases Nat.lt_or_ge i n with h' | h'
    · have := ih (fun i hi => h i (by omega)) h'
      have h3 := h n (by omega)
      simp only [pl]
      cases hs : (S n).f <;> cases ht : (T n).f <;> simp_all <;> omega
    · obtain rfl : i = n := by omega
      simp only [pl, h1, h2, if_true]; simp; omega

theorem made_sign {S : Nat → St} {n : Nat} (h : ∀ i, i < n → (S i).f = false → (S i).m ≤ 0) : made S n ≤ 0 := by
  induction n with
  | zero => exact Int.le_refl _
  | succ n ih =>
    have h1 := ih fun i hi => h i (by omega)
    simp only [made]
    split
    · exact h1
    · have := h n (by omega) (by simp_all); omega
theorem made_sign' {S : Nat → St} {n : Nat} (h : ∀ i, i < n → (S i).f = false → 0 ≤ (S i).m) : 0 ≤ made S n := by
  induction n with
  | zero => exact Int.le_refl _
  | succ n ih =>
    have h1 := ih fun i hi => h i (by omega)
    simp only [made]
    split
    · exact h1
    · have := h n (by omega) (by simp_all); omega
/-- at least one is frozen -/
theorem froze_one {S : Nat → St} {n : Nat} (h : 0 < pl S n) : ∃ i, i < n ∧ (S i).f = false ∧ (froze n S i).f = true := by
  apply Classical.byContradiction
  intro hne
  have hall : ∀ i, i < n → (S i).f = false → frz (made S n) (S i).m = false := by
    intro i hi hf
    cases hz : frz (made S n) (S i).m with
    | false => rfl
    | true => exact absurd ⟨i, hi, hf, by simp [froze, hf, hz]⟩ hne
  rcases Int.lt_trichotomy (made S n) 0 with ht | ht | ht
  · have := made_sign' (S := S) (n := n) fun i hi hf => by
      have := hall i hi hf
      simp only [frz, Bool.or_eq_false_iff, Bool.and_eq_false_iff, decide_eq_false_iff_not] at this
      omega
    omega
  · have h0 : ∀ i, i < n → (S i).f = true := by
      intro i hi
      cases hf : (S i).f with
      | true => rfl
      | false => have := hall i hi hf; simp [frz, ht] at this
    have := pl_all h0
    omega
  · have := made_sign (S := S) (n := n) fun i hi hf => by
      have := hall i hi hf
      simp only [frz, Bool.or_eq_false_iff, Bool.and_eq_false_iff, decide_eq_false_iff_not] at this
      omega
    omega
theorem shared_f (gr : Bool) (p : List Int) (S : Nat → St) (i : Nat) : (sharedBy gr p S i).f = (S i).f := by
  unfold sharedBy; cases h : (S i).f <;> simp [h]
theorem round_less (gr : Bool) (room : Int) {n : Nat} {S : Nat → St} (h : 0 < pl S n) : pl (round gr room n S) n < pl S n := by
  have e : pl (shared gr room n S) n = pl S n := pl_same fun i _ => shared_f gr _ S i
  obtain ⟨i, hi, h1, h2⟩ := froze_one (S := shared gr room n S) (n := n) (by omega)
  have := pl_lesser (S := shared gr room n S) (T := round gr room n S) (fun j _ hj => by simp [round, froze, hj]) hi h1 h2
  omega
theorem round_still {gr : Bool} {room : Int} {n : Nat} {S : Nat → St} {i : Nat} (h : (S i).f = true) : round gr room n S i = S i := by
  have e : shared gr room n S i = S i := by simp [shared, sharedBy, h]
  simp [round, froze, e, h]
theorem rounds_still {gr : Bool} {room : Int} {n : Nat} {S : Nat → St} {k : Nat} {i : Nat} (h : (rounds gr room n S k i).f = true) : ∀ m, k ≤ m → rounds gr room n S m i = rounds gr room n S k i := by
  intro m hm
  induction m with
  | zero => obtain rfl : k = 0 := by omega
            rfl
  | succ m ih =>
    rcases Nat.lt_or_ge k (m + 1) with h' | h'
    · have := ih (by omega)
      show round gr room n (rounds gr room n S m) i = _
      rw [round_still (by rw [this]; exact h), this]
    · obtain rfl : k = m + 1 := by omega
      rfl

theorem left_bd {room : Int} {S : Nat → St} (hx : ∀ i, 0 ≤ (S i).x.b ∧ (S i).x.b ≤ 1048576) (hz : ∀ i, 0 ≤ (S i).z ∧ (S i).z ≤ 1048576) (k : Nat) : room - 1048576 * k ≤ left room S k ∧ left room S k ≤ room := by
  induction k with
  | zero => simp [left]
  | succ k ih =>
    obtain ⟨h1, h2⟩ := ih
    have := hx k
    have := hz k
    simp only [left]
    split <;> constructor <;> omega

end Go.Proofs.Ytefofdjkinbfgaa.Fe
