/- Plain numbers of the layer justify: what is ahead of the k-th one, and where each begins. No program in sight. -/
import Derived.Test.YteopkakjnjfheaaLinMath
namespace Go.Proofs.Yteopkakjnjfheaa
namespace Ju
/-- so many parts, a step of them more for each one before it, of a whole -/
def pq (kind left n : Int) : Int × Int × Int :=
  if kind = 1 then (1, 0, 1)
  else if kind = 3 then (if 0 < left ∧ 1 < n then (0, 1, n - 1) else (0, 0, 1))
  else if kind = 4 then (if 0 < left then (1, 2, 2 * n) else (1, 0, 2))
  else if kind = 5 then (if 0 < left then (1, 1, n + 1) else (1, 0, 2))
  else if kind = 2 then (1, 0, 2) else (0, 0, 1)

/-- all that is ahead of the k-th one and of those before it -/
def fr (left p s q k : Int) : Int := Fx.div (Fx.mul left (p + s * k)) q
def F (kind left n k : Int) : Int := fr left (pq kind left n).1 (pq kind left n).2.1 (pq kind left n).2.2 k

theorem pq_bd (kind left n : Int) : 0 ≤ (pq kind left n).1 ∧ (pq kind left n).1 ≤ 1 ∧ 0 ≤ (pq kind left n).2.1 ∧ (pq kind left n).2.1 ≤ 2 := by
  unfold pq; (repeat' split) <;> simp

theorem div_le (a b : Int) : Fx.div a b ≤ 1099511627776 := by rw [← Fx.div_cut]; exact Fx.cut_le _
theorem div_ge (a b : Int) : -1099511627776 ≤ Fx.div a b := by rw [← Fx.div_cut]; exact Fx.cut_ge _
theorem div_zero (b : Int) : Fx.div 0 b = 0 := by
  unfold Fx.div; split <;> simp [show Fx.cut 0 = 0 from rfl]
theorem F_le (kind left n k : Int) : F kind left n k ≤ 1099511627776 := div_le _ _
theorem F_ge (kind left n k : Int) : -1099511627776 ≤ F kind left n k := div_ge _ _

/-- where the k-th one begins -/
def at_ (f : Int → Int) (l : List Int) (gap : Int) : Nat → Int
  | 0 => f 0
  | k + 1 => Fx.add (Fx.add (Fx.add (at_ f l gap k) (l.getD k 0)) gap) (Fx.sub (f ((k + 1 : Nat) : Int)) (f (k : Int)))

def row (f : Nat → Int) (n : Nat) : List Int := (List.range n).map f
theorem row_length (f : Nat → Int) (n : Nat) : (row f n).length = n := by simp [row]
theorem row_get (f : Nat → Int) {n k : Nat} (h : k < n) : (row f n).getD k 0 = f k := by simp [row, List.getD_eq_getElem?_getD, h]
theorem row_succ (f : Nat → Int) (k : Nat) : row f (k + 1) = row f k ++ [f k] := by simp [row, List.range_succ]

/-- LEFT -/
def left (room gap : Int) (l : List Int) : Int := Fx.sub room (Li.long gap l)
theorem left_cut (room gap : Int) (l : List Int) : Fx.cut (left room gap l) = left room gap l := Fx.cut_cut _
def starts (kind room gap : Int) (l : List Int) : Nat → Int := at_ (F kind (left room gap l) l.length) l gap
def flip (room : Int) (a l : List Int) : Nat → Int := fun k => Fx.sub room (Fx.add (a.getD k 0) (l.getD k 0))
def across (kind size room : Int) : Int := if kind = 2 then Fx.div (Fx.sub room size) 2 else if kind = 3 then Fx.sub room size else 0

/-- the document's words: what is ahead of the k-th one, besides the gap -/
def rah (kind left k n : Int) : Int := if k = 0 then F kind left n 0 else F kind left n k - F kind left n (k - 1)

theorem add_cut (a b : Int) : Fx.add a (Fx.cut b) = Fx.add a b := by unfold Fx.add; rw [Fx.cut_cut]
theorem cut_F (kind left n k : Int) : Fx.cut (F kind left n k) = F kind left n k := Fx.div_cut _ _
theorem sub_F (kind left n k j : Int) : Fx.sub (F kind left n k) (F kind left n j) = Fx.cut (F kind left n k - F kind left n j) := by unfold Fx.sub; rw [cut_F, cut_F]
theorem at_zero (f : Int → Int) (l : List Int) (gap : Int) : at_ f l gap 0 = f 0 := rfl
theorem at_succ (f : Int → Int) (l : List Int) (gap : Int) (k : Nat) : at_ f l gap (k + 1) = Fx.add (Fx.add (Fx.add (at_ f l gap k) (l.getD k 0)) gap) (Fx.sub (f ((k + 1 : Nat) : Int)) (f (k : Int))) := rfl

theorem F_same {kind left n : Int} (h : (pq kind left n).2.1 = 0) (k j : Int) : F kind left n k = F kind left n j := by
  unfold F fr; rw [h]; simp

theorem rah_zero (kind left n : Int) : rah kind left 0 n = F kind left n 0 := rfl
theorem rah_still {kind left n k : Int} (h : (pq kind left n).2.1 = 0) (hk : k ≠ 0) : rah kind left k n = 0 := by
  unfold rah; rw [if_neg hk, F_same h k (k - 1)]; omega

theorem F_end {left n : Int} (h : Fx.cut left = left) (k : Int) : F 1 left n k = left := by
  show Fx.div (Fx.mul left (1 + 0 * k)) 1 = left
  rw [Int.zero_mul, Int.add_zero, Fx.mul_one, h]
  show (if (1 : Int) ≤ 0 then (0 : Int) else Fx.cut left / Fx.cut 1) = left
  rw [if_neg (by omega), show Fx.cut 1 = 1 from rfl, Int.ediv_one, h]

theorem F_half {kind left n : Int} (h : Fx.cut left = left) (hp : pq kind left n = (1, 0, 2)) (k : Int) : F kind left n k = Fx.div left 2 := by
  unfold F; rw [hp]
  show Fx.div (Fx.mul left (1 + 0 * k)) 2 = _
  rw [Int.zero_mul, Int.add_zero, Fx.mul_one, h]

theorem F_none {kind left n : Int} (hp : pq kind left n = (0, 0, 1)) (k : Int) : F kind left n k = 0 := by
  unfold F; rw [hp]
  show Fx.div (Fx.mul left (0 + 0 * k)) 1 = 0
  rw [Int.zero_mul, Int.add_zero, Fx.mul_zero]; rfl

/-- the document's step is the program's -/
theorem rstep {kind room gap : Int} {l : List Int} (k : Nat) : Fx.add (Fx.add (Fx.add (starts kind room gap l k) (l.getD k 0)) gap) (rah kind (left room gap l) ((k + 1 : Nat) : Int) l.length) = starts kind room gap l (k + 1) := by
  unfold starts
  rw [at_succ, sub_F, add_cut]
  unfold rah
  rw [if_neg (by omega)]
  congr 2
  congr 2
  omega

theorem rfirst {kind room gap : Int} {l : List Int} : Fx.add 0 (rah kind (left room gap l) 0 l.length) = starts kind room gap l 0 := by
  show Fx.add 0 (F kind (left room gap l) l.length 0) = F kind (left room gap l) l.length 0
  unfold Fx.add
  rw [cut_F, show Fx.cut 0 = 0 from rfl, Int.zero_add, cut_F]
/-- how far the document's walk has come ahead of the k-th one -/
def rat (f : Nat → Int) (l : List Int) : Nat → Int
  | 0 => 0
  | k + 1 => Fx.add (f k) (l.getD k 0)
theorem rat_succ (f : Nat → Int) (l : List Int) (k : Nat) : rat f l (k + 1) = Fx.add (f k) (l.getD k 0) := rfl
end Ju
end Go.Proofs.Yteopkakjnjfheaa
