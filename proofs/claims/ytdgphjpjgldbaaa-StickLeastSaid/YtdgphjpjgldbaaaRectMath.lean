/- Plain numbers of the layer rect. No program in sight. -/
import Derived.Test.YtdgphjpjgldbaaaSpanMath
namespace Go.Proofs.Ytdgphjpjgldbaaa
namespace Fx
def emp (w h : Int) : Bool := decide (w ≤ 0) || decide (h ≤ 0)
/-- one way: from where, and to where, a rectangle is -/
def hi (x w : Int) : Int := add x (mx w 0)
def mLo (x w y v : Int) : Int := meetLo (cut x) (hi x w) (cut y) (hi y v)
def mHi (x w y v : Int) : Int := meetHi (cut x) (hi x w) (cut y) (hi y v)
def mSz (x w y v : Int) : Int := size (mLo x w y v) (mHi x w y v)
def jLo (x w y v : Int) : Int := joinLo (cut x) (hi x w) (cut y) (hi y v)
def jHi (x w y v : Int) : Int := joinHi (cut x) (hi x w) (cut y) (hi y v)
def jSz (x w y v : Int) : Int := size (jLo x w y v) (jHi x w y v)
def zif (c : Bool) (n : Int) : Int := bif c then 0 else n
/-- Meet: one part, v, or 0, where nothing is in both -/
def mOf (x y w h x' y' w' h' v : Int) : Int := zif (emp (mSz x w x' w') (mSz y h y' h')) v
/-- Join: one part; of a, of b, of both -/
def jOf (w h w' h' va vb vj : Int) : Int := bif emp w h then (bif emp w' h' then 0 else vb) else (bif emp w' h' then va else vj)
def hasR (x y w h p q : Int) : Bool := has (cut x) (hi x w) p && has (cut y) (hi y h) q
def innR (x y w h x' y' w' h' : Int) : Bool := emp w h || (inn (cut x) (hi x w) (cut x') (hi x' w') && inn (cut y) (hi y h) (cut y') (hi y' h'))
def less (n s : Int) : Int := mx (sub n s) 0
def small (x y w h : Int) : Bool := decide (-1073741824 ≤ x) && decide (x ≤ 1073741824) && decide (-1073741824 ≤ y) && decide (y ≤ 1073741824) && decide (0 ≤ w) && decide (w ≤ 1073741824) && decide (0 ≤ h) && decide (h ≤ 1073741824)
theorem small_iff {x y w h : Int} : small x y w h = true ↔ (-1073741824 ≤ x ∧ x ≤ 1073741824) ∧ (-1073741824 ≤ y ∧ y ≤ 1073741824) ∧ (0 ≤ w ∧ w ≤ 1073741824) ∧ (0 ≤ h ∧ h ≤ 1073741824) := by unfold small; simp; omega
theorem hi_plain {x w : Int} (h1 : -549755813888 ≤ x) (h2 : x ≤ 274877906944) (h3 : 0 ≤ w) (h4 : w ≤ 274877906944) : hi x w = x + w := by
  unfold hi
  rw [mx_zero h3, add_plain h1 (by omega) (by omega) (by omega)]
theorem mx_nonneg (a : Int) : 0 ≤ mx a 0 := by unfold mx; split <;> omega
theorem less_nonneg (n s : Int) : 0 ≤ less n s := mx_nonneg _
theorem emp_false {w h : Int} (h1 : 0 < w) (h2 : 0 < h) : emp w h = false := by unfold emp; simp; omega
theorem emp_true {w h : Int} (h1 : w ≤ 0 ∨ h ≤ 0) : emp w h = true := by unfold emp; simp; omega
theorem emp_mx (w h : Int) : emp (mx (cut w) 0) (mx (cut h) 0) = emp w h := by
  unfold emp mx cut
  rw [Bool.eq_iff_iff]; simp
  (repeat' split) <;> omega
theorem cut_plain {n : Int} (h1 : -549755813888 ≤ n) (h2 : n ≤ 549755813888) : cut n = n := cut_id (by omega) (by omega)
theorem hasR_plain {x y w h p q : Int} (x1 : -274877906944 ≤ x) (x2 : x ≤ 274877906944) (y1 : -274877906944 ≤ y) (y2 : y ≤ 274877906944) (w1 : 0 ≤ w) (w2 : w ≤ 274877906944) (h1 : 0 ≤ h) (h2 : h ≤ 274877906944) :
    hasR x y w h p q = decide (x ≤ p ∧ p < x + w ∧ y ≤ q ∧ q < y + h) := by
  unfold hasR
  rw [cut_plain (n := x) (by omega) (by omega), cut_plain (n := y) (by omega) (by omega), hi_plain (by omega) (by omega) w1 w2, hi_plain (by omega) (by omega) h1 h2]
  rw [Bool.eq_iff_iff, Bool.and_eq_true, has_iff, has_iff, decide_eq_true_iff]
  omega
end Fx
end Go.Proofs.Ytdgphjpjgldbaaa
