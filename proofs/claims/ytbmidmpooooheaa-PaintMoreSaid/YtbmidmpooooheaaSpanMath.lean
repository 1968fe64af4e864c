/- Plain numbers of the layer span. No program in sight. -/
import Derived.Test.YtbmidmpooooheaaMath
set_option maxRecDepth 100000
namespace Go.Proofs.Ytbmidmpooooheaa
namespace Fx
def mn (a b : Int) : Int := if b < a then b else a
def mx (a b : Int) : Int := if a < b then b else a
def size (a b : Int) : Int := if 0 < sub b a then sub b a else 0
def has (a b n : Int) : Bool := decide (a ≤ n) && decide (n < b)
def ends (a b c d : Int) : Bool := decide (c ≤ a) && decide (b ≤ d)
def meetLo (a b c d : Int) : Int := if mn b d ≤ mx a c then 0 else mx a c
def meetHi (a b c d : Int) : Int := if mn b d ≤ mx a c then 0 else mn b d
def joinLo (a b c d : Int) : Int := if b ≤ a then (if d ≤ c then 0 else c) else if d ≤ c then a else mn a c
def joinHi (a b c d : Int) : Int := if b ≤ a then (if d ≤ c then 0 else d) else if d ≤ c then b else mx b d
def inn (a b c d : Int) : Bool := decide (b ≤ a) || ends a b c d
def fit (a b c d : Int) : Int := if ends a b c d then 0 else if a < c ∨ size c d < size a b then sub c a else sub d b

theorem ends_eq (a b c d : Int) : (decide (mn a c = c) && decide (mx b d = d)) = ends a b c d := by
  unfold ends mn mx
  rw [Bool.eq_iff_iff]
  simp
  constructor
  · rintro ⟨h1, h2⟩
    (repeat' split at h1) <;> (repeat' split at h2) <;> omega
  · rintro ⟨h1, h2⟩
    (repeat' split) <;> omega
theorem ends_true {a b c d : Int} (h : ends a b c d = true) : c ≤ a ∧ b ≤ d := by unfold ends at h; simpa using h
theorem ends_false {a b c d : Int} (h : ends a b c d = false) (h1 : c ≤ a) : d < b := by unfold ends at h; simp at h; omega
theorem sub_plain {a b : Int} (h1 : -549755813888 ≤ a) (h2 : a ≤ 549755813888) (h3 : -549755813888 ≤ b) (h4 : b ≤ 549755813888) : sub a b = a - b := by unfold sub; rw [cut_id (n := a) (by omega) (by omega), cut_id (n := b) (by omega) (by omega), cut_id (by omega) (by omega)]
theorem add_plain {a b : Int} (h1 : -549755813888 ≤ a) (h2 : a ≤ 549755813888) (h3 : -549755813888 ≤ b) (h4 : b ≤ 549755813888) : add a b = a + b := by unfold add; rw [cut_id (n := a) (by omega) (by omega), cut_id (n := b) (by omega) (by omega), cut_id (by omega) (by omega)]
theorem mx_zero {a : Int} (h : 0 ≤ a) : mx a 0 = a := by unfold mx; rw [if_neg (by omega)]
theorem size_plain {a b : Int} (h1 : -549755813888 ≤ a) (h2 : a ≤ b) (h4 : b ≤ 549755813888) : size a b = b - a := by
  unfold size
  rw [sub_plain (by omega) h4 h1 (by omega)]
  split <;> omega
theorem clamp_plain {n a b : Int} (h1 : -549755813888 ≤ a) (h2 : a ≤ b) (h4 : b ≤ 549755813888) (h5 : -549755813888 ≤ n) (h6 : n ≤ 549755813888) : clamp n a b = if b < n then b else if n < a then a else n := by
  unfold clamp
  rw [cut_id (n := a) (by omega) (by omega), cut_id (n := b) (by omega) (by omega), cut_id (n := n) (by omega) (by omega)]
  (repeat' split) <;> omega
theorem ends_mk {a b c d : Int} (h1 : c ≤ a) (h2 : b ≤ d) : ends a b c d = true := by unfold ends; simp [h1, h2]
theorem ends_not {a b c d : Int} (h : a < c ∨ d < b) : ends a b c d = false := by unfold ends; simp; omega
/-- Fit within numbers that the limit leaves room for -/
theorem fit_plain {a b c d : Int} (h1 : -549755813888 ≤ a) (h2 : a ≤ b) (h3 : b ≤ 549755813888) (h4 : -549755813888 ≤ c) (h5 : c ≤ d) (h6 : d ≤ 549755813888) :
    fit a b c d = if c ≤ a ∧ b ≤ d then 0 else if a < c ∨ d - c < b - a then c - a else d - b := by
  unfold fit ends
  rw [size_plain h4 h5 h6, size_plain h1 h2 h3, sub_plain h4 (by omega) h1 (by omega), sub_plain (by omega) h6 (by omega) h3]
  simp
theorem inn_empty {a b c d : Int} (h : b ≤ a) : inn a b c d = true := by unfold inn; simp [h]
theorem inn_ends {a b c d : Int} (h1 : c ≤ a) (h2 : b ≤ d) : inn a b c d = true := by unfold inn; rw [ends_mk h1 h2]; simp
theorem inn_iff {a b c d : Int} : inn a b c d = true ↔ (b ≤ a ∨ (c ≤ a ∧ b ≤ d)) := by unfold inn ends; simp
theorem has_iff {a b n : Int} : has a b n = true ↔ (a ≤ n ∧ n < b) := by unfold has; simp
theorem meetLo_comm (a b c d : Int) : meetLo c d a b = meetLo a b c d := by unfold meetLo mn mx; (repeat' split) <;> omega
theorem meetHi_comm (a b c d : Int) : meetHi c d a b = meetHi a b c d := by unfold meetHi mn mx; (repeat' split) <;> omega
theorem joinLo_comm (a b c d : Int) : joinLo c d a b = joinLo a b c d := by unfold joinLo mn; (repeat' split) <;> omega
theorem joinHi_comm (a b c d : Int) : joinHi c d a b = joinHi a b c d := by unfold joinHi mx; (repeat' split) <;> omega
end Fx
end Go.Proofs.Ytbmidmpooooheaa
