/- Plain numbers of the layer span. No program in sight. -/
import Derived.Test.YtganeapoipiiaaaMath
namespace Go.Proofs.Ytganeapoipiiaaa
namespace Fx
def mn (a b : Int) : Int := if b < a then b else a
def mx (a b : Int) : Int := if a < b then b else a
def size (a b : Int) : Int := if 0 < sub b a then sub b a else 0
def has (a b n : Int) : Bool := decide (a ≤ n) && decide (n < b)
def ends (a b c d : Int) : Bool := decide (c ≤ a) && decide (b ≤ d)
def meetLo (a b c d : Int) : Int := if mn b d ≤ mx a c then 0 else mx a c
def meetHi (a b c d : Int) : Int := if mn b d ≤ mx a c then 0 else mn b d
def joinLo (a b c d : Int) : Int := if b ≤ a then (if d ≤ c then 0 else c) else if d ≤ c then a else mn a c
def joinHi (a b c d : Int) : Int := if b ≤ a then (if d ≤ c then 0 else d) else if d ≤ c then b else mx b d
def inn (a b c d : Int) : Bool := decide (b ≤ a) || ends a b c d
def fit (a b c d : Int) : Int := if ends a b c d then 0 else if a < c ∨ size c d < size a b then sub c a else sub d b

theorem ends_eq (a b c d : Int) : (decide (mn a c = c) && decide (mx b d = d)) = ends a b c d := by
  unfold ends mn mx
  rw [Bool.eq_iff_iff]
  simp
  constructor
  · rintro ⟨h1, h2⟩
    (repeat' split at h1) <;> (repeat' split at h2) <;> omega
  · rintro ⟨h1, h2⟩
    (repeat' split) <;> omega
theorem ends_true {a b c d : Int} (h : ends a b c d = true) : c ≤ a ∧ b ≤ d := by unfold ends at h; simpa using h
theorem ends_false {a b c d : Int} (h : ends a b c d = false) (h1 : c ≤ a) : d < b := by unfold ends at h; simp at h; omega
end Fx
end Go.Proofs.Ytganeapoipiiaaa
