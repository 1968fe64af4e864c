/- More plain numbers of the layer span: meeting and joining of three; what stands to what. -/
import Derived.Test.YtganeapoipiiaaaSpanMath
namespace Go.Proofs.Ytganeapoipiiaaa
namespace Fx
theorem meet_spec (a b c d : Int) : (mx a c < mn b d ∧ meetLo a b c d = mx a c ∧ meetHi a b c d = mn b d) ∨ (mn b d ≤ mx a c ∧ meetLo a b c d = 0 ∧ meetHi a b c d = 0) := by
  unfold meetLo meetHi
  by_cases h : mn b d ≤ mx a c
  · rw [if_pos h, if_pos h]; exact .inr ⟨h, rfl, rfl⟩
  · rw [if_neg h, if_neg h]; exact .inl ⟨by omega, rfl, rfl⟩
theorem mx_spec (a b : Int) : (a < b ∧ mx a b = b) ∨ (b ≤ a ∧ mx a b = a) := by unfold mx; split <;> omega
theorem mn_spec (a b : Int) : (b < a ∧ mn a b = b) ∨ (a ≤ b ∧ mn a b = a) := by unfold mn; split <;> omega
theorem join_spec (a b c d : Int) : (b ≤ a ∧ d ≤ c ∧ joinLo a b c d = 0 ∧ joinHi a b c d = 0) ∨ (b ≤ a ∧ c < d ∧ joinLo a b c d = c ∧ joinHi a b c d = d) ∨ (a < b ∧ d ≤ c ∧ joinLo a b c d = a ∧ joinHi a b c d = b) ∨ (a < b ∧ c < d ∧ joinLo a b c d = mn a c ∧ joinHi a b c d = mx b d) := by
  unfold joinLo joinHi
  by_cases h1 : b ≤ a <;> by_cases h2 : d ≤ c <;> simp [h1, h2] <;> omega
theorem meet_assoc (a b c d e f : Int) : meetLo (meetLo a b c d) (meetHi a b c d) e f = meetLo a b (meetLo c d e f) (meetHi c d e f) ∧ meetHi (meetLo a b c d) (meetHi a b c d) e f = meetHi a b (meetLo c d e f) (meetHi c d e f) := by
  have m1 := meet_spec a b c d
  have m2 := meet_spec c d e f
  have x1 := mx_spec a c
  have x2 := mx_spec c e
  have y1 := mn_spec b d
  have y2 := mn_spec d f
  generalize meetLo a b c d = p at *
  generalize meetHi a b c d = q at *
  generalize meetLo c d e f = r at *
  generalize meetHi c d e f = t at *
  have m3 := meet_spec p q e f
  have m4 := meet_spec a b r t
  have x3 := mx_spec p e
  have x4 := mx_spec a r
  have y3 := mn_spec q f
  have y4 := mn_spec b t
  omega
theorem mn_assoc (a b c : Int) : mn (mn a b) c = mn a (mn b c) := by unfold mn; (repeat' split) <;> omega
theorem mx_assoc (a b c : Int) : mx (mx a b) c = mx a (mx b c) := by unfold mx; (repeat' split) <;> omega
theorem wide {a b c d : Int} (h : a < b) : ¬ mx b d ≤ mn a c := by have := mx_spec b d; have := mn_spec a c; omega
theorem wide' {a b c d : Int} (h : c < d) : ¬ mx b d ≤ mn a c := by have := mx_spec b d; have := mn_spec a c; omega
theorem join_assoc (a b c d e f : Int) : joinLo (joinLo a b c d) (joinHi a b c d) e f = joinLo a b (joinLo c d e f) (joinHi c d e f) ∧ joinHi (joinLo a b c d) (joinHi a b c d) e f = joinHi a b (joinLo c d e f) (joinHi c d e f) := by
  by_cases h1 : b ≤ a
  · by_cases h2 : d ≤ c
    · by_cases h3 : f ≤ e <;> simp [joinLo, joinHi, h1, h2, h3]
    · by_cases h3 : f ≤ e
      · simp [joinLo, joinHi, h1, h2, h3]
      · have := wide (a := c) (b := d) (c := e) (d := f) (by omega)
        simp [joinLo, joinHi, h1, h2, h3, this]
  · by_cases h2 : d ≤ c
    · by_cases h3 : f ≤ e <;> simp [joinLo, joinHi, h1, h2, h3]
    · have w1 := wide (a := a) (b := b) (c := c) (d := d) (by omega)
      by_cases h3 : f ≤ e
      · simp [joinLo, joinHi, h1, h2, h3, w1]
      · have w2 := wide (a := c) (b := d) (c := e) (d := f) (by omega)
        simp [joinLo, joinHi, h1, h2, h3, w1, w2, mn_assoc, mx_assoc]
theorem meet_in (a b c d : Int) : inn (meetLo a b c d) (meetHi a b c d) a b = true := by
  rw [inn_iff]
  have := meet_spec a b c d
  have := mx_spec a c
  have := mn_spec b d
  omega
theorem meet_in' (a b c d : Int) : inn (meetLo a b c d) (meetHi a b c d) c d = true := by rw [← meetLo_comm, ← meetHi_comm]; exact meet_in c d a b
theorem in_join (a b c d : Int) : inn a b (joinLo a b c d) (joinHi a b c d) = true := by
  rw [inn_iff]
  have := join_spec a b c d
  have := mn_spec a c
  have := mx_spec b d
  omega
theorem in_join' (a b c d : Int) : inn c d (joinLo a b c d) (joinHi a b c d) = true := by rw [← joinLo_comm, ← joinHi_comm]; exact in_join c d a b
theorem has_meet (a b c d n : Int) : has (meetLo a b c d) (meetHi a b c d) n = (has a b n && has c d n) := by
  rw [Bool.eq_iff_iff]
  simp only [Bool.and_eq_true, has_iff]
  have := meet_spec a b c d
  have := mx_spec a c
  have := mn_spec b d
  omega
theorem has_join {a b c d n : Int} (h : has a b n = true) : has (joinLo a b c d) (joinHi a b c d) n = true := by
  rw [has_iff] at *
  have := join_spec a b c d
  have := mn_spec a c
  have := mx_spec b d
  omega
theorem in_trans {a b c d e f : Int} (h1 : inn a b c d = true) (h2 : inn c d e f = true) (h : c < d) : inn a b e f = true := by
  rw [inn_iff] at *
  omega
end Fx
end Go.Proofs.Ytganeapoipiiaaa
