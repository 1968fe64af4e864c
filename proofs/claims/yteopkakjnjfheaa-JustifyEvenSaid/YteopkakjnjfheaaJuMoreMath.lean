/- Plain numbers of JustifyMore and JustifyEven. No program in sight. -/
import Derived.Test.YteopkakjnjfheaaJuLawMath
namespace Go.Proofs.Yteopkakjnjfheaa
namespace Ju
section
variable {kind room gap : Int} {l : List Int}
/-- with more room -/
theorem starts_more {mo : Int} (hs : Small l) (g0 : 0 ≤ gap) (g1 : gap ≤ 1048576) (h64 : l.length ≤ 64) (r0 : 0 ≤ room) (r1 : room ≤ 268435456) (m0 : 0 ≤ mo) (m1 : mo ≤ 268435456) {k : Nat} (hk : k < l.length) :
    (Li.long gap l ≤ room → starts kind room gap l k ≤ starts kind (room + mo) gap l k ∧ starts kind (room + mo) gap l k ≤ starts kind room gap l k + mo) ∧ starts 0 room gap l k = starts 0 (room + mo) gap l k ∧ starts 1 (room + mo) gap l k = starts 1 room gap l k + mo := by
  obtain ⟨b1, b2⟩ := long_bd hs g0 g1 h64
  have a := fun kd => starts_plain (kind := kd) hs g0 g1 h64 r0 (show room ≤ 1073741824 by omega) hk
  have b := fun kd => starts_plain (kind := kd) (room := room + mo) hs g0 g1 h64 (by omega) (by omega) hk
  refine ⟨fun hf => ?_, ?_, ?_⟩
  · rw [a kind, b kind]
    have := F_more (kind := kind) (lf := room - Li.long gap l) (lf' := room + mo - Li.long gap l) (by omega) (by omega) (by omega) h64 hk
    omega
  · rw [a 0, b 0, F_start, F_start]
  · rw [a 1, b 1, F_end (Fx.cut_id (by omega) (by omega)), F_end (Fx.cut_id (by omega) (by omega))]
    omega
end

theorem ediv_step (a b : Int) {q : Int} (hq : 0 < q) : b / q ≤ (a + b) / q - a / q ∧ (a + b) / q - a / q ≤ b / q + 1 := by
  have a1 := Int.emod_nonneg a (show q ≠ 0 by omega)
  have a2 := Int.emod_lt_of_pos a hq
  have a3 := Int.mul_ediv_add_emod a q
  have b1 := Int.emod_nonneg b (show q ≠ 0 by omega)
  have b2 := Int.emod_lt_of_pos b hq
  have b3 := Int.mul_ediv_add_emod b q
  generalize a / q = x at *
  generalize b / q = y at *
  have lo : x + y ≤ (a + b) / q := by
    apply Int.le_ediv_of_mul_le hq
    have : (x + y) * q = q * x + q * y := by rw [Int.mul_comm, Int.mul_add]
    omega
  have hi : (a + b) / q < x + y + 2 := by
    apply Int.ediv_lt_of_lt_mul hq
    have : (x + y + 2) * q = q * x + q * y + q * 2 := by rw [Int.mul_comm, Int.mul_add, Int.mul_add]
    omega
  omega

theorem F_even {lf : Int} {n k : Nat} (l1 : 0 ≤ lf) (l2 : lf ≤ 1073741824) (n1 : 1 ≤ n) (n2 : n ≤ 64) :
    F 5 lf n ((0 : Nat) : Int) = lf / ((n : Int) + 1) ∧ F 4 lf n ((0 : Nat) : Int) = lf / (2 * (n : Int)) ∧
    (k + 1 < n → lf / ((n : Int) + 1) ≤ F 5 lf n ((k + 1 : Nat) : Int) - F 5 lf n (k : Int) ∧ F 5 lf n ((k + 1 : Nat) : Int) - F 5 lf n (k : Int) ≤ lf / ((n : Int) + 1) + 1 ∧
      lf / (n : Int) ≤ F 4 lf n ((k + 1 : Nat) : Int) - F 4 lf n (k : Int) ∧ F 4 lf n ((k + 1 : Nat) : Int) - F 4 lf n (k : Int) ≤ lf / (n : Int) + 1) := by
  have f := fun kd j hj => F_plain (kind := kd) (lf := lf) (n := n) (k := j) (by omega) l2 n2 hj
  rcases (show lf = 0 ∨ 0 < lf by omega) with rfl | hp
  · have z : ∀ kd (j : Nat), j < n → F kd 0 n j = 0 := fun kd j hj => by
      have a := F_ge0 (kind := kd) (lf := 0) (Int.le_refl _) (by omega) n2 hj
      have b := F_lel (kind := kd) (lf := 0) (Int.le_refl _) (by omega) n2 hj
      omega
    refine ⟨by rw [z 5 0 (by omega)]; simp, by rw [z 4 0 (by omega)]; simp, fun hk => ?_⟩
    rw [z 5 k (by omega), z 5 (k + 1) hk, z 4 k (by omega), z 4 (k + 1) hk]
    simp
  · have e5 : pq 5 lf n = (1, 1, (n : Int) + 1) := by unfold pq; simp [hp]
    have e4 : pq 4 lf n = (1, 2, 2 * (n : Int)) := by unfold pq; simp [hp]
    have f5 : ∀ j : Nat, j < n → F 5 lf n j = lf * (1 + 1 * (j : Int)) / ((n : Int) + 1) := fun j hj => by have := f 5 j hj; rw [e5] at this; exact this
    have f4 : ∀ j : Nat, j < n → F 4 lf n j = lf * (1 + 2 * (j : Int)) / (2 * (n : Int)) := fun j hj => by have := f 4 j hj; rw [e4] at this; exact this
    refine ⟨by rw [f5 0 (by omega)]; simp, by rw [f4 0 (by omega)]; simp, fun hk => ?_⟩
    rw [f5 k (by omega), f5 (k + 1) hk, f4 k (by omega), f4 (k + 1) hk]
    have s5 := ediv_step (lf * (1 + 1 * (k : Int))) lf (show 0 < (n : Int) + 1 by omega)
    have s4 := ediv_step (lf * (1 + 2 * (k : Int))) (lf * 2) (show 0 < 2 * (n : Int) by omega)
    rw [show lf * 2 / (2 * (n : Int)) = lf / (n : Int) by rw [Int.mul_comm lf 2]; exact Int.mul_ediv_mul_of_pos _ _ (by omega)] at s4
    rw [show lf * (1 + 1 * (k : Int)) + lf = lf * (1 + 1 * ((k + 1 : Nat) : Int)) by
      rw [show (1 + 1 * ((k + 1 : Nat) : Int)) = (1 + 1 * (k : Int)) + 1 by omega, Int.mul_add lf (1 + 1 * (k : Int)) 1, Int.mul_one]] at s5
    rw [show lf * (1 + 2 * (k : Int)) + lf * 2 = lf * (1 + 2 * ((k + 1 : Nat) : Int)) by
      rw [← Int.mul_add, show (1 + 2 * ((k + 1 : Nat) : Int)) = 1 + 2 * (k : Int) + 2 by omega]] at s4
    omega

/-- shared evenly, and around -/
theorem starts_even {room : Int} {l : List Int} {k : Nat} (hs : Small l) (h64 : l.length ≤ 64) (r0 : 0 ≤ room) (r1 : room ≤ 1073741824) (h1 : 1 ≤ l.length) (hl : Li.long 0 l ≤ room) :
    starts 5 room 0 l 0 = (room - Li.long 0 l) / ((l.length : Int) + 1) ∧ starts 4 room 0 l 0 = (room - Li.long 0 l) / (2 * (l.length : Int)) ∧
    (k + 1 < l.length → (room - Li.long 0 l) / ((l.length : Int) + 1) ≤ starts 5 room 0 l (k + 1) - starts 5 room 0 l k - l.getD k 0 ∧ starts 5 room 0 l (k + 1) - starts 5 room 0 l k - l.getD k 0 ≤ (room - Li.long 0 l) / ((l.length : Int) + 1) + 1 ∧
      (room - Li.long 0 l) / (l.length : Int) ≤ starts 4 room 0 l (k + 1) - starts 4 room 0 l k - l.getD k 0 ∧ starts 4 room 0 l (k + 1) - starts 4 room 0 l k - l.getD k 0 ≤ (room - Li.long 0 l) / (l.length : Int) + 1) := by
  obtain ⟨b1, b2⟩ := long_bd (gap := 0) hs (by omega) (by omega) h64
  obtain ⟨e1, e2, e3⟩ := F_even (lf := room - Li.long 0 l) (n := l.length) (k := k) (by omega) (by omega) h1 h64
  have p := fun kd j hj => starts_plain (kind := kd) (room := room) (gap := 0) (k := j) hs (by omega) (by omega) h64 r0 r1 hj
  refine ⟨?_, ?_, fun hk => ?_⟩
  · rw [p 5 0 (by omega), e1]; show _ + 0 = _; omega
  · rw [p 4 0 (by omega), e2]; show _ + 0 = _; omega
  · have := e3 hk
    rw [p 5 k (by omega), p 5 (k + 1) hk, p 4 k (by omega), p 4 (k + 1) hk, off_succ]
    omega
end Ju
end Go.Proofs.Yteopkakjnjfheaa
