/- Plain numbers of the layer justify where nothing is cut: sizes and gaps from 0 to 2^20, not more than 64 of them. No program in sight. -/
import Derived.Test.YteopkakjnjfheaaJuMath
namespace Go.Proofs.Yteopkakjnjfheaa
namespace Ju
/-- sizes of which the statements speak -/
def Small (l : List Int) : Prop := ∀ j : Nat, 0 ≤ l.getD j 0 ∧ l.getD j 0 ≤ 1048576

/-- where the k-th one begins, if nothing is ahead of it but the sizes and the gaps -/
def off (l : List Int) (gap : Int) : Nat → Int
  | 0 => 0
  | k + 1 => off l gap k + l.getD k 0 + gap
theorem off_succ (l : List Int) (gap : Int) (k : Nat) : off l gap (k + 1) = off l gap k + l.getD k 0 + gap := rfl
theorem off_bd {l : List Int} {gap : Int} (hs : Small l) (g0 : 0 ≤ gap) (g1 : gap ≤ 1048576) (k : Nat) : 0 ≤ off l gap k ∧ off l gap k ≤ (k : Int) * 2097152 := by
  induction k with
  | zero => simp [off]
  | succ k ih =>
    have := hs k
    rw [off_succ]
    constructor
    · omega
    · have e : ((k + 1 : Nat) : Int) * 2097152 = (k : Int) * 2097152 + 2097152 := by omega
      omega

theorem long_off {l : List Int} {gap : Int} (hs : Small l) (g0 : 0 ≤ gap) (g1 : gap ≤ 1048576) {k : Nat} (hk : k < l.length) (h64 : l.length ≤ 64) : Li.long gap (l.take (k + 1)) = off l gap k + l.getD k 0 := by
  induction k with
  | zero =>
    have := hs 0
    rw [Li.long_take_one gap l hk, Fx.cut_id (by omega) (by omega)]
    show _ = 0 + _
    omega
  | succ k ih =>
    have i := ih (by omega)
    have h1 := hs k
    have h2 := hs (k + 1)
    obtain ⟨o1, o2⟩ := off_bd hs g0 g1 k
    rw [Li.long_take gap l (by omega) hk, i, off_succ]
    unfold Li.next Fx.add
    rw [Fx.cut_id (n := off l gap k + l.getD k 0) (by omega) (by omega), Fx.cut_id (n := gap) (by omega) (by omega), Fx.cut_id (n := off l gap k + l.getD k 0 + gap) (by omega) (by omega), Fx.cut_id (n := off l gap k + l.getD k 0 + gap) (by omega) (by omega), Fx.cut_id (n := l.getD (k + 1) 0) (by omega) (by omega), Fx.cut_id (by omega) (by omega)]

theorem long_all {l : List Int} {gap : Int} (hs : Small l) (g0 : 0 ≤ gap) (g1 : gap ≤ 1048576) {m : Nat} (hm : l.length = m + 1) (h64 : l.length ≤ 64) : Li.long gap l = off l gap m + l.getD m 0 := by
  rw [← long_off hs g0 g1 (by omega) h64, ← hm, List.take_length]

theorem long_bd {l : List Int} {gap : Int} (hs : Small l) (g0 : 0 ≤ gap) (g1 : gap ≤ 1048576) (h64 : l.length ≤ 64) : 0 ≤ Li.long gap l ∧ Li.long gap l ≤ 134217728 := by
  rcases Nat.eq_zero_or_pos l.length with h | h
  · rw [List.eq_nil_of_length_eq_zero h]; simp [Li.long_nil]
  · obtain ⟨m, hm⟩ : ∃ m, l.length = m + 1 := ⟨l.length - 1, by omega⟩
    rw [long_all hs g0 g1 hm h64]
    have := hs m
    have := off_bd hs g0 g1 m
    omega

theorem left_plain {l : List Int} {room gap : Int} (hs : Small l) (g0 : 0 ≤ gap) (g1 : gap ≤ 1048576) (h64 : l.length ≤ 64) (r0 : 0 ≤ room) (r1 : room ≤ 1073741824) : left room gap l = room - Li.long gap l := by
  obtain ⟨b1, b2⟩ := long_bd hs g0 g1 h64
  unfold left Fx.sub
  rw [Fx.cut_id (n := room) (by omega) (by omega), Fx.cut_id (n := Li.long gap l) (by omega) (by omega), Fx.cut_id (by omega) (by omega)]

/-- so many parts of a whole -/
theorem pq_in (kind lf : Int) {n : Int} (n1 : 1 ≤ n) (n2 : n ≤ 64) : 1 ≤ (pq kind lf n).2.2 ∧ (pq kind lf n).2.2 ≤ 128 ∧ (pq kind lf n).1 + (pq kind lf n).2.1 * (n - 1) ≤ (pq kind lf n).2.2 := by
  unfold pq
  (repeat' split) <;> simp only [] <;> omega

theorem pq_step {kind lf n : Int} (h : (pq kind lf n).2.1 ≠ 0) : 0 < lf := by
  revert h
  unfold pq
  (repeat' split) <;> first | (intro h; omega) | (intro h; exact absurd rfl h)

theorem fr_plain {lf p s q k : Int} (l1 : -134217728 ≤ lf) (l2 : lf ≤ 1073741824) (q1 : 1 ≤ q) (q2 : q ≤ 128) (c0 : 0 ≤ p + s * k) (c1 : p + s * k ≤ q) : fr lf p s q k = lf * (p + s * k) / q := by
  unfold fr
  generalize p + s * k = c at *
  have hm : -137438953472 ≤ lf * c ∧ lf * c ≤ 137438953472 := by
    have h1 : (-1073741824) * c ≤ lf * c := Int.mul_le_mul_of_nonneg_right (by omega) c0
    have h2 : lf * c ≤ 1073741824 * c := Int.mul_le_mul_of_nonneg_right l2 c0
    constructor <;> omega
  unfold Fx.mul Fx.div
  rw [if_neg (by omega), Fx.cut_id (n := lf) (by omega) (by omega), Fx.cut_id (n := c) (by omega) (by omega), Fx.cut_id (n := q) (by omega) (by omega), Fx.cut_id (n := lf * c) (by omega) (by omega), Fx.cut_id (n := lf * c) (by omega) (by omega)]

theorem share_bd {kind lf : Int} {n k : Nat} (n2 : n ≤ 64) (hk : k < n) : 0 ≤ (pq kind lf n).1 + (pq kind lf n).2.1 * (k : Int) ∧ (pq kind lf n).1 + (pq kind lf n).2.1 * (k : Int) ≤ (pq kind lf n).2.2 := by
  obtain ⟨q1, q2, q3⟩ := pq_in kind lf (n := n) (by omega) (by omega)
  obtain ⟨p0, p1, s0, s2⟩ := pq_bd kind lf n
  generalize (pq kind lf n).1 = p at *
  generalize (pq kind lf n).2.1 = s at *
  generalize (pq kind lf n).2.2 = q at *
  have h1 : s * (k : Int) ≤ s * ((n : Int) - 1) := Int.mul_le_mul_of_nonneg_left (by omega) s0
  have h2 : 0 ≤ s * (k : Int) := Int.mul_nonneg s0 (by omega)
  omega

theorem F_plain {kind lf : Int} {n k : Nat} (l1 : -134217728 ≤ lf) (l2 : lf ≤ 1073741824) (n2 : n ≤ 64) (hk : k < n) : F kind lf n k = lf * ((pq kind lf n).1 + (pq kind lf n).2.1 * (k : Int)) / (pq kind lf n).2.2 := by
  obtain ⟨q1, q2, _⟩ := pq_in kind lf (n := n) (by omega) (by omega)
  obtain ⟨c0, c1⟩ := share_bd (kind := kind) (lf := lf) n2 hk
  exact fr_plain l1 l2 q1 q2 c0 c1

theorem F_bd {kind lf : Int} {n k : Nat} (l1 : -134217728 ≤ lf) (l2 : lf ≤ 1073741824) (n2 : n ≤ 64) (hk : k < n) : -134217728 ≤ F kind lf n k ∧ F kind lf n k ≤ 1073741824 := by
  obtain ⟨q1, q2, _⟩ := pq_in kind lf (n := n) (by omega) (by omega)
  obtain ⟨c0, c1⟩ := share_bd (kind := kind) (lf := lf) n2 hk
  rw [F_plain l1 l2 n2 hk]
  generalize (pq kind lf n).1 + (pq kind lf n).2.1 * (k : Int) = c at *
  generalize (pq kind lf n).2.2 = q at *
  have h1 : (-134217728) * q ≤ (-134217728) * c := by omega
  have h2 : (-134217728) * c ≤ lf * c := Int.mul_le_mul_of_nonneg_right l1 c0
  have h3 : lf * c ≤ 1073741824 * c := Int.mul_le_mul_of_nonneg_right l2 c0
  constructor
  · exact Int.le_ediv_of_mul_le (by omega) (by omega)
  · exact Int.ediv_le_of_le_mul (by omega) (by omega)

/-- where nothing is cut each begins where the sizes and the gaps ahead end, and what is ahead besides -/
theorem starts_plain {kind room gap : Int} {l : List Int} (hs : Small l) (g0 : 0 ≤ gap) (g1 : gap ≤ 1048576) (h64 : l.length ≤ 64) (r0 : 0 ≤ room) (r1 : room ≤ 1073741824) {k : Nat} (hk : k < l.length) :
    starts kind room gap l k = F kind (room - Li.long gap l) l.length k + off l gap k := by
  obtain ⟨b1, b2⟩ := long_bd hs g0 g1 h64
  unfold starts
  rw [left_plain hs g0 g1 h64 r0 r1]
  have l1 : -134217728 ≤ room - Li.long gap l := by omega
  have l2 : room - Li.long gap l ≤ 1073741824 := by omega
  generalize room - Li.long gap l = lf at *
  induction k with
  | zero => rw [at_zero]; show _ = _ + 0; rw [Int.add_zero]; rfl
  | succ k ih =>
    obtain ⟨o1, o2⟩ := off_bd hs g0 g1 k
    obtain ⟨x1, x2⟩ := F_bd (kind := kind) l1 l2 h64 (show k < l.length by omega)
    obtain ⟨y1, y2⟩ := F_bd (kind := kind) l1 l2 h64 hk
    have h1 := hs k
    rw [at_succ, ih (by omega), off_succ, sub_F]
    generalize F kind lf l.length (k : Int) = x at *
    generalize F kind lf l.length ((k + 1 : Nat) : Int) = y at *
    unfold Fx.add
    rw [Fx.cut_id (n := x + off l gap k) (by omega) (by omega), Fx.cut_id (n := l.getD k 0) (by omega) (by omega), Fx.cut_id (n := x + off l gap k + l.getD k 0) (by omega) (by omega), Fx.cut_id (n := x + off l gap k + l.getD k 0) (by omega) (by omega), Fx.cut_id (n := gap) (by omega) (by omega),
      Fx.cut_id (n := x + off l gap k + l.getD k 0 + gap) (by omega) (by omega), Fx.cut_id (n := x + off l gap k + l.getD k 0 + gap) (by omega) (by omega), Fx.cut_cut, Fx.cut_id (n := y - x) (by omega) (by omega), Fx.cut_id (by omega) (by omega)]
    omega

theorem F_mono {kind lf : Int} {n k : Nat} (l1 : -134217728 ≤ lf) (l2 : lf ≤ 1073741824) (n2 : n ≤ 64) (hk : k + 1 < n) : F kind lf n k ≤ F kind lf n ((k + 1 : Nat) : Int) := by
  by_cases h : (pq kind lf n).2.1 = 0
  · rw [F_same h]; exact Int.le_refl _
  · have hl := pq_step h
    obtain ⟨q1, q2, _⟩ := pq_in kind lf (n := n) (by omega) (by omega)
    obtain ⟨_, _, s0, _⟩ := pq_bd kind lf n
    rw [F_plain l1 l2 n2 (by omega), F_plain l1 l2 n2 hk]
    refine Int.ediv_le_ediv (by omega) (Int.mul_le_mul_of_nonneg_left ?_ (by omega))
    have : (pq kind lf n).2.1 * (k : Int) ≤ (pq kind lf n).2.1 * ((k + 1 : Nat) : Int) := Int.mul_le_mul_of_nonneg_left (by omega) s0
    omega

theorem F_ge0 {kind lf : Int} {n k : Nat} (l1 : 0 ≤ lf) (l2 : lf ≤ 1073741824) (n2 : n ≤ 64) (hk : k < n) : 0 ≤ F kind lf n k := by
  obtain ⟨q1, q2, _⟩ := pq_in kind lf (n := n) (by omega) (by omega)
  obtain ⟨c0, c1⟩ := share_bd (kind := kind) (lf := lf) n2 hk
  rw [F_plain (by omega) l2 n2 hk]
  exact Int.ediv_nonneg (Int.mul_nonneg l1 c0) (by omega)

theorem F_lel {kind lf : Int} {n k : Nat} (l1 : 0 ≤ lf) (l2 : lf ≤ 1073741824) (n2 : n ≤ 64) (hk : k < n) : F kind lf n k ≤ lf := by
  obtain ⟨q1, q2, _⟩ := pq_in kind lf (n := n) (by omega) (by omega)
  obtain ⟨c0, c1⟩ := share_bd (kind := kind) (lf := lf) n2 hk
  rw [F_plain (by omega) l2 n2 hk]
  exact Int.ediv_le_of_le_mul (by omega) (Int.mul_le_mul_of_nonneg_left c1 l1)

/-- with more room -/
theorem F_more {kind lf lf' : Int} {n k : Nat} (l0 : 0 ≤ lf) (l1 : lf ≤ lf') (l2 : lf' ≤ 1073741824) (n2 : n ≤ 64) (hk : k < n) : F kind lf n k ≤ F kind lf' n k ∧ F kind lf' n k ≤ F kind lf n k + (lf' - lf) := by
  have h0 : F kind 0 n k = 0 := by
    have a := F_ge0 (kind := kind) (lf := 0) (Int.le_refl _) (by omega) n2 hk
    have b := F_lel (kind := kind) (lf := 0) (Int.le_refl _) (by omega) n2 hk
    omega
  rcases (show lf = 0 ∨ 0 < lf by omega) with rfl | hp
  · rw [h0]
    have a := F_ge0 (kind := kind) (lf := lf') (by omega) l2 n2 hk
    have b := F_lel (kind := kind) (lf := lf') (by omega) l2 n2 hk
    omega
  · have e : pq kind lf' n = pq kind lf n := by
      have hp' : 0 < lf' := by omega
      unfold pq; simp only [hp, hp']
    rw [F_plain (by omega) l2 n2 hk, F_plain (by omega) (by omega) n2 hk, e]
    obtain ⟨q1, q2, _⟩ := pq_in kind lf (n := n) (by omega) (by omega)
    obtain ⟨c0, c1⟩ := share_bd (kind := kind) (lf := lf) n2 hk
    generalize (pq kind lf n).1 + (pq kind lf n).2.1 * (k : Int) = c at *
    generalize (pq kind lf n).2.2 = q at *
    constructor
    · exact Int.ediv_le_ediv (by omega) (Int.mul_le_mul_of_nonneg_right l1 c0)
    · rw [← Int.add_mul_ediv_right _ _ (show q ≠ 0 by omega)]
      refine Int.ediv_le_ediv (by omega) ?_
      have h1 : (lf' - lf) * c ≤ (lf' - lf) * q := Int.mul_le_mul_of_nonneg_left c1 (by omega)
      have h2 : lf' * c = lf * c + (lf' - lf) * c := by rw [Int.sub_mul]; omega
      omega

theorem F_last {lf : Int} {n k : Nat} (l1 : 0 ≤ lf) (l2 : lf ≤ 1073741824) (n2 : n ≤ 64) (hk : k + 1 = n) (hn : 2 ≤ n) : F 3 lf n 0 = 0 ∧ F 3 lf n k = lf := by
  rcases (show lf = 0 ∨ 0 < lf by omega) with rfl | hp
  · have e : ∀ j : Nat, j < n → F 3 0 n j = 0 := fun j hj => by
      have a := F_ge0 (kind := 3) (lf := 0) (Int.le_refl _) (by omega) n2 hj
      have b := F_lel (kind := 3) (lf := 0) (Int.le_refl _) (by omega) n2 hj
      omega
    exact ⟨e 0 (by omega), e k (by omega)⟩
  · have e : pq 3 lf n = (0, 1, (n : Int) - 1) := by unfold pq; simp; omega
    have a := F_plain (kind := 3) (lf := lf) (k := 0) (by omega) l2 n2 (by omega)
    have b := F_plain (kind := 3) (lf := lf) (k := k) (by omega) l2 n2 (by omega)
    rw [e] at a b
    refine ⟨a.trans (by simp), b.trans ?_⟩
    rw [show (0 : Int) + 1 * (k : Int) = (n : Int) - 1 by omega]
    exact Int.mul_ediv_cancel _ (by omega)

theorem F_start (lf : Int) (n k : Int) : F 0 lf n k = 0 := F_none rfl k
end Ju
end Go.Proofs.Yteopkakjnjfheaa
