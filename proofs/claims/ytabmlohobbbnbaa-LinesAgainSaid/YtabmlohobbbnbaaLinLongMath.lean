/- Plain numbers of the layer lines: a line is as long as its parts. No program in sight. -/
import Derived.Test.YtabmlohobbbnbaaLinMath
namespace Go.Proofs.Ytabmlohobbbnbaa
namespace Li
def small (l : List Int) : Prop := ∀ x ∈ l, -1048576 ≤ x ∧ x ≤ 1048576

theorem next_small {gap s x : Int} (hg : -1048576 ≤ gap ∧ gap ≤ 1048576) (hx : -1048576 ≤ x ∧ x ≤ 1048576) (hs : -1073741824000 ≤ s ∧ s ≤ 1073741824000) : next gap s x = s + gap + x := by
  unfold next Fx.add
  rw [Fx.cut_id (n := s) (by omega) (by omega), Fx.cut_id (n := gap) (by omega) (by omega), Fx.cut_id (n := x) (by omega) (by omega), Fx.cut_id (n := s + gap) (by omega) (by omega), Fx.cut_id (n := s + gap) (by omega) (by omega), Fx.cut_id (by omega) (by omega)]

theorem foldl_small (gap : Int) (hg : -1048576 ≤ gap ∧ gap ≤ 1048576) : ∀ (l : List Int) (s : Int) (B : Int), small l → -B ≤ s → s ≤ B → B + 2097152 * l.length ≤ 1073741824000 →
    -(B + 2097152 * l.length) ≤ l.foldl (next gap) s ∧ l.foldl (next gap) s ≤ B + 2097152 * l.length
  | [], s, B, _, h1, h2, _ => by simp; omega
  | x :: l, s, B, hl, h1, h2, h3 => by
    have hx := hl x (by simp)
    simp only [List.length_cons, List.foldl_cons] at h3 ⊢
    rw [next_small hg hx (by omega)]
    have := foldl_small gap hg l (s + gap + x) (B + 2097152) (fun y hy => hl y (by simp [hy])) (by omega) (by omega) (by omega)
    omega

theorem long_small (gap : Int) (hg : -1048576 ≤ gap ∧ gap ≤ 1048576) {l : List Int} (hl : small l) (hn : l.length ≤ 400) : -(2097152 * (l.length : Int)) ≤ long gap l ∧ long gap l ≤ 2097152 * l.length := by
  cases l with
  | nil => simp [long]
  | cons x l =>
    have hx := hl x (by simp)
    have := foldl_small gap hg l (Fx.cut x) 1048576 (fun y hy => hl y (by simp [hy])) (by rw [Fx.cut_id (by omega) (by omega)]; omega) (by rw [Fx.cut_id (by omega) (by omega)]; omega) (by simp only [List.length_cons] at hn; omega)
    simp only [long, List.length_cons]
    omega

/-- from two states that are d apart the two ends are d apart -/
theorem foldl_shift (gap d : Int) (hg : -1048576 ≤ gap ∧ gap ≤ 1048576) : ∀ (l : List Int) (s B : Int), small l → -B ≤ s → s ≤ B → -B ≤ s + d → s + d ≤ B → B + 2097152 * l.length ≤ 1073741824000 →
    l.foldl (next gap) (s + d) = l.foldl (next gap) s + d
  | [], _, _, _, _, _, _, _, _ => rfl
  | x :: l, s, B, hl, h1, h2, h3, h4, h5 => by
    have hx := hl x (by simp)
    simp only [List.length_cons, List.foldl_cons] at h5 ⊢
    rw [next_small hg hx (by omega), next_small hg hx (by omega)]
    rw [show s + d + gap + x = s + gap + x + d by omega]
    exact foldl_shift gap d hg l (s + gap + x) (B + 2097152) (fun y hy => hl y (by simp [hy])) (by omega) (by omega) (by omega) (by omega) (by omega)

theorem long_append (gap : Int) (hg : -1048576 ≤ gap ∧ gap ≤ 1048576) {a b : List Int} (ha : small a) (hb : small b) (na : a.length ≤ 200) (nb : b.length ≤ 200) (h0 : 0 < a.length) (h1 : 0 < b.length) :
    long gap (a ++ b) = long gap a + long gap b + gap := by
  cases a with
  | nil => simp at h0
  | cons x a =>
    cases b with
    | nil => simp at h1
    | cons y b =>
      have hy := hb y (by simp)
      have ga := long_small gap hg ha (by omega)
      simp only [List.length_cons] at ga na nb
      show ((a ++ y :: b).foldl (next gap) (Fx.cut x)) = a.foldl (next gap) (Fx.cut x) + b.foldl (next gap) (Fx.cut y) + gap
      simp only [long] at ga
      rw [List.foldl_append, List.foldl_cons]
      generalize a.foldl (next gap) (Fx.cut x) = s at *
      rw [next_small hg hy (by omega), Fx.cut_id (n := y) (by omega) (by omega)]
      have := foldl_shift gap (s + gap) hg b y 536870912000 (fun z hz => hb z (by simp [hz])) (by omega) (by omega) (by omega) (by omega) (by omega)
      rw [show s + gap + y = y + (s + gap) by omega, this]
      omega

theorem long_parts (gap : Int) (hg : -1048576 ≤ gap ∧ gap ≤ 1048576) {a b : List Int} (ha : small a) (hb : small b) (na : a.length ≤ 200) (nb : b.length ≤ 200) :
    long gap (a ++ b) = if 0 < a.length ∧ 0 < b.length then long gap a + long gap b + gap else long gap a + long gap b := by
  split
  · rename_i h; exact long_append gap hg ha hb na nb h.1 h.2
  · rename_i h
    rcases Nat.eq_zero_or_pos a.length with h0 | h0
    · rw [List.eq_nil_of_length_eq_zero h0]; simp [long_nil]
    · have h1 : b.length = 0 := by omega
      rw [List.eq_nil_of_length_eq_zero h1]; simp [long_nil]

end Li
end Go.Proofs.Ytabmlohobbbnbaa
