/- Slices of areas (three cells each), of the program and of the document. -/
import Derived.Test.YtlmpkpjonkdaiaaSnap
import Derived.Maps.AppendAt
namespace Go.Proofs.Ytlmpkpjonkdaiaa.Fix
open Go.ChangeShapes Go.WideShapes Go.ChangeAt Go.RowKit
set_option linter.unusedVariables false

/-- A slice of areas that can be read. -/
def Areas (w : World) (A : Option Addr) (l : Nat → Sn.Ar) (n : Nat) : Prop :=
  0 < n → ∃ b off, A = some ⟨b, off, none⟩ ∧ b < w.heap.size ∧ ∀ k, k < n → w.cell? ⟨b, off + k * 3, none⟩ = some (.int .i64 (l k).lo) ∧ w.cell? ⟨b, off + k * 3 + 1, none⟩ = some (.int .i64 (l k).hi) ∧ w.cell? ⟨b, off + k * 3 + 2, none⟩ = some (.int .i64 (l k).e)

theorem Areas.keep {W w : World} {B : Nat} {A : Option Addr} {l : Nat → Sn.Ar} {n : Nat} (h : Areas W A l n) (hb : Below B W w) (hA : 0 < n → ∀ x, A = some x → x.block < B) : Areas w A l n := fun h0 => by
  obtain ⟨b, off, rfl, hl, hc⟩ := h h0
  have hlt : b < B := hA h0 _ rfl
  refine ⟨b, off, rfl, Nat.lt_of_lt_of_le hl hb.size, fun k hk => ?_⟩
  obtain ⟨c0, c1, c2⟩ := hc k hk
  exact ⟨(hb.cell (p := ⟨b, off + k * 3, none⟩) hlt).trans c0, (hb.cell (p := ⟨b, off + k * 3 + 1, none⟩) hlt).trans c1, (hb.cell (p := ⟨b, off + k * 3 + 2, none⟩) hlt).trans c2⟩

theorem Areas.lt {W : World} {A : Option Addr} {l : Nat → Sn.Ar} {n : Nat} (h : Areas W A l n) : 0 < n → ∀ x, A = some x → x.block < W.heap.size := fun h0 x hx => by
  obtain ⟨b, off, rfl, hl, hc⟩ := h h0
  injection hx with hx
  subst hx
  exact hl

theorem Areas.after {W w : World} {A : Option Addr} {l : Nat → Sn.Ar} {n : Nat} (h : Areas W A l n) (hb : Below W.heap.size W w) : Areas w A l n := h.keep hb h.lt

theorem Areas.at_ {w : World} {A : Option Addr} {l : Nat → Sn.Ar} {n k : Nat} (h : Areas w A l n) (hk : k < n) : ∃ b off, A = some ⟨b, off, none⟩ ∧ b < w.heap.size ∧ w.cell? ⟨b, off + k * 3, none⟩ = some (.int .i64 (l k).lo) ∧ w.cell? ⟨b, off + k * 3 + 1, none⟩ = some (.int .i64 (l k).hi) ∧ w.cell? ⟨b, off + k * 3 + 2, none⟩ = some (.int .i64 (l k).e) := by
  obtain ⟨b, off, e, hl, hc⟩ := h (by omega)
  exact ⟨b, off, e, hl, hc k hk⟩

theorem Areas.nil (w : World) (A : Option Addr) (l : Nat → Sn.Ar) : Areas w A l 0 := fun h => absurd h (by omega)

def encA (x : Sn.Ar) : List Value := [.int .i64 x.lo, .int .i64 x.hi, .int .i64 x.e]
def flatA (l : Nat → Sn.Ar) : Nat → List Value
  | 0 => []
  | k + 1 => flatA l k ++ encA (l k)
theorem flatA_length (l : Nat → Sn.Ar) (k : Nat) : (flatA l k).length = k * 3 := by
  induction k with
  | zero => rfl
  | succ k ih => simp only [flatA, List.length_append, ih, encA, List.length_cons, List.length_nil]; omega
theorem flatA_get (l : Nat → Sn.Ar) {n k j : Nat} (hk : k < n) (hj : j < 3) : (flatA l n)[k * 3 + j]? = (encA (l k))[j]? := by
  induction n with
  | zero => omega
  | succ n ih =>
    simp only [flatA]
    rcases Nat.lt_or_ge k n with h | h
    · rw [List.getElem?_append_left (by rw [flatA_length]; omega)]; exact ih h
    · obtain rfl : k = n := by omega
      rw [List.getElem?_append_right (by rw [flatA_length]; omega), flatA_length]
      congr 1
      omega
theorem flatA_congr {l m : Nat → Sn.Ar} {n : Nat} (h : ∀ k, k < n → l k = m k) : flatA l n = flatA m n := by
  induction n with
  | zero => rfl
  | succ n ih => simp only [flatA]; rw [ih (fun k hk => h k (by omega)), h n (by omega)]
/-- of one list behind another one -/
theorem flatA_append (l m : Nat → Sn.Ar) (k n : Nat) : flatA l k ++ flatA m n = flatA (fun i => if i < k then l i else m (i - k)) (k + n) := by
  induction n with
  | zero => simp only [flatA, List.append_nil, Nat.add_zero]; exact flatA_congr fun i hi => by simp [hi]
  | succ n ih =>
    rw [← Nat.add_assoc]
    simp only [flatA]
    rw [← List.append_assoc, ih, if_neg (by omega), show k + n - k = n by omega]

theorem areaInfo : (Try.prog.info? 33).map (fun i => (i.zero, i.size, i.bytes)) = some (some (.agg #[.int .i64 0, .int .i64 0, .int .i64 0]), 3, 24) := by kernel_rfl
theorem rareaInfo : (Try.prog.info? 35).map (fun i => (i.zero, i.size, i.bytes)) = some (some (.agg #[.int .i64 0, .int .i64 0, .int .i64 0]), 3, 24) := by kernel_rfl

/-- Areas behind a row of one's own. -/
theorem append_areas {w0 W : World} {base : Nat} {v : Value} {k m c : Nat} {l q : Nat → Sn.Ar} {B : Option Addr} (hown : W.ownsRow base 33 3 v k (flatA l k)) (hB : Below base w0 W) (hbase : base ≤ W.heap.size) (hq : Areas W B q m) (hk : k + m ≤ 1000) (h0 : 0 < m) :
    ∃ v' w', (Builtin.append_ #[23, 23] 23 #[v, .slice B m c]).run Try.prog W = .ok v' w' ∧ w'.ownsRow base 33 3 v' (k + m) (flatA (fun i => if i < k then l i else q (i - k)) (k + m)) ∧ Below base w0 w' ∧ base ≤ w'.heap.size := by
  obtain ⟨i0, hi0, hz0, hz1, hz2⟩ := info_parts areaInfo
  obtain ⟨b, off, rfl, hlt, hc⟩ := hq h0
  obtain ⟨v', w', hr, ho, hg, _, _⟩ := run_append_own_at (P := Try.prog) (w := W) base 23 23 33 i0 _ 3 24 Try.underlying23 hi0 hz0 hz1 hz2 rfl (by decide) v k _ hown ⟨b, off, none⟩ m c (flatA q m) (flatA_length q m)
    (by intro j u hj
        have hjl : j < m * 3 := by
          rcases Nat.lt_or_ge j (m * 3) with h | h
          · exact h
          · rw [List.getElem?_eq_none (by rw [flatA_length]; exact h)] at hj; cases hj
        have e := flatA_get q (n := m) (k := j / 3) (j := j % 3) (by omega) (by omega)
        rw [show j / 3 * 3 + j % 3 = j by omega, hj] at e
        obtain ⟨c0, c1, c2⟩ := hc (j / 3) (by omega)
        rw [addr_add, e]
        have h3 : j % 3 = 0 ∨ j % 3 = 1 ∨ j % 3 = 2 := by omega
        rcases h3 with h | h | h
        · rw [show off + j = off + j / 3 * 3 by omega, c0, h]; rfl
        · rw [show off + j = off + j / 3 * 3 + 1 by omega, c1, h]; rfl
        · rw [show off + j = off + j / 3 * 3 + 2 by omega, c2, h]; rfl)
    (by intro u hu
        have : ∀ n, ∀ u ∈ flatA q n, u.oneCell' = true := by
          intro n
          induction n with
          | zero => intro u hu; simp [flatA] at hu
          | succ n ih =>
            intro u hu
            simp only [flatA] at hu
            rcases List.mem_append.1 hu with h | h
            · exact ih u h
            · simp only [encA, List.mem_cons, List.not_mem_nil, or_false] at h; rcases h with rfl | rfl | rfl <;> rfl
        exact this m u hu) (by simp only [maxLen]; omega) (by omega) hbase
  refine ⟨v', w', hr, by rw [← flatA_append]; exact ho, hB.grown hg hbase (fun g hgg => (hown.lt g hgg).1), ?_⟩
  exact Nat.le_trans hbase hg.size

/-- Areas behind a row of one's own. -/
theorem rappend_areas {w0 W : World} {base : Nat} {v : Value} {k m c : Nat} {l q : Nat → Sn.Ar} {B : Option Addr} (hown : W.ownsRow base 35 3 v k (flatA l k)) (hB : Below base w0 W) (hbase : base ≤ W.heap.size) (hq : Areas W B q m) (hk : k + m ≤ 1000) (h0 : 0 < m) :
    ∃ v' w', (Builtin.append_ #[25, 25] 25 #[v, .slice B m c]).run Try.prog W = .ok v' w' ∧ w'.ownsRow base 35 3 v' (k + m) (flatA (fun i => if i < k then l i else q (i - k)) (k + m)) ∧ Below base w0 w' ∧ base ≤ w'.heap.size := by
  obtain ⟨i0, hi0, hz0, hz1, hz2⟩ := info_parts rareaInfo
  obtain ⟨b, off, rfl, hlt, hc⟩ := hq h0
  obtain ⟨v', w', hr, ho, hg, _, _⟩ := run_append_own_at (P := Try.prog) (w := W) base 25 25 35 i0 _ 3 24 Try.underlying25 hi0 hz0 hz1 hz2 rfl (by decide) v k _ hown ⟨b, off, none⟩ m c (flatA q m) (flatA_length q m)
    (by intro j u hj
        have hjl : j < m * 3 := by
          rcases Nat.lt_or_ge j (m * 3) with h | h
          · exact h
          · rw [List.getElem?_eq_none (by rw [flatA_length]; exact h)] at hj; cases hj
        have e := flatA_get q (n := m) (k := j / 3) (j := j % 3) (by omega) (by omega)
        rw [show j / 3 * 3 + j % 3 = j by omega, hj] at e
        obtain ⟨c0, c1, c2⟩ := hc (j / 3) (by omega)
        rw [addr_add, e]
        have h3 : j % 3 = 0 ∨ j % 3 = 1 ∨ j % 3 = 2 := by omega
        rcases h3 with h | h | h
        · rw [show off + j = off + j / 3 * 3 by omega, c0, h]; rfl
        · rw [show off + j = off + j / 3 * 3 + 1 by omega, c1, h]; rfl
        · rw [show off + j = off + j / 3 * 3 + 2 by omega, c2, h]; rfl)
    (by intro u hu
        have : ∀ n, ∀ u ∈ flatA q n, u.oneCell' = true := by
          intro n
          induction n with
          | zero => intro u hu; simp [flatA] at hu
          | succ n ih =>
            intro u hu
            simp only [flatA] at hu
            rcases List.mem_append.1 hu with h | h
            · exact ih u h
            · simp only [encA, List.mem_cons, List.not_mem_nil, or_false] at h; rcases h with rfl | rfl | rfl <;> rfl
        exact this m u hu) (by simp only [maxLen]; omega) (by omega) hbase
  refine ⟨v', w', hr, by rw [← flatA_append]; exact ho, hB.grown hg hbase (fun g hgg => (hown.lt g hgg).1), ?_⟩
  exact Nat.le_trans hbase hg.size

theorem area_new (w : World) (T : TypeId) (a : Sn.Ar) : Areas (w.alloc (.cells #[.int .i64 a.lo, .int .i64 a.hi, .int .i64 a.e] T)) (some ⟨w.heap.size, 0, none⟩) (fun _ => a) 1 := fun _ => by
  have hA := At.new w (.cells #[.int .i64 a.lo, .int .i64 a.hi, .int .i64 a.e] T)
  refine ⟨w.heap.size, 0, rfl, hA.lt, fun k hk => ?_⟩
  obtain rfl : k = 0 := by omega
  exact ⟨hA.cell 0, hA.cell 1, hA.cell 2⟩

theorem areas_of_own {w : World} {base : Nat} {v : Value} {n : Nat} {l : Nat → Sn.Ar} (h : w.ownsRow base 33 3 v n (flatA l n)) : ∃ A c, v = .slice A n c ∧ Areas w A l n := by
  rcases h.2 with ⟨rfl, h0⟩ | ⟨g, cap, cur, rfl, _, hgb, _⟩
  · exact ⟨none, 0, by rw [h0], fun hp => absurd hp (by omega)⟩
  · refine ⟨_, _, rfl, fun h0 => ⟨g, 0, rfl, (Array.getElem?_eq_some_iff.1 hgb).1, fun k hk => ?_⟩⟩
    have c : ∀ j, j < 3 → w.cell? ⟨g, 0 + k * 3 + j, none⟩ = (encA (l k))[j]? := by
      intro j hj
      have e := flatA_get l hk hj
      obtain ⟨u, hu⟩ : ∃ u, (encA (l k))[j]? = some u := ⟨_, List.getElem?_eq_getElem (by simpa [encA] using hj)⟩
      rw [hu] at e ⊢
      have := h.cells (g := g) rfl (k * 3 + j) u e
      rw [addr_add] at this
      rw [← this]; congr 2; omega
    exact ⟨c 0 (by omega), c 1 (by omega), c 2 (by omega)⟩

theorem rareas_of_own {w : World} {base : Nat} {v : Value} {n : Nat} {l : Nat → Sn.Ar} (h : w.ownsRow base 35 3 v n (flatA l n)) : ∃ A c, v = .slice A n c ∧ Areas w A l n := by
  rcases h.2 with ⟨rfl, h0⟩ | ⟨g, cap, cur, rfl, _, hgb, _⟩
  · exact ⟨none, 0, by rw [h0], fun hp => absurd hp (by omega)⟩
  · refine ⟨_, _, rfl, fun h0 => ⟨g, 0, rfl, (Array.getElem?_eq_some_iff.1 hgb).1, fun k hk => ?_⟩⟩
    have c : ∀ j, j < 3 → w.cell? ⟨g, 0 + k * 3 + j, none⟩ = (encA (l k))[j]? := by
      intro j hj
      have e := flatA_get l hk hj
      obtain ⟨u, hu⟩ : ∃ u, (encA (l k))[j]? = some u := ⟨_, List.getElem?_eq_getElem (by simpa [encA] using hj)⟩
      rw [hu] at e ⊢
      have := h.cells (g := g) rfl (k * 3 + j) u e
      rw [addr_add] at this
      rw [← this]; congr 2; omega
    exact ⟨c 0 (by omega), c 1 (by omega), c 2 (by omega)⟩

end Go.Proofs.Ytlmpkpjonkdaiaa.Fix
