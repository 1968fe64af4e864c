/- Plain numbers of the layer lines: with more room, or a lesser gap, there are no more lines; a line broken anew; what comes behind. No program in sight. -/
import Derived.Test.YtabmlohobbbnbaaLinMath
namespace Go.Proofs.Ytabmlohobbbnbaa
namespace Li
theorem next_mono {g g' s t : Int} (x : Int) (h : s ≤ t) (hg : g ≤ g') : next g s x ≤ next g' t x := by
  unfold next Fx.add
  have h1 := Fx.cut_mono h
  have h2 := Fx.cut_mono hg
  have h3 := Fx.cut_mono (show Fx.cut s + Fx.cut g ≤ Fx.cut t + Fx.cut g' by omega)
  have h4 := Fx.cut_mono h3
  exact Fx.cut_mono (by omega)

theorem foldl_mono {g g' : Int} (hg : g ≤ g') : ∀ (l : List Int) (s t : Int), s ≤ t → l.foldl (next g) s ≤ l.foldl (next g') t
  | [], _, _, h => h
  | x :: l, s, t, h => by
    simp only [List.foldl_cons]
    exact foldl_mono hg l _ _ (next_mono x h hg)

theorem next_nonneg {g s x : Int} (hg : 0 ≤ g) (hs : 0 ≤ s) (hx : 0 ≤ x) : Fx.cut x ≤ next g s x ∧ 0 ≤ next g s x := by
  unfold next Fx.add
  have h1 := Fx.cut_nonneg hs
  have h2 := Fx.cut_nonneg hg
  have h3 := Fx.cut_nonneg hx
  have h4 : 0 ≤ Fx.cut (Fx.cut s + Fx.cut g) := Fx.cut_nonneg (by omega)
  have h5 : 0 ≤ Fx.cut (Fx.cut (Fx.cut s + Fx.cut g)) := Fx.cut_nonneg h4
  have h6 := Fx.cut_mono (show Fx.cut x ≤ Fx.cut (Fx.cut (Fx.cut s + Fx.cut g)) + Fx.cut x by omega)
  rw [Fx.cut_cut] at h6
  exact ⟨h6, by omega⟩

theorem foldl_nonneg {g : Int} (hg : 0 ≤ g) : ∀ (l : List Int) (s : Int), 0 ≤ s → (∀ x ∈ l, 0 ≤ x) → 0 ≤ l.foldl (next g) s
  | [], _, h, _ => h
  | x :: l, s, h, hl => by
    simp only [List.foldl_cons]
    exact foldl_nonneg hg l _ (next_nonneg hg h (hl x (by simp))).2 fun y hy => hl y (by simp [hy])

theorem long_suffix {g g' : Int} (h0 : 0 ≤ g) (hg : g' ≤ g) (p q : List Int) (hq : q ≠ []) (hp : ∀ x ∈ p, 0 ≤ x) (hq0 : ∀ x ∈ q, 0 ≤ x) : long g' q ≤ long g (p ++ q) := by
  cases q with
  | nil => exact absurd rfl hq
  | cons y q =>
    cases p with
    | nil => exact foldl_mono hg q _ _ (Int.le_refl _)
    | cons x p =>
      show q.foldl (next g') (Fx.cut y) ≤ (p ++ y :: q).foldl (next g) (Fx.cut x)
      rw [List.foldl_append, List.foldl_cons]
      refine foldl_mono hg q _ _ (next_nonneg h0 (foldl_nonneg h0 p _ (Fx.cut_nonneg (hp x (by simp))) fun z hz => hp z (by simp [hz])) (hq0 y (by simp))).1

theorem stop_mono {room room' g g' : Int} {l : List Int} (hl : ∀ x ∈ l, 0 ≤ x) (hr : room ≤ room') (h0 : 0 ≤ g) (hg : g' ≤ g) {i j : Nat} (hij : i ≤ j) (hj : j < l.length) : stop room g true l i ≤ stop room' g' true l j := by
  rcases Nat.lt_or_ge (stop room' g' true l j) (stop room g true l i) with h | h
  · exfalso
    have hs := stop_le room g true l (at_ := i) (by omega)
    have hgt := stop_gt room' g' true l j
    have k1 := cnt_is room g true (l.drop i)
    have k2 := cnt_is room' g' true (l.drop j)
    have b1 := k1.le (by rw [List.length_drop]; omega)
    unfold stop at h hs hgt
    generalize cnt room g true (l.drop i) = n1 at *
    generalize cnt room' g' true (l.drop j) = n2 at *
    have g1 := goes_iff.1 (k1.all (j + n2 - i) (by omega) (by omega))
    have g2 : goes room' g' true (l.drop j) n2 = true := by
      refine goes_iff.2 ⟨by rw [List.length_drop]; omega, by omega, fun _ => ?_⟩
      have h3 := g1.2.2 rfl
      have e : (l.drop i).take (j + n2 - i + 1) = (l.drop i).take (j - i) ++ (l.drop j).take (n2 + 1) := by
        rw [show j + n2 - i + 1 = (j - i) + (n2 + 1) by omega, List.take_add, List.drop_drop, show i + (j - i) = j by omega]
      rw [e] at h3
      have := long_suffix h0 hg ((l.drop i).take (j - i)) ((l.drop j).take (n2 + 1)) (take_ne _ (by omega) (by rw [List.length_drop]; omega)) (fun x hx => hl x (List.mem_of_mem_drop (List.mem_of_mem_take hx))) (fun x hx => hl x (List.mem_of_mem_drop (List.mem_of_mem_take hx)))
      omega
    rw [k2.end_] at g2
    cases g2
  · exact h

theorem tail_mono {room room' g g' : Int} {l : List Int} (hl : ∀ x ∈ l, 0 ≤ x) (hr : room ≤ room') (h0 : 0 ≤ g) (hg : g' ≤ g) : ∀ d i j, l.length ≤ j + d → i ≤ j → (tail room' g' true l j).length ≤ (tail room g true l i).length
  | 0, i, j, hd, hij => by rw [tail_end _ _ _ _ (by omega)]; simp
  | d + 1, i, j, hd, hij => by
    rcases Nat.lt_or_ge j l.length with h | h
    · rw [tail_step _ _ _ _ h, tail_step _ _ _ _ (show i < l.length by omega)]
      have h1 := stop_gt room' g' true l j
      have := tail_mono hl hr h0 hg d (stop room g true l i) (stop room' g' true l j) (by omega) (stop_mono hl hr h0 hg hij h)
      simp only [List.length_cons]
      omega
    · rw [tail_end _ _ _ _ h]; simp

theorem brk_more {room room' g g' : Int} {l : List Int} (hl : ∀ x ∈ l, 0 ≤ x) (hr : room ≤ room') (h0 : 0 ≤ g) (hg : g' ≤ g) : (brk room' g' true l).length ≤ (brk room g true l).length :=
  tail_mono hl hr h0 hg l.length 0 0 (by omega) (Nat.le_refl _)

/-- what goes on one line is one line -/
theorem brk_one {room gap : Int} {wrap : Bool} {l : List Int} (h : IsCnt room gap wrap l l.length) : brk room gap wrap l = [(0, l.length)] := by
  have h0 := h.one
  have e : stop room gap wrap l 0 = l.length := by
    unfold stop
    rw [List.drop_zero, h.eq, Nat.zero_add]
  unfold brk
  rw [tail_step _ _ _ _ (show 0 < l.length by omega), e, tail_end _ _ _ _ (Nat.le_refl _)]

theorem brk_single {room gap : Int} {l : List Int} (hn : l.length ≤ 64) : (brk room gap false l).length = min l.length 1 := by
  rcases Nat.eq_zero_or_pos l.length with h | h
  · unfold brk; rw [tail_end _ _ _ _ (by omega), h]; rfl
  · rw [brk_one ⟨h, fun k k1 k2 => goes_iff.2 ⟨k2, by omega, fun e => by cases e⟩, by
      cases e : goes room gap false l l.length with
      | false => rfl
      | true => have := goes_iff.1 e; omega⟩]
    simp; omega

end Li
end Go.Proofs.Ytabmlohobbbnbaa
