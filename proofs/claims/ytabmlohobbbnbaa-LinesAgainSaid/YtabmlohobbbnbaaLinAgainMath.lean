/- Plain numbers of the layer lines: a line broken anew; what comes behind. No program in sight. -/
import Derived.Test.YtabmlohobbbnbaaLinMoreMath
namespace Go.Proofs.Ytabmlohobbbnbaa
namespace Li
theorem goes_take {room gap : Int} {wrap : Bool} {l : List Int} {q k : Nat} (hk : k < q) (hq : q ≤ l.length) : goes room gap wrap (l.take q) k = goes room gap wrap l k := by
  unfold goes
  rw [List.length_take, List.take_take, show min (k + 1) q = k + 1 by omega]
  simp [show k < l.length by omega, show k < min q l.length by omega]

/-- a line that is broken anew, by itself, is one line -/
theorem brk_take {room gap : Int} {wrap : Bool} {l : List Int} {q : Nat} (h : IsCnt room gap wrap l q) (h0 : 0 < l.length) : (brk room gap wrap (l.take q)).length = 1 := by
  have hq := (h.le h0).1
  have hl : (l.take q).length = q := by rw [List.length_take]; omega
  rw [brk_one]
  · rfl
  · rw [hl]
    refine ⟨h.one, fun k k1 k2 => by rw [goes_take k2 hq]; exact h.all k k1 k2, ?_⟩
    cases e : goes room gap wrap (l.take q) q with
    | false => rfl
    | true => have := goes_iff.1 e; omega

theorem goes_append {room gap : Int} {wrap : Bool} (a r : List Int) {k : Nat} (hk : k < a.length) : goes room gap wrap (a ++ r) k = goes room gap wrap a k := by
  unfold goes
  rw [List.length_append, List.take_append_of_le_length (by omega)]
  simp [show k < a.length + r.length by omega, hk]

theorem stop_append {room gap : Int} {wrap : Bool} (l r : List Int) {p : Nat} (hp : p < l.length) (hs : stop room gap wrap l p < l.length) : stop room gap wrap (l ++ r) p = stop room gap wrap l p := by
  have h := cnt_is room gap wrap (l.drop p)
  unfold stop at *
  congr 1
  rw [List.drop_append_of_le_length (by omega)]
  refine IsCnt.eq ⟨h.one, fun k k1 k2 => ?_, ?_⟩
  · rw [goes_append _ _ (by rw [List.length_drop]; omega)]; exact h.all k k1 k2
  · rw [goes_append _ _ (by rw [List.length_drop]; omega)]; exact h.end_

theorem tail_append {room gap : Int} {wrap : Bool} (l r : List Int) : ∀ d p, l.length ≤ p + d → (tail room gap wrap l p).length ≤ (tail room gap wrap (l ++ r) p).length
  | 0, p, hd => by rw [tail_end _ _ _ _ (by omega)]; simp
  | d + 1, p, hd => by
    rcases Nat.lt_or_ge p l.length with h | h
    · rw [tail_step _ _ _ _ h, tail_step _ _ _ _ (show p < (l ++ r).length by rw [List.length_append]; omega)]
      have h1 := stop_gt room gap wrap l p
      simp only [List.length_cons]
      rcases Nat.lt_or_ge (stop room gap wrap l p) l.length with h2 | h2
      · rw [stop_append l r h h2]
        have := tail_append (room := room) (gap := gap) (wrap := wrap) l r d (stop room gap wrap l p) (by omega)
        omega
      · rw [tail_end _ _ _ _ h2]
        simp
    · rw [tail_end _ _ _ _ h]; simp

theorem brk_append (room gap : Int) (wrap : Bool) (l r : List Int) : (brk room gap wrap l).length ≤ (brk room gap wrap (l ++ r)).length := tail_append l r l.length 0 (by omega)

end Li
end Go.Proofs.Ytabmlohobbbnbaa
