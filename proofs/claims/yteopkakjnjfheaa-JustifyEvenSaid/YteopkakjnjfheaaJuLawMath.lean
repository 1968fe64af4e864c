/- Plain numbers of the statements of the layer justify. No program in sight. -/
import Derived.Test.YteopkakjnjfheaaJuPlain
namespace Go.Proofs.Yteopkakjnjfheaa
namespace Ju
section
variable {kind room gap : Int} {l : List Int}

theorem starts_bd (hs : Small l) (g0 : 0 ≤ gap) (g1 : gap ≤ 1048576) (h64 : l.length ≤ 64) (r0 : 0 ≤ room) (r1 : room ≤ 1073741824) {k : Nat} (hk : k < l.length) : -134217728 ≤ starts kind room gap l k ∧ starts kind room gap l k ≤ 1207959552 := by
  obtain ⟨b1, b2⟩ := long_bd hs g0 g1 h64
  obtain ⟨o1, o2⟩ := off_bd hs g0 g1 k
  obtain ⟨x1, x2⟩ := F_bd (kind := kind) (lf := room - Li.long gap l) (by omega) (by omega) h64 hk
  rw [starts_plain hs g0 g1 h64 r0 r1 hk]
  omega

theorem starts_apart (hs : Small l) (g0 : 0 ≤ gap) (g1 : gap ≤ 1048576) (h64 : l.length ≤ 64) (r0 : 0 ≤ room) (r1 : room ≤ 1073741824) {k : Nat} (hk : k + 1 < l.length) : starts kind room gap l k + l.getD k 0 + gap ≤ starts kind room gap l (k + 1) := by
  obtain ⟨b1, b2⟩ := long_bd hs g0 g1 h64
  have := F_mono (kind := kind) (lf := room - Li.long gap l) (by omega) (by omega) h64 hk
  rw [starts_plain hs g0 g1 h64 r0 r1 hk, starts_plain hs g0 g1 h64 r0 r1 (show k < l.length by omega), off_succ]
  omega

theorem starts_last (hs : Small l) (g0 : 0 ≤ gap) (g1 : gap ≤ 1048576) (h64 : l.length ≤ 64) (r0 : 0 ≤ room) (r1 : room ≤ 1073741824) {m : Nat} (hm : l.length = m + 1) : starts kind room gap l m + l.getD m 0 = F kind (room - Li.long gap l) l.length m + Li.long gap l := by
  rw [starts_plain hs g0 g1 h64 r0 r1 (show m < l.length by omega), long_all hs g0 g1 hm h64]
  omega

theorem starts_first (hs : Small l) (g0 : 0 ≤ gap) (g1 : gap ≤ 1048576) (h64 : l.length ≤ 64) (r0 : 0 ≤ room) (r1 : room ≤ 1073741824) (h1 : 1 ≤ l.length) : starts kind room gap l 0 = F kind (room - Li.long gap l) l.length ((0 : Nat) : Int) := by
  rw [starts_plain hs g0 g1 h64 r0 r1 (show 0 < l.length by omega)]
  show _ + 0 = _
  omega

theorem starts_within (hs : Small l) (g0 : 0 ≤ gap) (g1 : gap ≤ 1048576) (h64 : l.length ≤ 64) (r0 : 0 ≤ room) (r1 : room ≤ 1073741824) {m : Nat} (hm : l.length = m + 1) (hf : Li.long gap l ≤ room) : 0 ≤ starts kind room gap l 0 ∧ starts kind room gap l m + l.getD m 0 ≤ room := by
  obtain ⟨b1, b2⟩ := long_bd hs g0 g1 h64
  rw [starts_first hs g0 g1 h64 r0 r1 (by omega), starts_last hs g0 g1 h64 r0 r1 hm]
  have a := F_ge0 (kind := kind) (lf := room - Li.long gap l) (k := 0) (by omega) (by omega) h64 (by omega)
  have b := F_lel (kind := kind) (lf := room - Li.long gap l) (k := m) (by omega) (by omega) h64 (by omega)
  omega

theorem starts_both (hs : Small l) (g0 : 0 ≤ gap) (g1 : gap ≤ 1048576) (h64 : l.length ≤ 64) (r0 : 0 ≤ room) (r1 : room ≤ 1073741824) {m : Nat} (hm : l.length = m + 1) (hf : Li.long gap l ≤ room) (h2 : 2 ≤ l.length) : starts 3 room gap l 0 = 0 ∧ starts 3 room gap l m + l.getD m 0 = room := by
  obtain ⟨b1, b2⟩ := long_bd hs g0 g1 h64
  rw [starts_first hs g0 g1 h64 r0 r1 (by omega), starts_last hs g0 g1 h64 r0 r1 hm]
  obtain ⟨a, b⟩ := F_last (lf := room - Li.long gap l) (n := l.length) (k := m) (by omega) (by omega) h64 hm.symm h2
  exact ⟨a, by rw [b]; omega⟩

theorem starts_end (hs : Small l) (g0 : 0 ≤ gap) (g1 : gap ≤ 1048576) (h64 : l.length ≤ 64) (r0 : 0 ≤ room) (r1 : room ≤ 1073741824) {m : Nat} (hm : l.length = m + 1) : starts 1 room gap l m + l.getD m 0 = room := by
  obtain ⟨b1, b2⟩ := long_bd hs g0 g1 h64
  rw [starts_last hs g0 g1 h64 r0 r1 hm, F_end (Fx.cut_id (by omega) (by omega))]
  omega

/-- flipped, and twice -/
theorem flip_plain (hs : Small l) (g0 : 0 ≤ gap) (g1 : gap ≤ 1048576) (h64 : l.length ≤ 64) (r0 : 0 ≤ room) (r1 : room ≤ 1073741824) {k : Nat} (hk : k < l.length) :
    flip room (row (starts kind room gap l) l.length) l k = room - (starts kind room gap l k + l.getD k 0) := by
  obtain ⟨b1, b2⟩ := starts_bd (kind := kind) hs g0 g1 h64 r0 r1 hk
  obtain ⟨h1, h2⟩ := hs k
  unfold flip
  rw [row_get _ hk]
  unfold Fx.add Fx.sub
  rw [Fx.cut_id (n := starts kind room gap l k) (by omega) (by omega), Fx.cut_id (n := l.getD k 0) (by omega) (by omega), Fx.cut_id (n := room) (by omega) (by omega), Fx.cut_id (n := starts kind room gap l k + l.getD k 0) (by omega) (by omega), Fx.cut_id (n := starts kind room gap l k + l.getD k 0) (by omega) (by omega), Fx.cut_id (by omega) (by omega)]

theorem row_congr {f g : Nat → Int} {n : Nat} (h : ∀ k, k < n → f k = g k) : row f n = row g n := by
  unfold row
  apply List.map_congr_left
  intro k hk
  exact h k (List.mem_range.1 hk)

theorem flip_twice (hs : Small l) (g0 : 0 ≤ gap) (g1 : gap ≤ 1048576) (h64 : l.length ≤ 64) (r0 : 0 ≤ room) (r1 : room ≤ 1073741824) :
    row (flip room (row (flip room (row (starts kind room gap l) l.length) l) l.length) l) l.length = row (starts kind room gap l) l.length := by
  refine row_congr fun k hk => ?_
  obtain ⟨b1, b2⟩ := starts_bd (kind := kind) hs g0 g1 h64 r0 r1 hk
  obtain ⟨h1, h2⟩ := hs k
  show Fx.sub room (Fx.add ((row (flip room (row (starts kind room gap l) l.length) l) l.length).getD k 0) (l.getD k 0)) = _
  rw [row_get _ hk, flip_plain hs g0 g1 h64 r0 r1 hk]
  unfold Fx.add Fx.sub
  rw [Fx.cut_id (n := room) (by omega) (by omega), Fx.cut_id (n := l.getD k 0) (by omega) (by omega), Fx.cut_id (n := room - (starts kind room gap l k + l.getD k 0)) (by omega) (by omega), Fx.cut_id (n := room - (starts kind room gap l k + l.getD k 0) + l.getD k 0) (by omega) (by omega),
    Fx.cut_id (n := room - (starts kind room gap l k + l.getD k 0) + l.getD k 0) (by omega) (by omega), Fx.cut_id (by omega) (by omega)]
  omega

/-- in the middle -/
theorem starts_center (hs : Small l) (g0 : 0 ≤ gap) (g1 : gap ≤ 1048576) (h64 : l.length ≤ 64) (r0 : 0 ≤ room) (r1 : room ≤ 1073741824) {m : Nat} (hm : l.length = m + 1) :
    0 ≤ room - starts 2 room gap l m - l.getD m 0 - starts 2 room gap l 0 ∧ room - starts 2 room gap l m - l.getD m 0 - starts 2 room gap l 0 ≤ 1 := by
  obtain ⟨b1, b2⟩ := long_bd hs g0 g1 h64
  have a := starts_first (kind := 2) hs g0 g1 h64 r0 r1 (by omega)
  have b := starts_last (kind := 2) hs g0 g1 h64 r0 r1 hm
  have e : ∀ k : Int, F 2 (room - Li.long gap l) l.length k = (room - Li.long gap l) / 2 := fun k => by
    rw [F_half (Fx.cut_id (by omega) (by omega)) rfl]
    unfold Fx.div
    rw [if_neg (by omega), Fx.cut_id (n := room - Li.long gap l) (by omega) (by omega)]; rfl
  rw [e] at a b
  omega

theorem across_plain {size : Int} (s0 : 0 ≤ size) (s1 : size ≤ 1048576) (r0 : 0 ≤ room) (r1 : room ≤ 1073741824) : across 2 size room = (room - size) / 2 ∧ across 1 size room = 0 ∧ across 3 size room = room - size := by
  have e : Fx.sub room size = room - size := by
    unfold Fx.sub
    rw [Fx.cut_id (n := room) (by omega) (by omega), Fx.cut_id (n := size) (by omega) (by omega), Fx.cut_id (by omega) (by omega)]
  refine ⟨?_, by unfold across; simp, by unfold across; simp [e]⟩
  have : across 2 size room = Fx.div (Fx.sub room size) 2 := by unfold across; simp
  rw [this, e]
  unfold Fx.div
  rw [if_neg (by omega), Fx.cut_id (n := room - size) (by omega) (by omega)]; rfl
end
end Ju
end Go.Proofs.Yteopkakjnjfheaa
