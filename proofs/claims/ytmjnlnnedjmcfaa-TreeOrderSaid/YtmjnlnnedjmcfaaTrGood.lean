/- The calls of a tree that a law has made; the document's example. -/
import Derived.Test.YtmjnlnnedjmcfaaTrDo
namespace Go.Proofs.Ytmjnlnnedjmcfaa.Fix
open Go.ChangeShapes Go.WideShapes Go.ChangeAt Go.RowKit Go.Deep Go.Joins Go.Shelf
set_option linter.unusedVariables false
set_option linter.unusedSimpArgs false
set_option maxRecDepth 100000

section
variable {w : World} {t n n0 : Nat} {L : Lay} {T : Tr.T}
theorem gadd_any (h : Good w t L T n n0) (hn : n < 4096) (h0 : n0 ≤ w.heap.size) {u a : Int} (hu : Wf u) : Calls Try.prog 32 #[.pointer (some ⟨t, 0, none⟩), .int .i64 u, .int .i64 a] w fun e w' => e = .returned (.tuple #[.int .i64 (Tr.addI T u a), .int .i64 (Tr.addE T u a)]) ∧ ∃ L' n', Good w' t L' (Tr.addR T u a) n' n0 ∧ n' ≤ n + 1 ∧ Grow t L L' T (Tr.addR T u a) w w' ∧ Below n0 w w' := by
  refine (tadd_any h.inv hn hu).mono ?_
  rintro e w' ⟨rfl, L', n', hi, hl, hg⟩
  obtain ⟨g1, g2⟩ := h.step hi hg (h.fit.le (StyLe.addR _ _ _)) h0
  exact ⟨rfl, L', n', g1, hl, hg, g2⟩
theorem gmove_any (h : Good w t L T n n0) (h0 : n0 ≤ w.heap.size) {x u a : Int} (hx : Wf x) (hu : Wf u) : Calls Try.prog 31 #[.pointer (some ⟨t, 0, none⟩), .int .i64 x, .int .i64 u, .int .i64 a] w fun e w' => e = .returned (.int .i64 (Tr.movE T x u a)) ∧ ∃ L', Good w' t L' (Tr.movR T x u a) n n0 ∧ Grow t L L' T (Tr.movR T x u a) w w' ∧ Below n0 w w' := by
  refine (tmove_any h.inv hx hu).mono ?_
  rintro e w' ⟨rfl, L', hi, hg⟩
  obtain ⟨g1, g2⟩ := h.step hi hg (h.fit.le (StyLe.movR _ _ _ _)) h0
  exact ⟨rfl, L', g1, hg, g2⟩
theorem gremove_any (h : Good w t L T n n0) (h0 : n0 ≤ w.heap.size) {x : Int} (hx : Wf x) : Calls Try.prog 30 #[.pointer (some ⟨t, 0, none⟩), .int .i64 x] w fun e w' => e = .returned (.tuple #[.int .i64 (Tr.remI T x), .int .i64 (Tr.remE T x)]) ∧ ∃ L' n', Good w' t L' (Tr.remR T x) n' n0 ∧ n' ≤ n ∧ Grow t L L' T (Tr.remR T x) w w' ∧ Below n0 w w' := by
  refine (tremove_any h.inv hx).mono ?_
  rintro e w' ⟨rfl, L', n', hi, hl, hg⟩
  obtain ⟨g1, g2⟩ := h.step hi hg (h.fit.le (StyLe.remR _ _)) h0
  exact ⟨rfl, L', n', g1, hl, hg, g2⟩
theorem gset_any (h : Good w t L T n n0) (h0 : n0 ≤ w.heap.size) {x : Int} (hx : Wf x) {s : Re.St} (hs : Fits s) : Calls Try.prog 33 #[.pointer (some ⟨t, 0, none⟩), .int .i64 x, .agg (cells s)] w fun e w' => e = .returned (.int .i64 (setE T x s)) ∧ Good w' t L (setT T x s) n n0 ∧ Grow t L L T (setT T x s) w w' ∧ Below n0 w w' := by
  refine (tset_any h.inv.rep hx s).mono ?_
  rintro e w' ⟨rfl, hr, hg⟩
  obtain ⟨g1, g2⟩ := h.step (h.inv.set hr) hg (h.fit.setT _ hs) h0
  exact ⟨rfl, g1, hg, g2⟩
theorem gnew_any (w : World) : Calls Try.prog 11 #[] w fun e w' => (∃ t, e = .returned (.pointer (some ⟨t, 0, none⟩)) ∧ ∃ L, Good w' t L T0 1 w.heap.size) ∧ Below w.heap.size w w' := by
  refine (tnew_any w).mono ?_
  rintro e w' ⟨⟨t, rfl, L, hr, ho⟩, hb⟩
  refine ⟨⟨t, rfl, L, Good.new ⟨hr, ?_, ?_⟩ ho⟩, hb⟩
  · have hT : T0 0 = some ⟨-1, [], Re.zero⟩ := rfl
    have hz : ∀ x nd, T0 x = some nd → x = 0 ∧ nd = ⟨-1, [], Re.zero⟩ := fun x nd h => by
      unfold T0 at h
      split at h
      · cases h; exact ⟨by assumption, rfl⟩
      · cases h
    refine ⟨⟨_, hT, rfl⟩, fun x nd h => ?_, fun x nd h h0 => absurd (hz x nd h).1 h0, fun u p x h hx => ?_, fun u p h => ?_, fun x nd h => ?_⟩
    · rw [(hz x nd h).1]; omega
    · rw [(hz u p h).2] at hx; cases hx
    · rw [(hz u p h).2]; exact List.nodup_nil
    · rw [(hz x nd h).1]; exact ⟨0, by omega, .root hT⟩
  · decide +kernel
/-- all boxes, in their order -/
theorem gorder_any (h : Good w t L T n n0) : Calls Try.prog 26 #[.pointer (some ⟨t, 0, none⟩)] w fun e w' => (∃ v, e = .returned v ∧ Kept w' t L T v (Tr.ord T)) ∧ Below w.heap.size w w' := by
  refine (torder_any h.inv.rep h.inv.wf.fit0 (by have := h.inv.wf.ord_small; omega)).mono ?_
  rintro e w' ⟨⟨v, rfl, ho⟩, hb⟩
  exact ⟨⟨v, rfl, Kept.new h.inv.rep ho (Nat.le_refl _)⟩, hb⟩
/-- which boxes are in one -/
def kidsOf (T : Tr.T) (z : Int) : List Int := (T z).elim [] (·.kids)
def styOf (T : Tr.T) (z : Int) : Re.St := (T z).elim Re.zero (·.sty)
theorem gkids_any (h : Good w t L T n n0) {z : Int} (hz : Wf z) : Calls Try.prog 23 #[.pointer (some ⟨t, 0, none⟩), .int .i64 z] w fun e w' => (∃ v, e = .returned v ∧ Kept w' t L T v (kidsOf T z)) ∧ Below w.heap.size w w' := by
  refine (tkids_any h.inv.rep hz).mono ?_
  rintro e w' ⟨⟨v, rfl, ho⟩, hb⟩
  exact ⟨⟨v, rfl, Kept.new h.inv.rep ho (Nat.le_refl _)⟩, hb⟩
theorem gdepth_any (h : Good w t L T n n0) {z : Int} (hz : Wf z) : Calls Try.prog 18 #[.pointer (some ⟨t, 0, none⟩), .int .i64 z] w fun e w' => e = .returned (.int .i64 (Tr.dep T z)) ∧ w' = w := by
  cases hT : T z with
  | none => rw [Tr.dep_none hT]; exact tdepth_none h.inv.rep hz hT
  | some nd =>
    obtain ⟨d, h1, h2, h3⟩ := h.inv.wf.dep_some hT
    rw [h3]
    exact tdepth_some h.inv.rep (fun _ q => h.inv.wf.root_up q) h2 (by omega)
theorem dep_wf {T : Tr.T} (H : Tr.WF T) (z : Int) : -1 ≤ Tr.dep T z ∧ Tr.dep T z ≤ 63 := by
  cases hT : T z with
  | none => rw [Tr.dep_none hT]; omega
  | some nd => obtain ⟨d, h1, h2, h3⟩ := H.dep_some hT; omega
theorem up_wf {T : Tr.T} (H : Tr.WF T) (z : Int) : -1 ≤ upOf T z ∧ upOf T z < 4096 := by
  unfold upOf
  cases hT : T z with
  | none => simp
  | some nd =>
    simp only
    by_cases h0 : z = 0
    · rw [h0] at hT; rw [H.root_up hT]; omega
    · obtain ⟨p, hp, _⟩ := H.up z nd hT h0
      have := H.range _ _ hp
      omega
theorem style_wf {T : Tr.T} (h : FitsT T) (z : Int) : Fits (styOf T z) := by
  unfold styOf
  cases hT : T z with
  | none => exact fits_zero
  | some nd => exact h z nd hT
end

end Go.Proofs.Ytmjnlnnedjmcfaa.Fix
