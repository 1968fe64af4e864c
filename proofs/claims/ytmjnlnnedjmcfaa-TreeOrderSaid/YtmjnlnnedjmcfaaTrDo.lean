/- An act, done by a tree: the contract of do. -/
import Derived.Test.YtmjnlnnedjmcfaaTrFrame
namespace Go.Proofs.Ytmjnlnnedjmcfaa.Fix
open Go.ChangeShapes Go.WideShapes Go.ChangeAt Go.RowKit Go.Deep Go.Joins Go.Shelf
set_option linter.unusedVariables false
set_option linter.unusedSimpArgs false
set_option maxRecDepth 100000

/-! styles stay -/
def StyLe (T' T : Tr.T) : Prop := ∀ z nd, T' z = some nd → nd.sty = Re.zero ∨ ∃ q, T z = some q ∧ q.sty = nd.sty
theorem StyLe.refl (T : Tr.T) : StyLe T T := fun z nd h => .inr ⟨nd, h, rfl⟩
theorem StyLe.trans {T T' T'' : Tr.T} (h : StyLe T'' T') (k : StyLe T' T) : StyLe T'' T := fun z nd hz => by
  rcases h z nd hz with e | ⟨q, hq, e⟩
  · exact .inl e
  · rw [← e]; exact k z q hq
theorem StyLe.set {T : Tr.T} {x : Int} {p nd : Tr.Nd} (hx : T x = some p) (he : nd.sty = p.sty) : StyLe (Tr.set T x nd) T := fun z q hz => by
  by_cases e : z = x
  · subst e; rw [Tr.set_same] at hz; cases hz; exact .inr ⟨p, hx, he.symm⟩
  · rw [Tr.set_other _ _ e] at hz; exact .inr ⟨q, hz, rfl⟩
theorem StyLe.leave (T : Tr.T) (x : Int) : StyLe (Tr.leave T x) T := by
  unfold Tr.leave
  split
  · exact StyLe.refl _
  · split
    · exact StyLe.refl _
    · rename_i p hp; exact StyLe.set hp rfl
theorem StyLe.enter (T : Tr.T) (x u : Int) (i : Nat) : StyLe (Tr.enter T x u i) T := by
  unfold Tr.enter
  split
  · rename_i p nd hu hx
    have h1 : StyLe (Tr.set T u { p with kids := Tr.wi p.kids i x }) T := StyLe.set hu rfl
    intro z q hz
    by_cases e : z = x
    · subst e; rw [Tr.set_same] at hz; cases hz; exact .inr ⟨nd, hx, rfl⟩
    · rw [Tr.set_other _ _ e] at hz; exact h1 z q hz
  · exact StyLe.refl _
theorem StyLe.del (T : Tr.T) (l : List Int) : StyLe (Tr.del T l) T := fun z q hz => by
  unfold Tr.del at hz
  split at hz
  · cases hz
  · exact .inr ⟨q, hz, rfl⟩
theorem StyLe.addR (T : Tr.T) (u a : Int) : StyLe (Tr.addR T u a) T := by
  unfold Tr.addR
  split
  · unfold Tr.addT
    refine (StyLe.enter _ _ _ _).trans fun z q hz => ?_
    by_cases e : z = Tr.free T
    · subst e; rw [Tr.set_same] at hz; cases hz; exact .inl rfl
    · rw [Tr.set_other _ _ e] at hz; exact .inr ⟨q, hz, rfl⟩
  · exact StyLe.refl _
theorem StyLe.remR (T : Tr.T) (x : Int) : StyLe (Tr.remR T x) T := by
  unfold Tr.remR
  split
  · exact (StyLe.del _ _).trans (StyLe.leave _ _)
  · exact StyLe.refl _
theorem StyLe.movR (T : Tr.T) (x u a : Int) : StyLe (Tr.movR T x u a) T := by
  unfold Tr.movR
  split
  · exact (StyLe.enter _ _ _ _).trans (StyLe.leave _ _)
  · exact StyLe.refl _
theorem FitsT.le {T T' : Tr.T} (h : FitsT T) (k : StyLe T' T) : FitsT T' := fun z nd hz => by
  rcases k z nd hz with e | ⟨q, hq, e⟩
  · rw [e]; exact fits_zero
  · rw [← e]; exact h z q hq
theorem FitsT.setT {T : Tr.T} (h : FitsT T) (z : Int) {s : Re.St} (hs : Fits s) : FitsT (setT T z s) := by
  unfold Fix.setT
  split
  · unfold Tr.styT
    split
    · exact h
    · intro y nd hy
      by_cases e : y = z
      · subst e; rw [Tr.set_same] at hy; cases hy; exact hs
      · rw [Tr.set_other _ _ e] at hy; exact h y nd hy
  · exact h

theorem setT_alike (T : Tr.T) (z : Int) (s : Re.St) : Tr.Alike T (setT T z s) := by
  unfold Fix.setT
  split
  · exact Tr.alike_sty T z s
  · exact fun _ => rfl
theorem alike_sub {t s : Tr.T} (H : Tr.WF t) (h : Tr.Alike t s) {x : Int} {nd : Tr.Nd} (hx : t x = some nd) : Tr.sub s 64 x = Tr.sub t 64 x ∧ Tr.hgt s 64 x = Tr.hgt t 64 x :=
  ((H.fit64 hx).congr fun y _ nd hy => by obtain ⟨nd', h1, _, h2⟩ := h.some hy; exact ⟨nd', h1, h2⟩).2
theorem alike_ord {t s : Tr.T} (H : Tr.WF t) (h : Tr.Alike t s) : Tr.ord s = Tr.ord t := by
  obtain ⟨nd, h1, _⟩ := H.root
  exact (alike_sub H h h1).1
theorem Inv.set {W W' : World} {t n : Nat} {L : Lay} {T : Tr.T} (h : Inv W t L T n) {z : Int} {s : Re.St} (hr : Rep W' t L (setT T z s) n) : Inv W' t L (setT T z s) n :=
  ⟨hr, h.wf.alike (setT_alike T z s), by rw [alike_ord h.wf (setT_alike T z s)]; exact h.num⟩

/-- a tree that a law has made -/
structure Good (W : World) (t : Nat) (L : Lay) (T : Tr.T) (n n0 : Nat) : Prop where
  inv : Inv W t L T n
  own : ∀ b, owned t L T b → n0 ≤ b
  fit : FitsT T
theorem Good.step {W W' : World} {t n n' n0 : Nat} {L L' : Lay} {T T' : Tr.T} (h : Good W t L T n n0) (hi : Inv W' t L' T' n') (hg : Grow t L L' T T' W W') (hf : FitsT T') (h0 : n0 ≤ W.heap.size) : Good W' t L' T' n' n0 ∧ Below n0 W W' :=
  ⟨⟨hi, fun b hb => (hg.2 b hb).elim (h.own b) fun q => Nat.le_trans h0 q, hf⟩, hg.1.below h0 fun b hb q => absurd (h.own b q) (by omega)⟩
theorem Good.after {W W' : World} {t n n0 : Nat} {L : Lay} {T : Tr.T} (h : Good W t L T n n0) (hb : Below W.heap.size W W') : Good W' t L T n n0 := ⟨⟨h.inv.rep.after hb, h.inv.wf, h.inv.num⟩, h.own, h.fit⟩
theorem Inv.after {W W' : World} {t n : Nat} {L : Lay} {T : Tr.T} (h : Inv W t L T n) (hb : Below W.heap.size W W') : Inv W' t L T n := ⟨h.rep.after hb, h.wf, h.num⟩
theorem Good.new {W W' : World} {t : Nat} {L : Lay} (h : Inv W' t L T0 1) (hb : ∀ b, owned t L T0 b → W.heap.size ≤ b) : Good W' t L T0 1 W.heap.size := ⟨h, hb, fun z nd hz => by
  unfold T0 at hz
  split at hz
  · cases hz; exact fits_zero
  · cases hz⟩

/-- what an act does -/
noncomputable def doT (T : Tr.T) (x : Actn) : Tr.T := if x.k.tmod 5 = 2 then Tr.remR T x.a else if x.k.tmod 5 = 3 then Tr.movR T x.a x.b x.c else if x.k.tmod 5 = 4 then setT T x.a x.s else Tr.addR T x.a x.b

set_option maxHeartbeats 4000000 in
theorem do_any {w : World} {t n n0 : Nat} {L : Lay} {T : Tr.T} (h : Good w t L T n n0) (hn : n < 4096) (h0 : n0 ≤ w.heap.size) {x : Actn} (hx : AFits x) : Calls Try.prog 28 #[.pointer (some ⟨t, 0, none⟩), .agg (acells x)] w fun e w' => (∃ v, e = .returned v) ∧ ∃ L' n', Good w' t L' (doT T x) n' n0 ∧ n' ≤ n + 1 ∧ Below n0 w w' := by
  have hA : At (w.alloc (.cells (acells x) 45)) w.heap.size (.cells (acells x) 45) := At.new _ _
  have hB : Below w.heap.size w (w.alloc (.cells (acells x) 45)) := Below.alloc' (Below.refl _ _) _
  have h1 := h.after hB
  have hs : StyAt (w.alloc (.cells (acells x) 45)) w.heap.size 4 x.s := fun j hj => by rw [hA.cell, acells_sty x hj]
  have c0 : (w.alloc (.cells (acells x) 45)).cell? ⟨w.heap.size, 0, none⟩ = some (.int .i64 x.k) := by rw [hA.cell, acells_int x (by omega)]; rfl
  have c1 : (w.alloc (.cells (acells x) 45)).cell? ⟨w.heap.size, 1, none⟩ = some (.int .i64 x.a) := by rw [hA.cell, acells_int x (by omega)]; rfl
  have c2 : (w.alloc (.cells (acells x) 45)).cell? ⟨w.heap.size, 2, none⟩ = some (.int .i64 x.b) := by rw [hA.cell, acells_int x (by omega)]; rfl
  have c3 : (w.alloc (.cells (acells x) 45)).cell? ⟨w.heap.size, 3, none⟩ = some (.int .i64 x.c) := by rw [hA.cell, acells_int x (by omega)]; rfl
  have hB0 := hB.mono h0
  have hs1 : n0 ≤ (w.alloc (.cells (acells x) 45)).heap.size := by simp; omega
  have HS := Lib.hid hs
  clear h hB hA hs
  have kR := tremove_any h1.inv hx.a
  have kM := tmove_any h1.inv (a := x.c) hx.a hx.b
  have kA := tadd_any h1.inv hn (a := x.b) hx.a
  have kS := tset_any h1.inv.rep hx.a x.s
  have HG := Lib.hid h1
  have HX := Lib.hid hx
  clear h1 hx
  go_enter Try.func28, Try.ntmps28
  go_upto_region 1 with (fail)
  generalize w.alloc (.cells (acells x) 45) = w1 at *
  by_cases e2 : x.k.tmod 5 = 2
  · have hd : Hid (doT T x = Tr.remR T x.a) := Lib.hid (by unfold doT; rw [if_pos e2])
    go_wp2_with (go_at_call 30; (with_reducible refine kR.mono ?_); rintro e w' ⟨rfl, L', n', hi, hl, hg⟩)
    refine bodyPost_end (results_none rfl _ _ _) rfl ?_
    rw [hd.out]
    obtain ⟨g1, g2⟩ := HG.out.step hi hg (HG.out.fit.le (StyLe.remR _ _)) hs1
    exact ⟨⟨_, rfl⟩, L', n', g1, by omega, hB0.trans g2⟩
  by_cases e3 : x.k.tmod 5 = 3
  · have hd : Hid (doT T x = Tr.movR T x.a x.b x.c) := Lib.hid (by unfold doT; rw [if_neg e2, if_pos e3])
    go_wp2_with (go_at_call 31; (with_reducible refine kM.mono ?_); rintro e w' ⟨rfl, L', hi, hg⟩)
    refine bodyPost_end (results_none rfl _ _ _) rfl ?_
    rw [hd.out]
    obtain ⟨g1, g2⟩ := HG.out.step hi hg (HG.out.fit.le (StyLe.movR _ _ _ _)) hs1
    exact ⟨⟨_, rfl⟩, L', n, g1, by omega, hB0.trans g2⟩
  by_cases e4 : x.k.tmod 5 = 4
  · have hd : Hid (doT T x = setT T x.a x.s) := Lib.hid (by unfold doT; rw [if_neg e2, if_neg e3, if_pos e4])
    go_wp2_with (first | (refine wpList_load_sty (by rfl) _ rfl rfl HS.out ?_) | (go_at_call 33; (with_reducible refine kS.mono ?_); rintro e w' ⟨rfl, hi, hg⟩))
    refine bodyPost_end (results_none rfl _ _ _) rfl ?_
    rw [hd.out]
    obtain ⟨g1, g2⟩ := HG.out.step (HG.out.inv.set hi) hg (HG.out.fit.setT _ HX.out.s) hs1
    exact ⟨⟨_, rfl⟩, L, n, g1, by omega, hB0.trans g2⟩
  have hd : Hid (doT T x = Tr.addR T x.a x.b) := Lib.hid (by unfold doT; rw [if_neg e2, if_neg e3, if_neg e4])
  go_wp2_with (go_at_call 32; (with_reducible refine kA.mono ?_); rintro e w' ⟨rfl, L', n', hi, hl, hg⟩)
  refine bodyPost_end (results_none rfl _ _ _) rfl ?_
  rw [hd.out]
  obtain ⟨g1, g2⟩ := HG.out.step hi hg (HG.out.fit.le (StyLe.addR _ _ _)) hs1
  exact ⟨⟨_, rfl⟩, L', n', g1, hl, hB0.trans g2⟩

end Go.Proofs.Ytmjnlnnedjmcfaa.Fix
