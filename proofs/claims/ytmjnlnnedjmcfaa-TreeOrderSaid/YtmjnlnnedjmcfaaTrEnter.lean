/- The contracts of leave and enter of a tree. -/
import Derived.Test.YtmjnlnnedjmcfaaTrNew
namespace Go.Proofs.Ytmjnlnnedjmcfaa.Fix
open Go.ChangeShapes Go.WideShapes Go.ChangeAt Go.RowKit Go.Shelf
set_option linter.unusedVariables false
set_option linter.unusedSimpArgs false
set_option maxRecDepth 100000

theorem tleave_any {w : World} {t n : Nat} {L : Lay} {T : Tr.T} (h : Rep w t L T n) {x : Int} {nd p : Tr.Nd} (hx : T x = some nd) (hp : T nd.up = some p) {i : Nat} (hi : p.kids[i]? = some x) (hn : p.kids.Nodup) :
    Calls Try.prog 42 #[.pointer (some ⟨t, 0, none⟩), .int .i64 x] w fun e w' => (∃ v, e = .returned v) ∧ ∃ L', Rep w' t L' (Tr.leave T x) n ∧ Grow t L L' T (Tr.leave T x) w w' := by
  obtain ⟨hlt, hie⟩ := List.getElem?_eq_some_iff.1 hi
  have hpk := (h.small nd.up p hp).2.2.2.2
  have hw : Wf x := h.wf hx
  have hwu : Wf nd.up := h.wf hp
  have hrow := h.row nd.up p hp
  have hf : ∀ j, j < i → p.kids[j]? ≠ some x := fun j hj e => by
    obtain ⟨hj2, he⟩ := List.getElem?_eq_some_iff.1 e
    have := (List.getElem_inj hn).1 (he.trans hie.symm)
    omega
  have key2 := fun W (hb : KS W (L.sl nd.up) p.kids) => index_any hb hi hf
  have hleave : Tr.leave T x = Tr.set T nd.up { p with kids := Tr.wo p.kids x } := by unfold Tr.leave; rw [hx]; simp only [hp]
  have hwo := Tr.wo_at hn hi
  rw [hleave]
  rcases hrow.cases with ⟨_, h0⟩ | ⟨g, c, hsl, hrw⟩
  · rw [h0] at hlt; simp at hlt
  rw [hsl] at key2
  have key3 := fun W (hb : Rw W g c p.kids) => delete_any (w := W) hb (i := i) (j := i + 1) (by omega) (by omega)
  clear hie
  generalize hlen : p.kids.length = m at *
  have hup : Hid (upOf T x = nd.up) := Lib.hid (by unfold upOf; rw [hx])
  have key1 := fun W (hr : Rep W t L T n) => tup_any hr hw
  rw [hup.out] at key1
  generalize hu : nd.up = u at *
  have HP := Lib.hid hp
  have HR := Lib.hid h
  have HK2 := Lib.hid key2
  have HK3 := Lib.hid key3
  have HSL := Lib.hid hsl
  have HWO := Lib.hid hwo
  have HLEN := Lib.hid hlen
  have hw1 : IntKind.i64.wrap ((i : Int) + 1) = ((i + 1 : Nat) : Int) := by rw [IntWalk.i64_in _ (by omega)]; omega
  have hS0 : Rep w.drew t L T n := h.after (Below.refl _ w).drew
  clear h key2 key3 hsl hwo hrow hf hleave hi hn hp hx hrw hlen
  go_enter Try.func42, Try.ntmps42
  go_upto_region 0 with (fail)
  refine Drawn.wp_region_gen (S := (fun W' => W'.cell? ⟨t, 0, none⟩ = some (.map (some L.mb)) ∧ Rep W' t L T n ∧ W' = w.drew)) 9 (by kernel_rfl) ?_ ?_
  · exact ⟨hS0.cT, hS0, rfl⟩
  intro hS1
  (refine Drawn.gen_take (i := 0) rfl (by kernel_rfl) (by kernel_rfl) (by kernel_rfl) (by kernel_rfl) (by omega) (by assumption) (by first | exact .inr ⟨by rfl, rfl⟩ | exact .inl ⟨by rfl, by intro w2 hS; go_simp; first | done | with_reducible rfl | exact ⟨rfl, rfl⟩⟩) ?_; (try simp only [Act.put, List.setIfInBounds_toArray, List.set_cons_zero, List.set_cons_succ]))
  (refine Drawn.gen_take (i := 1) rfl (by kernel_rfl) (by kernel_rfl) (by kernel_rfl) (by kernel_rfl) (by omega) (by first | assumption | exact hS0) (by first | exact .inr ⟨by rfl, rfl⟩ | exact .inl ⟨by rfl, by intro w2 hS; obtain ⟨ca, cb, cc⟩ := hS; go_simp; first | done | with_reducible rfl | exact ⟨rfl, rfl⟩⟩) ?_; (try simp only [Act.put, List.setIfInBounds_toArray, List.set_cons_zero, List.set_cons_succ]))
  (refine Drawn.gen_take (i := 2) rfl (by kernel_rfl) (by kernel_rfl) (by kernel_rfl) (by kernel_rfl) (by omega) (by first | assumption | exact hS0) (by first | exact .inr ⟨by rfl, rfl⟩ | exact .inl ⟨by rfl, by intro w2 hS; obtain ⟨ca, cb, cc⟩ := hS; go_simp; first | done | with_reducible rfl | exact ⟨rfl, rfl⟩⟩) ?_; (try simp only [Act.put, List.setIfInBounds_toArray, List.set_cons_zero, List.set_cons_succ]))
  (refine Drawn.gen_take (i := 3) rfl (by kernel_rfl) (by kernel_rfl) (by kernel_rfl) (by kernel_rfl) (by omega) (by first | assumption | exact hS0) (by first | exact .inr ⟨by rfl, rfl⟩ | exact .inl ⟨by rfl, by intro w2 hS; obtain ⟨ca, cb, cc⟩ := hS; go_simp; first | done | with_reducible rfl | exact ⟨rfl, rfl⟩⟩) ?_; (try simp only [Act.put, List.setIfInBounds_toArray, List.set_cons_zero, List.set_cons_succ]))
  (refine Drawn.gen_take (i := 4) rfl (by kernel_rfl) (by kernel_rfl) (by kernel_rfl) (by kernel_rfl) (by omega) (by assumption) (by first | exact .inr ⟨by rfl, rfl⟩ | exact .inl ⟨by rfl, by intro w2 hS; go_simp; first | done | with_reducible rfl | exact ⟨rfl, rfl⟩⟩) ?_; (try simp only [Act.put, List.setIfInBounds_toArray, List.set_cons_zero, List.set_cons_succ]))
  (refine Drawn.gen_take (i := 5) rfl (by kernel_rfl) (by kernel_rfl) (by kernel_rfl) (by kernel_rfl) (by omega) (by assumption) (by first | exact .inr ⟨by rfl, rfl⟩ | exact .inl ⟨by rfl, by intro w2 hS; go_simp; first | done | with_reducible rfl | exact ⟨rfl, rfl⟩⟩) ?_; (try simp only [Act.put, List.setIfInBounds_toArray, List.set_cons_zero, List.set_cons_succ]))
  refine Drawn.gen_one (i := 6) (by kernel_rfl) rfl (by rfl) ?_
  refine Drawn.Step.call (by go_simp; first | done | with_reducible rfl | exact ⟨rfl, rfl⟩) (key1 _ hS1.2.1) ?_
  rintro e w4 ⟨rfl, rfl⟩
  refine ⟨_, rfl, fun _ => hS1, ?_⟩
  (try simp only [Act.put, List.setIfInBounds_toArray, List.set_cons_zero, List.set_cons_succ])
  (refine Drawn.gen_take (i := 7) rfl (by kernel_rfl) (by kernel_rfl) (by kernel_rfl) (by kernel_rfl) (by omega) (by assumption) (reads_lookup (by rfl) rfl rfl rfl (fun W h => h.2.1.look_some HP.out)) ?_; (try simp only [Act.put, List.setIfInBounds_toArray, List.set_cons_zero, List.set_cons_succ]))
  (refine Drawn.gen_take (i := 8) rfl (by kernel_rfl) (by kernel_rfl) (by kernel_rfl) (by kernel_rfl) (by omega) (by assumption) (by first | exact .inr ⟨by rfl, rfl⟩ | exact .inl ⟨by rfl, by intro w2 hS; go_simp; first | done | with_reducible rfl | exact ⟨rfl, rfl⟩⟩) ?_; (try simp only [Act.put, List.setIfInBounds_toArray, List.set_cons_zero, List.set_cons_succ]))
  refine Drawn.gen_end (by kernel_rfl) ?_
  clear hS1
  generalize hW : w.drew = w1 at *
  have hD : Below w.heap.size w w1 := hW ▸ (Below.refl _ _).drew
  have c1 := hS0.cKids HP.out
  rw [HSL.out] at c1
  have k2 := HK2.out w1 (HSL.out ▸ hS0.row u p HP.out)
  have k3 := HK3.out w1 (by
    have := hS0.row u p HP.out
    rw [HSL.out] at this
    rcases this.cases with ⟨e, _⟩ | ⟨g', c', e, hr⟩
    · cases e
    · injection e with e1 e2 e3; injection e1 with e1; injection e1 with e1; subst e1; subst e3; exact hr)
  rw [show ((i + 1 : Nat) : Int) = (i : Int) + 1 by omega] at k3
  have hne : g ≠ L.bl u := fun e => hS0.sl_bl HP.out HP.out (by rw [HSL.out]; exact congrArg some e)
  clear hW key1
  go_wp2_with (first | (go_at_call 55; (with_reducible refine k2.mono ?_); rintro e w' ⟨rfl, rfl⟩) | (go_at_call 56; (with_reducible refine k3.mono ?_); rintro e w2 ⟨rfl, hrw2, hO2⟩; have c2 : w2.cell? ⟨L.bl u, 1, none⟩ = some (.slice (some ⟨g, 0, none⟩) m c) := (by rw [((hS0.box u p HP.out).out (fun e => hne e.symm) hO2).cell, bcells_kids, HSL.out]); have z2 := ((hS0.box u p HP.out).out (fun e => hne e.symm) hO2).thaw 1))
  refine bodyPost_end (results_none rfl _ _ _) rfl ?_
  refine ⟨⟨_, rfl⟩, ?_⟩
  rw [HWO.out]
  have hm := HLEN.out
  have hl : (List.take i p.kids ++ List.drop (i + 1) p.kids).length = i + (m - (i + 1)) := by simp only [List.length_append, List.length_take, List.length_drop]; omega
  have hks := hrw2.ks
  rw [hl] at hks
  obtain ⟨r1, r2⟩ := hS0.setKids HP.out (hO2.mono fun b _ (q : b = g) => by rw [HSL.out, q]; rfl) hks (by rw [HSL.out]; exact .inl rfl) (by omega)
  exact ⟨_, r1, (Grow.of_below hD).trans r2⟩

theorem tenter_any {w : World} {t n : Nat} {L : Lay} {T : Tr.T} (h : Rep w t L T n) {x u : Int} {nd p : Tr.Nd} (hx : T x = some nd) (hu : T u = some p) (hne : u ≠ x) {i : Nat} (hi : i ≤ p.kids.length) (hl : p.kids.length + 1 ≤ 4096) :
    Calls Try.prog 46 #[.pointer (some ⟨t, 0, none⟩), .int .i64 x, .int .i64 u, .int .i64 (i : Int)] w fun e w' => (∃ v, e = .returned v) ∧ ∃ L', Rep w' t L' (Tr.enter T x u i) n ∧ Grow t L L' T (Tr.enter T x u i) w w' := by
  have hent : Tr.enter T x u i = Tr.set (Tr.set T u { p with kids := Tr.wi p.kids i x }) x { nd with up := u } := by unfold Tr.enter; rw [hx, hu]
  rw [hent]
  have hlw : (Tr.wi p.kids i x).length ≤ 4096 := by simp only [Tr.wi, List.length_append, List.length_take, List.length_cons, List.length_drop]; omega
  have hur := h.small u p hu
  have hl1 := h.look_some hu
  have c0 := h.cT
  have c1 := h.cKids hu
  have hB : Below w.heap.size w (w.alloc (.cells #[.int .i64 x] 3)) := Below.alloc' (Below.refl _ _) _
  have h1 := h.after hB
  have hA : At (w.alloc (.cells #[.int .i64 x] 3)) w.heap.size (.cells #[.int .i64 x] 3) := At.new _ _
  have hvb : (L.sl u).ownBlock ≠ some w.heap.size := fun e => by have := h.lt (.inr (.inr ⟨u, p, hu, .inr e⟩)); omega
  have key2 := insert_any (h1.row u p hu) hi (by omega) hA hvb
  have HR1 := Lib.hid h1
  have HB := Lib.hid hB
  have HU := Lib.hid hu
  have HX := Lib.hid hx
  have HLW := Lib.hid hlw
  have HUR := Lib.hid hur
  have HNE := Lib.hid hne
  clear h h1 hB hu hx hlw hur hA hvb hi hl hent hne
  go_enter Try.func46, Try.ntmps46
  go_upto_region 2 with (first | (go_at_call 57; (with_reducible refine key2.mono ?_); rintro e w2 ⟨v2, rfl, hks, hO, hloc⟩; obtain ⟨A, c, hs, _⟩ := hks.ints; subst hs; generalize hm : (Tr.wi p.kids i x).length = m at *; have HM := Lib.hid hm; have HKS := Lib.hid hks; have HO := Lib.hid hO; have HLOC := Lib.hid hloc; clear hm hks hO hloc; have b2 := ((HR1.out.box u p HU.out).out (HR1.out.sl_bl HU.out HU.out) HO.out).thaw 1; have c2 : w2.cell? ⟨L.bl u, 1, none⟩ = some (L.sl u) := (by rw [((HR1.out.box u p HU.out).out (HR1.out.sl_bl HU.out HU.out) HO.out).cell, bcells_kids])))
  obtain ⟨r2, g2⟩ := HR1.out.setKids HU.out HO.out HKS.out (HLOC.out.elim .inl fun e => .inr (.inr ⟨_, e, Nat.le_refl _⟩)) (by rw [HM.out]; exact HLW.out)
  have hx2 : Tr.set T u { p with kids := Tr.wi p.kids i x } x = some nd := by rw [Tr.set_other _ _ (fun e => HNE.out e.symm)]; exact HX.out
  have l2 := r2.look_some hx2
  have t2 := r2.cT
  have u2 := r2.cUp hx2
  have z2 := (r2.box x nd hx2).thaw 0
  obtain ⟨r3, g3⟩ := r2.setUp (u := u) hx2 (by have := HUR.out; omega)
  have R3 := Lib.hid (show ∃ L', Rep ((w2.setCell ⟨L.bl u, 1, none⟩ (.slice A m c)).setCell ⟨L.bl x, 0, none⟩ (.int .i64 u)) t L' _ n ∧ Grow t L L' T _ w ((w2.setCell ⟨L.bl u, 1, none⟩ (.slice A m c)).setCell ⟨L.bl x, 0, none⟩ (.int .i64 u)) from ⟨_, r3, (Grow.of_below HB.out).trans (g2.trans g3)⟩)
  clear r2 g2 hx2 r3 g3 HM HLW HLOC HO HKS HB HR1 HU HX HUR HNE b2 c2 c0 c1 hl1 key2
  dsimp only at l2 t2 u2 z2
  generalize w2.setCell ⟨L.bl u, 1, none⟩ (.slice A m c) = w3 at *
  go_wp2
  refine bodyPost_end (results_none rfl _ _ _) rfl ?_
  exact ⟨⟨_, rfl⟩, R3.out⟩

end Go.Proofs.Ytmjnlnnedjmcfaa.Fix
