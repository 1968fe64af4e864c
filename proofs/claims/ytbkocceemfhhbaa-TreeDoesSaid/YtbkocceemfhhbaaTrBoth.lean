/- A tree of the code's and one of the document's, side by side: an act done by both. -/
import Derived.Test.YtbkocceemfhhbaaTrDocMov
namespace Go.Proofs.Ytbkocceemfhhbaa.Fix
open Go.ChangeShapes Go.WideShapes Go.ChangeAt Go.RowKit Go.Deep Go.Joins Go.Shelf
set_option linter.unusedVariables false
set_option linter.unusedSimpArgs false
set_option maxRecDepth 100000

/-- the document's Add, all ways -/
theorem dadd_any {w : World} {r g c m : Nat} {K : Int → Value} {T : Tr.T} (h : Doc w r g c m K T) (H : Tr.WF T) (hn : (Tr.ord T).length < 4096) (hmm : m + 1 ≤ 4096) (u a : Int) : Calls Try.prog 37 #[.pointer (some ⟨r, 0, none⟩), .int .i64 u, .int .i64 a] w fun e w' => e = .returned (.tuple #[.int .i64 (Tr.addI T u a), .int .i64 (Tr.addE T u a)]) ∧ ∃ g' c' m' K', Doc w' r g' c' m' K' (Tr.addR T u a) ∧ m' ≤ m + 1 ∧ DG r g K T w w' g' K' (Tr.addR T u a) := by
  by_cases hE : Tr.addE T u a = 0
  · have hI : Tr.addI T u a = Tr.free T := by unfold Tr.addI; rw [if_pos hE]
    have hR : Tr.addR T u a = Tr.addT T (Tr.free T) u a.toNat := by unfold Tr.addR; rw [if_pos hE]
    rw [hI, hR, hE]
    unfold Tr.addE at hE
    cases hu : T u with
    | none => rw [hu] at hE; cases hE
    | some p =>
      rw [hu] at hE
      dsimp only at hE
      split at hE
      · cases hE
      · split at hE
        · cases hE
        · rename_i h1 h2
          obtain ⟨d, h3, h4, h5⟩ := H.dep_some hu
          obtain ⟨hfr, _⟩ := H.free_is
          obtain ⟨k, hk⟩ : ∃ k : Nat, Tr.free T = k := ⟨(Tr.free T).toNat, by have := hfr.1; omega⟩
          obtain ⟨i, rfl⟩ : ∃ i : Nat, a = i := ⟨a.toNat, by omega⟩
          rw [hk] at hfr
          rw [hk, Int.toNat_natCast]
          have hkm : k < m ∨ k = m := by
            rcases Nat.lt_trichotomy k m with q | q | q
            · exact .inl q
            · exact .inr q
            · have h6 := hfr.2.2 (m : Int) (by omega) (by omega)
              cases e : T (m : Int) with
              | none => exact absurd e h6
              | some nd => have := h.range _ nd e; omega
          rcases hkm with hkm | hkm
          · exact dadd_keep h H hn hmm hu rfl (by omega) h4 (by omega) hfr hkm
          · exact dadd_grow h H hn hmm hu rfl (by omega) h4 (by omega) hfr hkm
  · refine (dadd_no h H hn hE).mono ?_
    rintro e w' ⟨rfl, hd, hg⟩
    exact ⟨rfl, g, c, m, K, hd, by omega, hg⟩

/-- a law's two trees: T the code's, U the document's -/
structure Two (W : World) (t r g c m n n0 : Nat) (L : Lay) (K : Int → Value) (T U : Tr.T) : Prop where
  good : Good W t L T n n0
  doc : Doc W r g c m K U
  own : ∀ b, downed r g K U b → n0 ≤ b
  apart : ∀ b, owned t L T b → ¬ downed r g K U b

section
variable {W W' : World} {t r g c m n n0 : Nat} {L : Lay} {K : Int → Value} {T U : Tr.T}
theorem Two.after (h : Two W t r g c m n n0 L K T U) (hb : Below W.heap.size W W') : Two W' t r g c m n n0 L K T U := ⟨h.good.after hb, h.doc.after hb, h.own, h.apart⟩
theorem Two.code {n' : Nat} {L' : Lay} {T' : Tr.T} (h : Two W t r g c m n n0 L K T U) (hg : Good W' t L' T' n' n0) (k : Grow t L L' T T' W W') : Two W' t r g c m n' n0 L' K T' U :=
  ⟨hg, h.doc.out (M := owned t L T) (fun b hb q => h.apart b q hb) k.1, h.own, fun b hb hd => (k.2 b hb).elim (fun q => h.apart b q hd) fun q => absurd (h.doc.lt hd) (by omega)⟩
theorem Two.ref {g' c' m' : Nat} {K' : Int → Value} {U' : Tr.T} (h : Two W t r g c m n n0 L K T U) (hd : Doc W' r g' c' m' K' U') (k : DG r g K U W W' g' K' U') (h0 : n0 ≤ W.heap.size) : Two W' t r g' c' m' n n0 L K' T U' ∧ Below n0 W W' :=
  ⟨⟨⟨⟨h.good.inv.rep.out (M := downed r g K U) (fun b hb q => h.apart b hb q) k.1, h.good.inv.wf, h.good.inv.num⟩, h.good.own, h.good.fit⟩, hd, fun b hb => (k.2 b hb).elim (h.own b) fun q => Nat.le_trans h0 q, fun b hb hd' => (k.2 b hd').elim (h.apart b hb) fun q => absurd (h.good.inv.rep.lt hb) (by omega)⟩,
   k.1.below h0 fun b hb q => absurd (h.own b q) (by omega)⟩
end

set_option maxHeartbeats 8000000 in
theorem both_any {w : World} {t r g c m n n0 : Nat} {L : Lay} {K : Int → Value} {T : Tr.T} (h : Two w t r g c m n n0 L K T T) (hn : n < 4096) (hm : m + 1 ≤ 4096) (h0 : n0 ≤ w.heap.size) {x : Actn} (hx : AFits x) : Calls Try.prog 13 #[.pointer (some ⟨t, 0, none⟩), .pointer (some ⟨r, 0, none⟩), .agg (acells x)] w fun e w' => e = .returned (.bool true) ∧ ∃ L' g' c' m' n' K', Two w' t r g' c' m' n' n0 L' K' (doT T x) (doT T x) ∧ n' ≤ n + 1 ∧ m' ≤ m + 1 ∧ Below n0 w w' := by
  have hA : At (w.alloc (.cells (acells x) 45)) w.heap.size (.cells (acells x) 45) := At.new _ _
  have hB : Below w.heap.size w (w.alloc (.cells (acells x) 45)) := Below.alloc' (Below.refl _ _) _
  have h1 := h.after hB
  have hB0 := hB.mono h0
  have hs1 : n0 ≤ (w.alloc (.cells (acells x) 45)).heap.size := by simp; omega
  have hnum : (Tr.ord T).length < 4096 := by rw [h.good.inv.num]; exact hn
  have H := h.good.inv.wf
  have hob : ¬ owned t L T w.heap.size := fun q => absurd (h.good.inv.rep.lt q) (by omega)
  have hlt : w.heap.size < (w.alloc (.cells (acells x) 45)).heap.size := by simp
  have HA := Lib.hid hA
  clear h hB hA
  have kR := gremove_any h1.good hs1 hx.a
  have kM := gmove_any h1.good hs1 (a := x.c) hx.a hx.b
  have kA := gadd_any h1.good hn hs1 (a := x.b) hx.a
  have kS := gset_any h1.good hs1 hx.a hx.s
  have dR := Lib.hid fun W (h : Doc W r g c m K T) => dremove_any h H x.a
  have dM := Lib.hid fun W (h : Doc W r g c m K T) => dmove_any h H x.a x.b x.c
  have dA := Lib.hid fun W (h : Doc W r g c m K T) => dadd_any h H hnum hm x.a x.b
  have dS := Lib.hid fun W (h : Doc W r g c m K T) => dset_any h x.a x.s
  have HG := Lib.hid h1
  have HX := Lib.hid hx
  -- what is known of the act behind the code's call
  have HAct : Hid (∀ (W : World) (L' : Lay) (T' : Tr.T), Grow t L L' T T' (w.alloc (.cells (acells x) 45)) W → At W w.heap.size (.cells (acells x) 45)) := Lib.hid fun W L' T' k => HA.out.out hob k.1
  clear h1 hx
  generalize hI1 : Tr.remI T x.a = rI at kR dR
  generalize hE1 : Tr.remE T x.a = rE at kR dR
  generalize hI2 : Tr.movE T x.a x.b x.c = mE at kM dM
  generalize hI3 : Tr.addI T x.a x.b = aI at kA dA
  generalize hE3 : Tr.addE T x.a x.b = aE at kA dA
  generalize hI4 : setE T x.a x.s = sE at kS dS
  clear hI1 hE1 hI2 hI3 hE3 hI4
  have c0 : (w.alloc (.cells (acells x) 45)).cell? ⟨w.heap.size, 0, none⟩ = some (.int .i64 x.k) := by rw [HA.out.cell, acells_int x (by omega)]; rfl
  have c1 : (w.alloc (.cells (acells x) 45)).cell? ⟨w.heap.size, 1, none⟩ = some (.int .i64 x.a) := by rw [HA.out.cell, acells_int x (by omega)]; rfl
  have c2 : (w.alloc (.cells (acells x) 45)).cell? ⟨w.heap.size, 2, none⟩ = some (.int .i64 x.b) := by rw [HA.out.cell, acells_int x (by omega)]; rfl
  have c3 : (w.alloc (.cells (acells x) 45)).cell? ⟨w.heap.size, 3, none⟩ = some (.int .i64 x.c) := by rw [HA.out.cell, acells_int x (by omega)]; rfl
  have hs : Hid (StyAt (w.alloc (.cells (acells x) 45)) w.heap.size 4 x.s) := Lib.hid fun j hj => by rw [HA.out.cell, acells_sty x hj]
  go_enter Try.func13, Try.ntmps13
  go_upto_region 1 with (fail)
  generalize w.alloc (.cells (acells x) 45) = w1 at *
  by_cases e2 : x.k.tmod 5 = 2
  · have hd : Hid (doT T x = Tr.remR T x.a) := Lib.hid (by unfold doT; rw [if_pos e2])
    clear kM kA kS dM dA dS
    go_upto_region 5 with (first | (go_at_call 30; (with_reducible refine kR.mono ?_); rintro e w2 ⟨rfl, L', n', hi, hl, hg, hb2⟩; have TW2 := Lib.hid (HG.out.code hi hg); have hA2 := HAct.out _ _ _ hg; have c12 : w2.cell? ⟨w.heap.size, 1, none⟩ = some (.int .i64 x.a) := (by rw [hA2.cell, acells_int x (by omega)]; rfl); have HB2 := Lib.hid hb2; clear c0 c1 c2 c3 hA2 hi hg hb2) | (go_at_call 34; (with_reducible refine (dR.out _ TW2.out.doc).mono ?_); rintro e w3 ⟨rfl, K', hd3, hg3⟩))
    have hn2 := Nat.le_trans hs1 HB2.out.size
    obtain ⟨tw, hb⟩ := TW2.out.ref hd3 hg3 (Nat.le_trans hs1 HB2.out.size)
    have HTW := Lib.hid tw
    have HB := Lib.hid ((hB0.trans HB2.out).trans hb)
    clear tw hb hd3 hg3
    go_wp2
    go_ret
    rw [hd.out]
    exact ⟨rfl, L', g, c, m, n', K', HTW.out, by omega, by omega, HB.out⟩
  by_cases e3 : x.k.tmod 5 = 3
  · have hd : Hid (doT T x = Tr.movR T x.a x.b x.c) := Lib.hid (by unfold doT; rw [if_neg e2, if_pos e3])
    clear kR kA kS dR dA dS
    go_upto_region 9 with (first | (go_at_call 31; (with_reducible refine kM.mono ?_); rintro e w2 ⟨rfl, L', hi, hg, hb2⟩; have TW2 := Lib.hid (HG.out.code hi hg); have hA2 := HAct.out _ _ _ hg; have c12 : w2.cell? ⟨w.heap.size, 1, none⟩ = some (.int .i64 x.a) := (by rw [hA2.cell, acells_int x (by omega)]; rfl); have c22 : w2.cell? ⟨w.heap.size, 2, none⟩ = some (.int .i64 x.b) := (by rw [hA2.cell, acells_int x (by omega)]; rfl); have c32 : w2.cell? ⟨w.heap.size, 3, none⟩ = some (.int .i64 x.c) := (by rw [hA2.cell, acells_int x (by omega)]; rfl); have HB2 := Lib.hid hb2; clear c0 c1 c2 c3 hA2 hi hg hb2) | (go_at_call 35; (with_reducible refine (dM.out _ TW2.out.doc).mono ?_); rintro e w3 ⟨rfl, K', hd3, hg3⟩))
    obtain ⟨tw, hb⟩ := TW2.out.ref hd3 hg3 (Nat.le_trans hs1 HB2.out.size)
    have HTW := Lib.hid tw
    have HB := Lib.hid ((hB0.trans HB2.out).trans hb)
    clear tw hb hd3 hg3
    go_wp2
    go_ret
    rw [hd.out]
    exact ⟨rfl, L', g, c, m, n, K', HTW.out, by omega, by omega, HB.out⟩
  by_cases e4 : x.k.tmod 5 = 4
  · have hd : Hid (doT T x = setT T x.a x.s) := Lib.hid (by unfold doT; rw [if_neg e2, if_neg e3, if_pos e4])
    clear kR kA kM dR dA dM
    go_upto_region 13 with (first | (refine wpList_load_sty (by rfl) _ rfl rfl hs.out ?_) | (refine wpList_load_sty (by rfl) _ rfl rfl hs2.out ?_) | (go_at_call 33; (with_reducible refine kS.mono ?_); rintro e w2 ⟨rfl, hi, hg, hb2⟩; have TW2 := Lib.hid (HG.out.code hi hg); have hA2 := HAct.out _ _ _ hg; have c12 : w2.cell? ⟨w.heap.size, 1, none⟩ = some (.int .i64 x.a) := (by rw [hA2.cell, acells_int x (by omega)]; rfl); have hs2 : Hid (StyAt w2 w.heap.size 4 x.s) := Lib.hid (fun j hj => by rw [hA2.cell, acells_sty x hj]); have HB2 := Lib.hid hb2; clear c0 c1 c2 c3 hA2 hi hg hb2 hs) | (go_at_call 36; (with_reducible refine (dS.out _ TW2.out.doc).mono ?_); rintro e w3 ⟨rfl, hd3, hg3⟩))
    obtain ⟨tw, hb⟩ := TW2.out.ref hd3 hg3 (Nat.le_trans hs1 HB2.out.size)
    have HTW := Lib.hid tw
    have HB := Lib.hid ((hB0.trans HB2.out).trans hb)
    clear tw hb hd3 hg3
    go_wp2
    go_ret
    rw [hd.out]
    exact ⟨rfl, L, g, c, m, n, K, HTW.out, by omega, by omega, HB.out⟩
  have hd : Hid (doT T x = Tr.addR T x.a x.b) := Lib.hid (by unfold doT; rw [if_neg e2, if_neg e3, if_neg e4])
  clear kR kS kM dR dS dM
  go_upto_region 16 with (first | (go_at_call 32; (with_reducible refine kA.mono ?_); rintro e w2 ⟨rfl, L', n', hi, hl, hg, hb2⟩; have TW2 := Lib.hid (HG.out.code hi hg); have hA2 := HAct.out _ _ _ hg; have c12 : w2.cell? ⟨w.heap.size, 1, none⟩ = some (.int .i64 x.a) := (by rw [hA2.cell, acells_int x (by omega)]; rfl); have c22 : w2.cell? ⟨w.heap.size, 2, none⟩ = some (.int .i64 x.b) := (by rw [hA2.cell, acells_int x (by omega)]; rfl); have HB2 := Lib.hid hb2; clear c0 c1 c2 c3 hA2 hi hg hb2) | (go_at_call 37; (with_reducible refine (dA.out _ TW2.out.doc).mono ?_); rintro e w3 ⟨rfl, g', c', m', K', hd3, hm3, hg3⟩))
  obtain ⟨tw, hb⟩ := TW2.out.ref hd3 hg3 (Nat.le_trans hs1 HB2.out.size)
  have HTW := Lib.hid tw
  have HB := Lib.hid ((hB0.trans HB2.out).trans hb)
  clear tw hb hd3 hg3
  go_wp2
  go_ret
  rw [hd.out]
  exact ⟨rfl, L', g', c', m', n', K', HTW.out, hl, hm3, HB.out⟩

end Go.Proofs.Ytbkocceemfhhbaa.Fix
