/- The document's tree: a place more; New, Set, Add. -/
import Derived.Test.YtbkocceemfhhbaaTrDocPut
namespace Go.Proofs.Ytbkocceemfhhbaa.Fix
open Go.ChangeShapes Go.WideShapes Go.ChangeAt Go.RowKit Go.Deep Go.Joins Go.Shelf
set_option linter.unusedVariables false
set_option linter.unusedSimpArgs false
set_option maxRecDepth 100000

theorem dboxInfo : (Try.prog.info? 74).map (fun i => (i.zero, i.size, i.bytes)) = some (some (.agg dzero), 58, 472) := by kernel_rfl

section
variable {W W' : World} {r g c m : Nat} {K K' : Int → Value} {T T' : Tr.T}

/-- a place more -/
theorem Doc.grow (h : Doc W r g c m K T) (hm : m + 1 ≤ 4096) : ∃ g' c' w1, (Builtin.append_ #[75, 75] 75 #[.slice (some ⟨g, 0, none⟩) m c, .slice (some ⟨W.heap.size, 0, none⟩) 1 1]).run Try.prog (W.alloc (.cells dzero 74)) = .ok (.slice (some ⟨g', 0, none⟩) (m + 1) c') w1 ∧
    At w1 r (.cells #[.slice (some ⟨g, 0, none⟩) m c] 77) ∧ Doc (w1.setCell ⟨r, 0, none⟩ (.slice (some ⟨g', 0, none⟩) (m + 1) c')) r g' c' (m + 1) K T ∧ DG r g K T W (w1.setCell ⟨r, 0, none⟩ (.slice (some ⟨g', 0, none⟩) (m + 1) c')) g' K T := by
  obtain ⟨i0, hi0, hz0, hz1, hz2⟩ := info_parts dboxInfo
  obtain ⟨cur, h1, h2, h3⟩ := h.cur
  have hcap := h.cap
  have hlim := h.lim
  have hown : W.ownsRow 0 74 58 (.slice (some ⟨g, 0, none⟩) m c) m (cur.toList.take (m * 58)) := by
    refine ⟨by rw [List.length_take, Array.length_toList]; omega, .inr ⟨g, c, cur, rfl, Nat.zero_le _, h1, hcap, hlim, h2, rfl⟩⟩
  have hA := At.new W (.cells dzero 74)
  obtain ⟨v', w1, hr, ho, hg, _, hblk⟩ := run_append_own_at (P := Try.prog) (w := W.alloc (.cells dzero 74)) 0 75 75 74 i0 _ 58 472 Try.underlying75 hi0 hz0 hz1 hz2 dzero_size (by decide) _ m _ (hown.alloc _) ⟨W.heap.size, 0, none⟩ 1 1 dzero.toList (by rw [Array.length_toList, dzero_size])
    (by intro j u hj
        rw [addr_add, Nat.zero_add, hA.cell, ← hj, Array.getElem?_toList])
    (fun x hx => Array.all_eq_true_iff_forall_mem.1 dzero_one x (by simpa using hx)) (by simp only [maxLen]; omega) (by omega) (by simp)
  rcases ho.2 with ⟨_, h0⟩ | ⟨g', c', cur', rfl, _, hg', hc1, hc2, hc3, hc4⟩
  · omega
  have hs1 : (W.alloc (.cells dzero 74)).heap.size = W.heap.size + 1 := by simp
  have hO1 : Out (fun b => b = g) (W.alloc (.cells dzero 74)) w1 := Out.grown hg (fun b e => by injection e with e; exact e.symm)
  have hO0 : Out (fun b => b = g) W (W.alloc (.cells dzero 74)) := Out.of_below (Below.alloc' (Below.refl _ _) _)
  have hO : Out (fun b => b = g) W w1 := hO0.trans hO1
  have hrA := h.at_.out (fun e => h.rg e) hO
  have hgn : g' = g ∨ W.heap.size ≤ g' := by
    rcases hblk with e | e
    · injection e with e; exact .inl e
    · injection e with e; have e' : g' = (W.alloc (.cells dzero 74)).heap.size := e; exact .inr (by omega)
  have hgr : g' ≠ r := by
    rcases hgn with e | e
    · rw [e]; exact fun q => h.rg q.symm
    · have := h.lt (.inl rfl); omega
  have hget : ∀ k, k < (m + 1) * 58 → cur'[k]? = (cur.toList.take (m * 58) ++ dzero.toList)[k]? := fun k hk => by
    rw [← hc4, List.getElem?_take, if_pos hk, Array.getElem?_toList]
  have htl : (cur.toList.take (m * 58)).length = m * 58 := by rw [List.length_take, Array.length_toList]; omega
  have hold : ∀ k, k < m * 58 → cur'[k]? = cur[k]? := fun k hk => by
    rw [hget k (by omega), List.getElem?_append_left (by omega), List.getElem?_take, if_pos hk, Array.getElem?_toList]
  have hO2 : Out (fun b => b = r) w1 (w1.setCell ⟨r, 0, none⟩ (.slice (some ⟨g', 0, none⟩) (m + 1) c')) := (Out.refl _ _).set (M := fun b => b = r) rfl _ _
  have hO3 : Out (downed r g K T) W (w1.setCell ⟨r, 0, none⟩ (.slice (some ⟨g', 0, none⟩) (m + 1) c')) := (hO.mono fun b _ q => .inr (.inl q)).trans (hO2.mono fun b _ q => .inl q)
  refine ⟨g', c', w1, hr, hrA, ⟨hrA.set 0 _, ⟨cur', (show At w1 g' _ from hg').off hgr 0 _, hc3, fun i hi => ?_⟩, hc1, hc2, fun z nd hz => ?_, fun z nd hz => ?_, hm⟩, hO3, fun b hb => ?_⟩
  · by_cases e : i = m
    · subst e
      have hn : T (i : Int) = none := by
        cases e : T (i : Int) with
        | none => rfl
        | some nd => have := h.range _ _ e; omega
      rw [hn]
      refine ⟨?_, fun nd' e => (by cases e), fun nd' e => (by cases e), fun nd' e => (by cases e)⟩
      rw [hget _ (by omega), List.getElem?_append_right (by omega), htl, Nat.sub_self]
      rfl
    · have P := h3 i (by omega)
      exact ⟨by rw [hold _ (by omega)]; exact P.live, fun nd hn => by rw [hold _ (by omega)]; exact P.up nd hn, fun nd hn => by rw [hold _ (by omega)]; exact P.kids nd hn, fun nd hn q hq => by rw [hold _ (by omega)]; exact P.sty nd hn q hq⟩
  · have hk := (h.row z nd hz).out (fun b hb (q : b = g) => h.gb (h.row z nd hz) (by rw [hb, q])) hO
    refine hk.out (fun b hb (q : b = r) => ?_) hO2
    obtain ⟨cur2, hc⟩ := hk.rowAt (hb.trans (congrArg some q))
    have := hrA.uniq hc
    injection this with _ e2
    exact absurd e2 (by decide)
  · have := h.range z nd hz; omega
  · rcases hb with e | e | hb
    · exact .inl (.inl e)
    · rcases hgn with q | q
      · exact .inl (.inr (.inl (e.trans q)))
      · exact .inr (by omega)
    · exact .inl (.inr (.inr hb))
end

theorem dnew_any (w : World) : Calls Try.prog 12 #[] w fun e w' => (∃ r, e = .returned (.pointer (some ⟨r, 0, none⟩)) ∧ ∃ g c K, Doc w' r g c 1 K T0 ∧ ∀ b, downed r g K T0 b → w.heap.size ≤ b) ∧ Below w.heap.size w w' := by
  have hA1 : At (w.alloc (.cells (dcells (-1) (.slice none 0 0) Re.zero) 74)) w.heap.size (.cells (dcells (-1) (.slice none 0 0) Re.zero) 74) := At.new _ _
  have hB1 : Below w.heap.size w (w.alloc (.cells (dcells (-1) (.slice none 0 0) Re.zero) 74)) := Below.alloc' (Below.refl _ _) _
  have hs1 : (w.alloc (.cells (dcells (-1) (.slice none 0 0) Re.zero) 74)).heap.size = w.heap.size + 1 := by simp
  have hB2 := Below.alloc' hB1 (.cells #[.slice (some ⟨w.heap.size, 0, none⟩) 1 1] 77)
  have some_ : ∀ z nd, T0 z = some nd → z = 0 ∧ nd = ⟨-1, [], Re.zero⟩ := fun z nd hz => by
    unfold T0 at hz
    split at hz
    · injection hz with hz; exact ⟨by assumption, hz.symm⟩
    · cases hz
  have hsz := dcells_size (-1) (.slice none 0 0) Re.zero
  have hD : Hid (Doc ((w.alloc (.cells (dcells (-1) (.slice none 0 0) Re.zero) 74)).alloc (.cells #[.slice (some ⟨w.heap.size, 0, none⟩) 1 1] 77)) (w.heap.size + 1) w.heap.size 1 1 (fun _ => .slice none 0 0) T0) := Lib.hid (by
    refine ⟨At.new' _ (by simp), ⟨_, hA1.alloc _, by rw [hsz], fun i hi => ?_⟩, Nat.le_refl _, by simp [maxLen], fun z nd hz => ?_, fun z nd hz => ?_, by omega⟩
    · obtain rfl : i = 0 := by omega
      have e0 : T0 ((0 : Nat) : Int) = some ⟨-1, [], Re.zero⟩ := rfl
      rw [e0]
      refine ⟨?_, fun nd e => ?_, fun nd e => ?_, fun nd e j hj => ?_⟩
      · rw [dcells_low _ _ _ (by omega)]; rfl
      · cases e; rw [dcells_low _ _ _ (by omega)]; rfl
      · cases e; rw [dcells_low _ _ _ (by omega)]; rfl
      · cases e; rw [show 0 * 58 + 3 + j = 3 + j by omega, dcells_sty _ _ _ hj]
    · rw [(some_ z nd hz).2]; exact KS.nil _
    · rw [(some_ z nd hz).1]; omega)
  have hBB := Lib.hid hB2
  clear hA1 hB1 hB2
  go_enter Try.func12, Try.ntmps12
  go_wp2_with (first | (refine wpList_build (by rfl) 74 _ rfl #[(0, .bool true), (1, .int .i64 (-1))] (by simp only [List.map_toArray, List.map_cons, List.map_nil]; rfl) (build_dbox _ _) ?_) | (refine wpList_buildSlice (by rfl) 75 1 _ rfl #[(0, .agg (dcells (-1) (.slice none 0 0) Re.zero))] (by simp only [List.map_toArray, List.map_cons, List.map_nil]; rfl) (slice_droot _) ?_) | (refine wpList_build (by rfl) 77 _ rfl #[(0, .slice (some ⟨w.heap.size, 0, none⟩) 1 1)] (by simp only [List.map_toArray, List.map_cons, List.map_nil]; rfl) (build_dtree _ _ _ _) ?_))
  go_ret
  refine ⟨⟨w.heap.size + 1, rfl, _, _, _, hD.out, fun b hb => ?_⟩, hBB.out⟩
  rcases hb with rfl | rfl | ⟨z, nd, hz, e⟩
  · omega
  · exact Nat.le_refl _
  · cases e

set_option maxHeartbeats 4000000 in
theorem dset_any {w : World} {r g c m : Nat} {K : Int → Value} {T : Tr.T} (h : Doc w r g c m K T) (z : Int) (s : Re.St) : Calls Try.prog 36 #[.pointer (some ⟨r, 0, none⟩), .int .i64 z, .agg (cells s)] w fun e w' => e = .returned (.int .i64 (setE T z s)) ∧ Doc w' r g c m K (setT T z s) ∧ DG r g K T w w' g K (setT T z s) := by
  have hB : Below w.heap.size w (w.alloc (.cells (cells s) 43)) := Below.alloc' (Below.refl _ _) _
  have h1 := h.after hB
  have hA : At (w.alloc (.cells (cells s) 43)) w.heap.size (.cells (cells s) 43) := At.new _ _
  have hnb : ¬ downed r g K T w.heap.size := fun q => absurd (h.lt q) (by omega)
  generalize hW : w.alloc (.cells (cells s) 43) = w1 at *
  have key := dhas_any h1 z
  cases hT : T z with
  | none =>
    have hE : setE T z s = 2 := by unfold setE; rw [hT]; rfl
    have hS : setT T z s = T := by unfold setT; rw [hE]; rfl
    rw [isNone_of hT] at key
    rw [hE, hS]
    have HR := Lib.hid h1
    have HB := Lib.hid hB
    clear h h1 hB hE hS
    go_enter Try.func36, Try.ntmps36
    go_wp2_with (go_at_call 15; (with_reducible refine key.mono ?_); rintro e w' ⟨rfl, rfl⟩)
    go_ret
    exact ⟨rfl, HR.out, DG.of_below HB.out⟩
  | some nd =>
    rw [isSome_of hT] at key
    have key2 := rrecvalid_any s w1
    cases hv : Re.valid s with
    | false =>
      have hE : setE T z s = 1 := by unfold setE; rw [hT, hv]; rfl
      have hS : setT T z s = T := by unfold setT; rw [hE]; rfl
      rw [hv] at key2
      rw [hE, hS]
      have HR := Lib.hid h1
      have HB := Lib.hid hB
      clear h h1 hB hE hS
      go_enter Try.func36, Try.ntmps36
      go_wp2_with (first | (refine wpList_load_style (by rfl) _ rfl rfl hA ?_) | (go_at_call 15; (with_reducible refine key.mono ?_); rintro e w' ⟨rfl, rfl⟩) | (go_at_call 51; (with_reducible refine key2.mono ?_); rintro e w2 ⟨rfl, hb2⟩))
      go_ret
      exact ⟨rfl, HR.out.after hb2, DG.of_below (HB.out.trans (hb2.mono HB.out.size))⟩
    | true =>
      have hE : setE T z s = 0 := by unfold setE; rw [hT, hv]; rfl
      have hS : setT T z s = Tr.set T z { nd with sty := s } := by unfold setT Tr.styT; rw [hE, hT]; rfl
      rw [hv] at key2
      rw [hE, hS]
      obtain ⟨i, rfl, him⟩ := h.nat hT
      have HR := Lib.hid h1
      have HB := Lib.hid hB
      clear h h1 hB hE hS
      go_enter Try.func36, Try.ntmps36
      go_upto_region 6 with (first | (refine wpList_load_style (by rfl) _ rfl rfl hA ?_) | (go_at_call 15; (with_reducible refine key.mono ?_); rintro e w' ⟨rfl, rfl⟩) | (go_at_call 51; (with_reducible refine key2.mono ?_); rintro e w2 ⟨rfl, hb2⟩))
      have hR2 := (HR.out.after hb2).after (Below.refl _ w2).drew
      have hA2 : At w2.drew w.heap.size (.cells (cells s) 43) := (hA.keep hb2).drew
      have hO2 : Below w.heap.size w w2.drew := (HB.out.trans (hb2.mono HB.out.size)).drew
      obtain ⟨W3, hst, hOO, hD3, hG3⟩ := hR2.setSty hT s
      have hA3 := hA2.out (fun (q : w.heap.size = g) => hnb (.inr (.inl q))) hOO
      generalize hW2 : w2.drew = W2 at *
      have hS0 : W2.cell? ⟨r, 0, none⟩ = some (.slice (some ⟨g, 0, none⟩) m c) ∧ At W2 w.heap.size (.cells (cells s) 43) := ⟨hR2.cT, hA2⟩
      have hS3 := Lib.hid (show _ ∧ At W3 w.heap.size (.cells (cells s) 43) from ⟨hD3.cT, hA3⟩)
      have HST := Lib.hid hst
      have HD3 := Lib.hid hD3
      have HG3 := Lib.hid ((DG.of_below hO2).trans hG3)
      clear hR2 hA2 hO2 hD3 hG3 hst hA3 HR HB hA hb2 hOO
      refine Drawn.wp_region_gen (S := (fun W' => W'.cell? ⟨r, 0, none⟩ = some (.slice (some ⟨g, 0, none⟩) m c) ∧ At W' w.heap.size (.cells (cells s) 43))) 9 (by kernel_rfl) ?_ ?_
      · rw [hW2]; exact hS0
      intro hS1
      rw [hW2]
      clear hS1 hW2
      (refine Drawn.gen_take (i := 0) rfl (by kernel_rfl) (by kernel_rfl) (by kernel_rfl) (by kernel_rfl) (by omega) (by assumption) (by first | exact .inr ⟨by rfl, rfl⟩ | exact .inl ⟨by rfl, by intro w2 hS; go_simp; first | done | with_reducible rfl | exact ⟨rfl, rfl⟩⟩) ?_; (try simp only [Act.put, List.setIfInBounds_toArray, List.set_cons_zero, List.set_cons_succ]))
      (refine Drawn.gen_take (i := 1) rfl (by kernel_rfl) (by kernel_rfl) (by kernel_rfl) (by kernel_rfl) (by omega) (by first | assumption | exact hS0) (by first | exact .inr ⟨by rfl, rfl⟩ | exact .inl ⟨by rfl, by intro w2 hS; obtain ⟨ca, hh⟩ := hS; go_simp; first | done | with_reducible rfl | exact ⟨rfl, rfl⟩⟩) ?_; (try simp only [Act.put, List.setIfInBounds_toArray, List.set_cons_zero, List.set_cons_succ]))
      (refine Drawn.gen_take (i := 2) rfl (by kernel_rfl) (by kernel_rfl) (by kernel_rfl) (by kernel_rfl) (by omega) (by first | assumption | exact hS0) (by first | exact .inr ⟨by rfl, rfl⟩ | exact .inl ⟨by rfl, by intro w2 hS; obtain ⟨ca, hh⟩ := hS; go_simp; first | done | with_reducible rfl | exact ⟨rfl, rfl⟩⟩) ?_; (try simp only [Act.put, List.setIfInBounds_toArray, List.set_cons_zero, List.set_cons_succ]))
      (refine Drawn.gen_take (i := 3) rfl (by kernel_rfl) (by kernel_rfl) (by kernel_rfl) (by kernel_rfl) (by omega) (by first | assumption | exact hS0) (by first | exact .inr ⟨by rfl, rfl⟩ | exact .inl ⟨by rfl, by intro w2 hS; obtain ⟨ca, hh⟩ := hS; go_simp; first | done | with_reducible rfl | exact ⟨rfl, rfl⟩⟩) ?_; (try simp only [Act.put, List.setIfInBounds_toArray, List.set_cons_zero, List.set_cons_succ]))
      (refine Drawn.gen_take (i := 4) rfl (by kernel_rfl) (by kernel_rfl) (by kernel_rfl) (by kernel_rfl) (by omega) (by assumption) (by first | exact .inr ⟨by rfl, rfl⟩ | exact .inl ⟨by rfl, by intro w2 hS; go_simp; first | done | with_reducible rfl | exact ⟨rfl, rfl⟩⟩) ?_; (try simp only [Act.put, List.setIfInBounds_toArray, List.set_cons_zero, List.set_cons_succ]))
      (refine Drawn.gen_take (i := 5) rfl (by kernel_rfl) (by kernel_rfl) (by kernel_rfl) (by kernel_rfl) (by omega) (by assumption) (reads_load_style (by rfl) (.tmp 5) rfl rfl (fun W h => h.2)) ?_; (try simp only [Act.put, List.setIfInBounds_toArray, List.set_cons_zero, List.set_cons_succ]))
      (refine Drawn.gen_take (i := 6) rfl (by kernel_rfl) (by kernel_rfl) (by kernel_rfl) (by kernel_rfl) (by omega) (by first | assumption | exact hS0) (by first | exact .inr ⟨by rfl, rfl⟩ | exact .inl ⟨by rfl, by intro w2 hS; obtain ⟨ca, hh⟩ := hS; go_simp; first | done | with_reducible rfl | exact ⟨rfl, rfl⟩⟩) ?_; (try simp only [Act.put, List.setIfInBounds_toArray, List.set_cons_zero, List.set_cons_succ]))
      (refine Drawn.gen_take (i := 7) rfl (by kernel_rfl) (by kernel_rfl) (by kernel_rfl) (by kernel_rfl) (by omega) (by first | assumption | exact hS0) (by first | exact .inr ⟨by rfl, rfl⟩ | exact .inl ⟨by rfl, by intro w2 hS; obtain ⟨ca, hh⟩ := hS; go_simp; first | done | with_reducible rfl | exact ⟨rfl, rfl⟩⟩) ?_; (try simp only [Act.put, List.setIfInBounds_toArray, List.set_cons_zero, List.set_cons_succ]))
      refine Drawn.gen_one (i := 8) (by kernel_rfl) rfl (by rfl) ?_
      refine Drawn.Step.skip (exec_store (.tmp 23) (.tmp 21) rfl rfl rfl HST.out) ?_
      refine ⟨fun _ => hS3.out, ?_⟩
      (try simp only [Act.put, List.setIfInBounds_toArray, List.set_cons_zero, List.set_cons_succ])
      refine Drawn.gen_end (by kernel_rfl) ?_
      go_wp2
      go_ret
      exact ⟨rfl, HD3.out, HG3.out⟩

theorem addT_doc {T : Tr.T} {z u : Int} {i : Nat} {p : Tr.Nd} (hu : T u = some p) (hz : T z = none) : Tr.addT T z u i = Tr.set (Tr.set T z ⟨u, [], Re.zero⟩) u { p with kids := Tr.wi p.kids i z } := by
  have hne : u ≠ z := fun e => by rw [e, hz] at hu; cases hu
  funext y
  rw [Tr.add_at hu hz]
  by_cases e : y = z
  · rw [if_pos e, e, Tr.set_other _ _ (Ne.symm hne), Tr.set_same]
  · rw [if_neg e]
    by_cases e2 : y = u
    · rw [if_pos e2, e2, Tr.set_same]
    · rw [if_neg e2, Tr.set_other _ _ e2, Tr.set_other _ _ e]

set_option maxHeartbeats 8000000 in
theorem dadd_no {w : World} {r g c m : Nat} {K : Int → Value} {T : Tr.T} (h : Doc w r g c m K T) (H : Tr.WF T) (hn : (Tr.ord T).length < 4096) {u a : Int} (hE0 : Tr.addE T u a ≠ 0) : Calls Try.prog 37 #[.pointer (some ⟨r, 0, none⟩), .int .i64 u, .int .i64 a] w fun e w' => e = .returned (.tuple #[.int .i64 (Tr.addI T u a), .int .i64 (Tr.addE T u a)]) ∧ Doc w' r g c m K (Tr.addR T u a) ∧ DG r g K T w w' g K (Tr.addR T u a) := by
  have hI : Tr.addI T u a = -1 := by unfold Tr.addI; rw [if_neg hE0]
  have hR : Tr.addR T u a = T := by unfold Tr.addR; rw [if_neg hE0]
  rw [hI, hR]
  have HD := Lib.hid h
  have key := dhas_any h u
  cases hT : T u with
  | none =>
    have hE : Tr.addE T u a = 2 := by unfold Tr.addE; rw [hT]
    rw [hE]
    rw [isNone_of hT] at key
    clear h hI hR hE hE0
    go_enter Try.func37, Try.ntmps37
    go_wp2_with (go_at_call 15; (with_reducible refine key.mono ?_); rintro e w' ⟨rfl, rfl⟩)
    go_ret2
    exact ⟨rfl, HD.out, DG.refl _ _ _ _ _⟩
  | some p =>
    rw [isSome_of hT] at key
    obtain ⟨iu, rfl, him⟩ := h.nat hT
    have c0 := h.cT
    have c1 := h.cKids hT
    obtain ⟨A, cc, hv, _⟩ := (h.row _ p hT).ints
    rw [hv] at c1
    have hkl := H.kids_le hT
    by_cases hr : a < 0 ∨ (p.kids.length : Int) < a
    · have hE : Tr.addE T iu a = 1 := by unfold Tr.addE; rw [hT]; dsimp only; rw [if_pos hr]
      rw [hE]
      clear h hI hR hE hE0 hv
      generalize p.kids.length = n at *
      rcases hr with hr | hr
      · go_enter Try.func37, Try.ntmps37
        go_wp2_with (go_at_call 15; (with_reducible refine key.mono ?_); rintro e w' ⟨rfl, rfl⟩)
        go_ret2
        exact ⟨rfl, HD.out, DG.refl _ _ _ _ _⟩
      · have hr0 : ¬ a < 0 := by omega
        go_enter Try.func37, Try.ntmps37
        go_wp2_with (go_at_call 15; (with_reducible refine key.mono ?_); rintro e w' ⟨rfl, rfl⟩)
        go_ret2
        exact ⟨rfl, HD.out, DG.refl _ _ _ _ _⟩
    · have hr0 : ¬ a < 0 := fun e => hr (.inl e)
      have hr1 : ¬ (p.kids.length : Int) < a := fun e => hr (.inr e)
      have keyL := dlen_any h H
      obtain ⟨d, hd1, hd2, hd3⟩ := H.dep_some hT
      have KD := Lib.hid fun W (hb : Below w.heap.size w W) => ddepth_some (h.after hb) (fun _ q => H.root_up q) hd2 (by omega)
      have hdd2 : (63 : Int) ≤ (d : Int) := by
        unfold Tr.addE at hE0
        rw [hT] at hE0
        dsimp only at hE0
        rw [if_neg hr, hd3] at hE0
        by_cases e : (63 : Int) ≤ (d : Int)
        · exact e
        · rw [if_neg e] at hE0; exact absurd rfl hE0
      have hE : Tr.addE T iu a = 5 := by unfold Tr.addE; rw [hT]; dsimp only; rw [if_neg hr, hd3, if_pos hdd2]
      rw [hE]
      have hnn : ¬ (4096 : Int) ≤ ((Tr.ord T).length : Int) := by omega
      clear h hI hR hE hE0 hv hd2 hd3 hr
      generalize p.kids.length = n at *
      generalize (Tr.ord T).length = q at *
      go_enter Try.func37, Try.ntmps37
      go_wp2_with (first | (go_at_call 15; (with_reducible refine key.mono ?_); rintro e w' ⟨rfl, rfl⟩) | (go_at_call 52; (with_reducible refine keyL.mono ?_); rintro e w1 ⟨rfl, hb1⟩) | (go_at_call 19; (with_reducible refine (KD.out _ hb1).mono ?_); rintro e w' ⟨rfl, rfl⟩))
      go_ret2
      exact ⟨rfl, HD.out.after hb1, DG.of_below hb1⟩

end Go.Proofs.Ytbkocceemfhhbaa.Fix
