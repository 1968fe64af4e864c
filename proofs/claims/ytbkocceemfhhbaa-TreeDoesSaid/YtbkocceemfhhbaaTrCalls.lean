/- Trees of boxes: one text of several. -/
import Derived.Test.YtbkocceemfhhbaaTrSeq
import Derived.Test.YtbkocceemfhhbaaRecCalls
import Derived.Test.YtbkocceemfhhbaaTrPure
/-! The contracts of New and of Set of a tree. -/
namespace Go.Proofs.Ytbkocceemfhhbaa.Fix
open Go.ChangeShapes Go.WideShapes Go.ChangeAt Go.RowKit Go.Shelf
set_option linter.unusedVariables false
set_option linter.unusedSimpArgs false
set_option maxRecDepth 100000

theorem wpList_build {ops : Array Oper} {rest : List Oper} {o : Oper} {a : Act} {w : World} {Q : Exit → Act → World → Prop} (hw : Region.wanted o (yielded ops a.tmps) = true) (t : TypeId) (ps : Array (Nat × Operand)) (ho : o.op = .build t ps) {v : Value} (qs : Array (Nat × Value)) (hq : (ps.map fun p => (p.1, a.eval p.2)) = qs)
    (hrun : (Instr.build t qs).run Try.prog w = .ok v w) (h : wpList Try.prog ops Q rest (a.put o.dst v) w) : wpList Try.prog ops Q (o :: rest) a w :=
  wpList_value hw (by unfold execOp; simp only [ho, hq, Sem.run_bind, hrun, Result.andThen_ok, Sem.run_pure]) h

/-- the root alone -/
def T0 : Tr.T := fun z => if z = 0 then some ⟨-1, [], Re.zero⟩ else none

theorem tnew_any (w : World) : Calls Try.prog 11 #[] w fun e w' => (∃ t, e = .returned (.pointer (some ⟨t, 0, none⟩)) ∧ ∃ L, Rep w' t L T0 1 ∧ ∀ b, owned t L T0 b → w.heap.size ≤ b) ∧ Below w.heap.size w w' := by
  have hmm := @run_makeMap Try.prog
  have p0 := (PM.made w).out (M := fun _ => False) (fun q => q) (Out.of_below (Below.alloc' (Below.refl _ _) (.cells (bcells (-1) (.slice none 0 0) Re.zero) 69)))
  have hb0 : At ((w.alloc (.map #[] 0)).alloc (.cells (bcells (-1) (.slice none 0 0) Re.zero) 69)) (w.heap.size + 1) (.cells (bcells (-1) (.slice none 0 0) Re.zero) 69) := At.new' _ (by simp)
  have hB0 : Below w.heap.size w ((w.alloc (.map #[] 0)).alloc (.cells (bcells (-1) (.slice none 0 0) Re.zero) 69)) := Below.alloc' (Below.alloc' (Below.refl _ _) _) _
  obtain ⟨W2, hmu, p2, ho⟩ := p0.store (by simp [maxLen]) (z := 0) (by rw [wf_iff]; omega) rfl (w.heap.size + 1)
  have hlm := p0.lt
  have hA2 := hb0.out (M := fun x => x = w.heap.size) (by simp) ho
  have hB2 : Below w.heap.size w W2 := hB0.trans (ho.below (by simp; omega) fun b hb (q : b = _) => by omega)
  have hs2 := ho.size
  simp only [World.size_alloc] at hs2
  have hB3 : Below w.heap.size w (W2.alloc (.cells #[.map (some w.heap.size)] 72)) := Below.alloc' hB2 _
  have hR : Hid (Rep (W2.alloc (.cells #[.map (some w.heap.size)] 72)) W2.heap.size ⟨w.heap.size, fun _ => w.heap.size + 1, fun _ => .slice none 0 0⟩ T0 1 ∧ ∀ b, owned W2.heap.size ⟨w.heap.size, fun _ => w.heap.size + 1, fun _ => .slice none 0 0⟩ T0 b → w.heap.size ≤ b) := Lib.hid (by
    have live : ∀ z, T0 z ≠ none → z = 0 := fun z hz => by
      unfold T0 at hz
      split at hz
      · assumption
      · exact absurd rfl hz
    have some_ : ∀ z nd, T0 z = some nd → z = 0 ∧ nd = ⟨-1, [], Re.zero⟩ := fun z nd hz => by
      unfold T0 at hz
      split at hz
      · injection hz with hz; exact ⟨by assumption, hz.symm⟩
      · cases hz
    refine ⟨⟨At.new _ _, (p2.out (M := fun _ => False) (fun q => q) (Out.of_below (Below.alloc' (Below.refl _ _) _))).congr fun z _ => ?_, fun z nd hz => ?_, fun z nd hz => ?_, fun y z hy hz _ => by rw [live y hy, live z hz], fun y z g hy hz h _ => (by cases h), fun z nd hz => ?_⟩, fun b hb => ?_⟩
    · unfold fset T0
      by_cases e : z = 0 <;> simp [e]
    · obtain ⟨rfl, rfl⟩ := some_ z nd hz
      exact hA2.alloc _
    · obtain ⟨rfl, rfl⟩ := some_ z nd hz
      exact KS.nil _
    · obtain ⟨rfl, rfl⟩ := some_ z nd hz
      simp
    · rcases hb with rfl | rfl | ⟨z, nd, hz, rfl | hb⟩
      · omega
      · exact Nat.le_refl _
      · simp
      · cases hb)
  clear p0 hb0 hB0 p2 ho hlm hA2 hB2 hs2
  go_enter Try.func11, Try.ntmps11
  go_wp2_with (first | (refine wpList_build (by rfl) 69 _ rfl #[(0, .int .i64 (-1))] (by simp only [List.map_toArray, List.map_cons, List.map_nil]; rfl) (build_box_up _ _) ?_) | (refine wpList_build (by rfl) 72 _ rfl #[(0, .map (some w.heap.size))] (by simp only [List.map_toArray, List.map_cons, List.map_nil]; rfl) (build_tree _ _) ?_))
  go_ret
  exact ⟨⟨_, rfl, _, hR.out.1, hR.out.2⟩, hB3⟩

/-! a style is stored in a box -/
theorem store_box {W : World} {b : Nat} {u : Int} {v : Value} {s : Re.St} (h : At W b (.cells (bcells u v s) 69)) (t : Re.St) : (Instr.storeAt 43 (.pointer (some ⟨b, 2, none⟩)) (.agg (cells t))).run Try.prog W = .ok () (W.setRow b (bcells u v t)) := by
  have hz : (sizeOf 43).run Try.prog W = .ok 55 W := by kernel_rfl
  have hst := run_storeCells_at Try.prog b 2 69 (cells t).toList 0 (bcells u v s) W h (by rw [bcells_size, Array.length_toList, cells_size]; omega) (fun x hx => by
    have := Array.all_eq_true_iff_forall_mem.1 (cells_one t) x (by simpa using hx); exact this)
  have e : ((bcells u v s).toList.take (2 + 0) ++ (cells t).toList ++ (bcells u v s).toList.drop (2 + 0 + (cells t).toList.length)).toArray = bcells u v t := by
    apply Array.ext'
    rw [Array.length_toList, cells_size]
    have h1 : (bcells u v s).toList.drop (2 + 0 + 55) = [] := List.drop_of_length_le (by rw [Array.length_toList, bcells_size]; omega)
    rw [h1]
    simp [bcells]
  rw [e] at hst
  have hc : (Value.agg (cells t)).cells = cells t := rfl
  simp only [Instr.storeAt, Instr.sureAddr, storeVar, Sem.run_bind, Sem.run_pure, Result.andThen_ok, hz, hc, cells_size, ne_eq, not_true_eq_false, if_false, hst]

theorem exec_store {w w' : World} {o : Oper} {a : Act} {t : TypeId} (x y : Operand) (ho : o.op = .store t x y) {p v : Value} (hx : a.eval x = p) (hy : a.eval y = v) (hrun : (Instr.storeAt t p v).run Try.prog w = .ok () w') : (execOp a.eval o).run Try.prog w = .ok .skip w' := by
  unfold execOp
  simp only [ho, hx, hy, Sem.run_bind, hrun, Result.andThen_ok, Sem.run_pure]
theorem reads_load_style {ops : Array Oper} {S : World → Prop} {o : Oper} {a : Act} (hw : Region.wanted o (yielded ops a.tmps) = true) (x : Operand) (ho : o.op = .load 43 x) {b : Nat} (hx : a.eval x = .pointer (some ⟨b, 0, none⟩)) {s : Re.St} (hs : ∀ w, S w → At w b (.cells (cells s) 43)) : Drawn.Reads Try.prog ops S o (.agg (cells s)) a :=
  .inl ⟨hw, fun w h => by unfold execOp; simp only [ho, hx, Sem.run_bind, load_style (hs w h), Result.andThen_ok, Sem.run_pure]⟩

/-- what Set answers, and what it leaves -/
def setE (T : Tr.T) (z : Int) (s : Re.St) : Int := if (T z).isSome = false then 2 else if Re.valid s = false then 1 else 0
def setT (T : Tr.T) (z : Int) (s : Re.St) : Tr.T := if setE T z s = 0 then Tr.styT T z s else T

set_option maxHeartbeats 4000000 in
theorem tset_any {w : World} {t n : Nat} {L : Lay} {T : Tr.T} (h : Rep w t L T n) {z : Int} (hz : Wf z) (s : Re.St) : Calls Try.prog 33 #[.pointer (some ⟨t, 0, none⟩), .int .i64 z, .agg (cells s)] w fun e w' => e = .returned (.int .i64 (setE T z s)) ∧ Rep w' t L (setT T z s) n ∧ Grow t L L T (setT T z s) w w' := by
  have hB : Below w.heap.size w (w.alloc (.cells (cells s) 43)) := Below.alloc' (Below.refl _ _) _
  have h1 := h.after hB
  have hA : At (w.alloc (.cells (cells s) 43)) w.heap.size (.cells (cells s) 43) := At.new _ _
  generalize hW : w.alloc (.cells (cells s) 43) = w1 at *
  have key := thas_any h1 hz
  cases hT : T z with
  | none =>
    have hE : setE T z s = 2 := by unfold setE; rw [hT]; rfl
    have hS : setT T z s = T := by unfold setT; rw [hE]; rfl
    rw [hT] at key
    rw [hE, hS]
    have HR := Lib.hid h1
    have HB := Lib.hid hB
    clear h h1 hB hE hS
    go_enter Try.func33, Try.ntmps33
    go_wp2_with (go_at_call 14; (with_reducible refine key.mono ?_); rintro e w' ⟨rfl, rfl⟩)
    go_ret
    exact ⟨rfl, HR.out, Grow.of_below HB.out⟩
  | some nd =>
    rw [hT] at key
    have key2 := recvalid_any s w1
    cases hv : Re.valid s with
    | false =>
      have hE : setE T z s = 1 := by unfold setE; rw [hT, hv]; rfl
      have hS : setT T z s = T := by unfold setT; rw [hE]; rfl
      rw [hv] at key2
      rw [hE, hS]
      have HR := Lib.hid h1
      have HB := Lib.hid hB
      clear h h1 hB hE hS
      go_enter Try.func33, Try.ntmps33
      go_wp2_with (first | (refine wpList_load_style (by rfl) _ rfl rfl hA ?_) | (go_at_call 14; (with_reducible refine key.mono ?_); rintro e w' ⟨rfl, rfl⟩) | (go_at_call 48; (with_reducible refine key2.mono ?_); rintro e w2 ⟨rfl, hb2⟩))
      go_ret
      exact ⟨rfl, HR.out.after hb2, Grow.of_below (HB.out.trans (hb2.mono HB.out.size))⟩
    | true =>
      have hE : setE T z s = 0 := by unfold setE; rw [hT, hv]; rfl
      have hS : setT T z s = Tr.set T z { nd with sty := s } := by unfold setT Tr.styT; rw [hE, hT]; rfl
      rw [hv] at key2
      rw [hE, hS]
      have HR := Lib.hid h1
      have HB := Lib.hid hB
      have HA := Lib.hid hA
      clear h h1 hB hE hS
      go_enter Try.func33, Try.ntmps33
      go_upto_region 5 with (first | (refine wpList_load_style (by rfl) _ rfl rfl hA ?_) | (go_at_call 14; (with_reducible refine key.mono ?_); rintro e w' ⟨rfl, rfl⟩) | (go_at_call 48; (with_reducible refine key2.mono ?_); rintro e w2 ⟨rfl, hb2⟩))
      have hR2 := (HR.out.after hb2).after (Below.refl _ w2).drew
      have hA2 : At w2.drew w.heap.size (.cells (cells s) 43) := (hA.keep hb2).drew
      have hO2 : Below w.heap.size w w2.drew := (HB.out.trans (hb2.mono HB.out.size)).drew
      have hne : L.bl z ≠ w.heap.size := fun e => by have := (hR2.box z nd hT).uniq (e ▸ hA2); injection this with _ e2; exact absurd e2 (by decide)
      obtain ⟨hR3, hG3⟩ := hR2.setSty (s := s) hT
      have hst := store_box (hR2.box z nd hT) s
      have hA3 := hA2.offRow hne.symm (bcells nd.up (L.sl z) s)
      generalize hW2 : w2.drew = W2 at *
      have hS0 : W2.cell? ⟨t, 0, none⟩ = some (.map (some L.mb)) ∧ (Instr.lookup 70 (.map (some L.mb)) (.int .i64 z) false).run Try.prog W2 = .ok (.pointer (some ⟨L.bl z, 0, none⟩)) W2 ∧ At W2 w.heap.size (.cells (cells s) 43) := ⟨hR2.cT, hR2.look_some hT, hA2⟩
      have hS3 := Lib.hid (show _ ∧ _ ∧ At (W2.setRow (L.bl z) (bcells nd.up (L.sl z) s)) w.heap.size (.cells (cells s) 43) from ⟨hR3.cT, hR3.look_some (Tr.set_same _ _ _), hA3⟩)
      have HST := Lib.hid hst
      have HR3 := Lib.hid hR3
      have HG3 := Lib.hid ((Grow.of_below hO2).trans hG3)
      clear hR2 hA2 hO2 hR3 hG3 hst hA3 HR HB hA hb2
      generalize W2.setRow (L.bl z) (bcells nd.up (L.sl z) s) = W3 at *
      refine Drawn.wp_region_gen (S := (fun W' => W'.cell? ⟨t, 0, none⟩ = some (.map (some L.mb)) ∧ (Instr.lookup 70 (.map (some L.mb)) (.int .i64 z) false).run Try.prog W' = .ok (.pointer (some ⟨L.bl z, 0, none⟩)) W' ∧ At W' w.heap.size (.cells (cells s) 43))) 10 (by kernel_rfl) ?_ ?_
      · rw [hW2]; exact hS0
      intro hS1
      rw [hW2]
      clear hS1 hW2
      (refine Drawn.gen_take (i := 0) rfl (by kernel_rfl) (by kernel_rfl) (by kernel_rfl) (by kernel_rfl) (by omega) (by assumption) (by first | exact .inr ⟨by rfl, rfl⟩ | exact .inl ⟨by rfl, by intro w2 hS; go_simp; first | done | with_reducible rfl | exact ⟨rfl, rfl⟩⟩) ?_; (try simp only [Act.put, List.setIfInBounds_toArray, List.set_cons_zero, List.set_cons_succ]))
      (refine Drawn.gen_take (i := 1) rfl (by kernel_rfl) (by kernel_rfl) (by kernel_rfl) (by kernel_rfl) (by omega) (by first | assumption | exact hS0) (by first | exact .inr ⟨by rfl, rfl⟩ | exact .inl ⟨by rfl, by intro w2 hS; obtain ⟨ca, cl, hh⟩ := hS; go_simp; first | done | with_reducible rfl | exact ⟨rfl, rfl⟩⟩) ?_; (try simp only [Act.put, List.setIfInBounds_toArray, List.set_cons_zero, List.set_cons_succ]))
      (refine Drawn.gen_take (i := 2) rfl (by kernel_rfl) (by kernel_rfl) (by kernel_rfl) (by kernel_rfl) (by omega) (by first | assumption | exact hS0) (by first | exact .inr ⟨by rfl, rfl⟩ | exact .inl ⟨by rfl, by intro w2 hS; obtain ⟨ca, cl, hh⟩ := hS; go_simp; first | done | with_reducible rfl | exact ⟨rfl, rfl⟩⟩) ?_; (try simp only [Act.put, List.setIfInBounds_toArray, List.set_cons_zero, List.set_cons_succ]))
      (refine Drawn.gen_take (i := 3) rfl (by kernel_rfl) (by kernel_rfl) (by kernel_rfl) (by kernel_rfl) (by omega) (by first | assumption | exact hS0) (by first | exact .inr ⟨by rfl, rfl⟩ | exact .inl ⟨by rfl, by intro w2 hS; obtain ⟨ca, cl, hh⟩ := hS; go_simp; first | done | with_reducible rfl | exact ⟨rfl, rfl⟩⟩) ?_; (try simp only [Act.put, List.setIfInBounds_toArray, List.set_cons_zero, List.set_cons_succ]))
      (refine Drawn.gen_take (i := 4) rfl (by kernel_rfl) (by kernel_rfl) (by kernel_rfl) (by kernel_rfl) (by omega) (by assumption) (by first | exact .inr ⟨by rfl, rfl⟩ | exact .inl ⟨by rfl, by intro w2 hS; go_simp; first | done | with_reducible rfl | exact ⟨rfl, rfl⟩⟩) ?_; (try simp only [Act.put, List.setIfInBounds_toArray, List.set_cons_zero, List.set_cons_succ]))
      (refine Drawn.gen_take (i := 5) rfl (by kernel_rfl) (by kernel_rfl) (by kernel_rfl) (by kernel_rfl) (by omega) (by assumption) (reads_lookup (by rfl) rfl rfl rfl (fun W h => h.2.1)) ?_; (try simp only [Act.put, List.setIfInBounds_toArray, List.set_cons_zero, List.set_cons_succ]))
      (refine Drawn.gen_take (i := 6) rfl (by kernel_rfl) (by kernel_rfl) (by kernel_rfl) (by kernel_rfl) (by omega) (by assumption) (reads_load_style (by rfl) (.tmp 5) rfl rfl (fun W h => h.2.2)) ?_; (try simp only [Act.put, List.setIfInBounds_toArray, List.set_cons_zero, List.set_cons_succ]))
      (refine Drawn.gen_take (i := 7) rfl (by kernel_rfl) (by kernel_rfl) (by kernel_rfl) (by kernel_rfl) (by omega) (by assumption) (by first | exact .inr ⟨by rfl, rfl⟩ | exact .inl ⟨by rfl, by intro w2 hS; go_simp; first | done | with_reducible rfl | exact ⟨rfl, rfl⟩⟩) ?_; (try simp only [Act.put, List.setIfInBounds_toArray, List.set_cons_zero, List.set_cons_succ]))
      (refine Drawn.gen_take (i := 8) rfl (by kernel_rfl) (by kernel_rfl) (by kernel_rfl) (by kernel_rfl) (by omega) (by assumption) (by first | exact .inr ⟨by rfl, rfl⟩ | exact .inl ⟨by rfl, by intro w2 hS; go_simp; first | done | with_reducible rfl | exact ⟨rfl, rfl⟩⟩) ?_; (try simp only [Act.put, List.setIfInBounds_toArray, List.set_cons_zero, List.set_cons_succ]))
      refine Drawn.gen_one (i := 9) (by kernel_rfl) rfl (by rfl) ?_
      refine Drawn.Step.skip (exec_store (.tmp 24) (.tmp 22) rfl rfl rfl HST.out) ?_
      refine ⟨fun _ => hS3.out, ?_⟩
      (try simp only [Act.put, List.setIfInBounds_toArray, List.set_cons_zero, List.set_cons_succ])
      refine Drawn.gen_end (by kernel_rfl) ?_
      go_wp2
      go_ret
      exact ⟨rfl, HR3.out, HG3.out⟩

end Go.Proofs.Ytbkocceemfhhbaa.Fix

/-! The contracts of leave and enter of a tree. -/
namespace Go.Proofs.Ytbkocceemfhhbaa.Fix
open Go.ChangeShapes Go.WideShapes Go.ChangeAt Go.RowKit Go.Shelf
set_option linter.unusedVariables false
set_option linter.unusedSimpArgs false
set_option maxRecDepth 100000

theorem tleave_any {w : World} {t n : Nat} {L : Lay} {T : Tr.T} (h : Rep w t L T n) {x : Int} {nd p : Tr.Nd} (hx : T x = some nd) (hp : T nd.up = some p) {i : Nat} (hi : p.kids[i]? = some x) (hn : p.kids.Nodup) :
    Calls Try.prog 42 #[.pointer (some ⟨t, 0, none⟩), .int .i64 x] w fun e w' => (∃ v, e = .returned v) ∧ ∃ L', Rep w' t L' (Tr.leave T x) n ∧ Grow t L L' T (Tr.leave T x) w w' := by
  obtain ⟨hlt, hie⟩ := List.getElem?_eq_some_iff.1 hi
  have hpk := (h.small nd.up p hp).2.2.2.2
  have hw : Wf x := h.wf hx
  have hwu : Wf nd.up := h.wf hp
  have hrow := h.row nd.up p hp
  have hf : ∀ j, j < i → p.kids[j]? ≠ some x := fun j hj e => by
    obtain ⟨hj2, he⟩ := List.getElem?_eq_some_iff.1 e
    have := (List.getElem_inj hn).1 (he.trans hie.symm)
    omega
  have key2 := fun W (hb : KS W (L.sl nd.up) p.kids) => index_any hb hi hf
  have hleave : Tr.leave T x = Tr.set T nd.up { p with kids := Tr.wo p.kids x } := by unfold Tr.leave; rw [hx]; simp only [hp]
  have hwo := Tr.wo_at hn hi
  rw [hleave]
  rcases hrow.cases with ⟨_, h0⟩ | ⟨g, c, hsl, hrw⟩
  · rw [h0] at hlt; simp at hlt
  rw [hsl] at key2
  have key3 := fun W (hb : Rw W g c p.kids) => delete_any (w := W) hb (i := i) (j := i + 1) (by omega) (by omega)
  clear hie
  generalize hlen : p.kids.length = m at *
  have hup : Hid (upOf T x = nd.up) := Lib.hid (by unfold upOf; rw [hx])
  have key1 := fun W (hr : Rep W t L T n) => tup_any hr hw
  rw [hup.out] at key1
  generalize hu : nd.up = u at *
  have HP := Lib.hid hp
  have HR := Lib.hid h
  have HK2 := Lib.hid key2
  have HK3 := Lib.hid key3
  have HSL := Lib.hid hsl
  have HWO := Lib.hid hwo
  have HLEN := Lib.hid hlen
  have hw1 : IntKind.i64.wrap ((i : Int) + 1) = ((i + 1 : Nat) : Int) := by rw [IntWalk.i64_in _ (by omega)]; omega
  have hS0 : Rep w.drew t L T n := h.after (Below.refl _ w).drew
  clear h key2 key3 hsl hwo hrow hf hleave hi hn hp hx hrw hlen
  go_enter Try.func42, Try.ntmps42
  go_upto_region 0 with (fail)
  refine Drawn.wp_region_gen (S := (fun W' => W'.cell? ⟨t, 0, none⟩ = some (.map (some L.mb)) ∧ Rep W' t L T n ∧ W' = w.drew)) 9 (by kernel_rfl) ?_ ?_
  · exact ⟨hS0.cT, hS0, rfl⟩
  intro hS1
  (refine Drawn.gen_take (i := 0) rfl (by kernel_rfl) (by kernel_rfl) (by kernel_rfl) (by kernel_rfl) (by omega) (by assumption) (by first | exact .inr ⟨by rfl, rfl⟩ | exact .inl ⟨by rfl, by intro w2 hS; go_simp; first | done | with_reducible rfl | exact ⟨rfl, rfl⟩⟩) ?_; (try simp only [Act.put, List.setIfInBounds_toArray, List.set_cons_zero, List.set_cons_succ]))
  (refine Drawn.gen_take (i := 1) rfl (by kernel_rfl) (by kernel_rfl) (by kernel_rfl) (by kernel_rfl) (by omega) (by first | assumption | exact hS0) (by first | exact .inr ⟨by rfl, rfl⟩ | exact .inl ⟨by rfl, by intro w2 hS; obtain ⟨ca, cb, cc⟩ := hS; go_simp; first | done | with_reducible rfl | exact ⟨rfl, rfl⟩⟩) ?_; (try simp only [Act.put, List.setIfInBounds_toArray, List.set_cons_zero, List.set_cons_succ]))
  (refine Drawn.gen_take (i := 2) rfl (by kernel_rfl) (by kernel_rfl) (by kernel_rfl) (by kernel_rfl) (by omega) (by first | assumption | exact hS0) (by first | exact .inr ⟨by rfl, rfl⟩ | exact .inl ⟨by rfl, by intro w2 hS; obtain ⟨ca, cb, cc⟩ := hS; go_simp; first | done | with_reducible rfl | exact ⟨rfl, rfl⟩⟩) ?_; (try simp only [Act.put, List.setIfInBounds_toArray, List.set_cons_zero, List.set_cons_succ]))
  (refine Drawn.gen_take (i := 3) rfl (by kernel_rfl) (by kernel_rfl) (by kernel_rfl) (by kernel_rfl) (by omega) (by first | assumption | exact hS0) (by first | exact .inr ⟨by rfl, rfl⟩ | exact .inl ⟨by rfl, by intro w2 hS; obtain ⟨ca, cb, cc⟩ := hS; go_simp; first | done | with_reducible rfl | exact ⟨rfl, rfl⟩⟩) ?_; (try simp only [Act.put, List.setIfInBounds_toArray, List.set_cons_zero, List.set_cons_succ]))
  (refine Drawn.gen_take (i := 4) rfl (by kernel_rfl) (by kernel_rfl) (by kernel_rfl) (by kernel_rfl) (by omega) (by assumption) (by first | exact .inr ⟨by rfl, rfl⟩ | exact .inl ⟨by rfl, by intro w2 hS; go_simp; first | done | with_reducible rfl | exact ⟨rfl, rfl⟩⟩) ?_; (try simp only [Act.put, List.setIfInBounds_toArray, List.set_cons_zero, List.set_cons_succ]))
  (refine Drawn.gen_take (i := 5) rfl (by kernel_rfl) (by kernel_rfl) (by kernel_rfl) (by kernel_rfl) (by omega) (by assumption) (by first | exact .inr ⟨by rfl, rfl⟩ | exact .inl ⟨by rfl, by intro w2 hS; go_simp; first | done | with_reducible rfl | exact ⟨rfl, rfl⟩⟩) ?_; (try simp only [Act.put, List.setIfInBounds_toArray, List.set_cons_zero, List.set_cons_succ]))
  refine Drawn.gen_one (i := 6) (by kernel_rfl) rfl (by rfl) ?_
  refine Drawn.Step.call (by go_simp; first | done | with_reducible rfl | exact ⟨rfl, rfl⟩) (key1 _ hS1.2.1) ?_
  rintro e w4 ⟨rfl, rfl⟩
  refine ⟨_, rfl, fun _ => hS1, ?_⟩
  (try simp only [Act.put, List.setIfInBounds_toArray, List.set_cons_zero, List.set_cons_succ])
  (refine Drawn.gen_take (i := 7) rfl (by kernel_rfl) (by kernel_rfl) (by kernel_rfl) (by kernel_rfl) (by omega) (by assumption) (reads_lookup (by rfl) rfl rfl rfl (fun W h => h.2.1.look_some HP.out)) ?_; (try simp only [Act.put, List.setIfInBounds_toArray, List.set_cons_zero, List.set_cons_succ]))
  (refine Drawn.gen_take (i := 8) rfl (by kernel_rfl) (by kernel_rfl) (by kernel_rfl) (by kernel_rfl) (by omega) (by assumption) (by first | exact .inr ⟨by rfl, rfl⟩ | exact .inl ⟨by rfl, by intro w2 hS; go_simp; first | done | with_reducible rfl | exact ⟨rfl, rfl⟩⟩) ?_; (try simp only [Act.put, List.setIfInBounds_toArray, List.set_cons_zero, List.set_cons_succ]))
  refine Drawn.gen_end (by kernel_rfl) ?_
  clear hS1
  generalize hW : w.drew = w1 at *
  have hD : Below w.heap.size w w1 := hW ▸ (Below.refl _ _).drew
  have c1 := hS0.cKids HP.out
  rw [HSL.out] at c1
  have k2 := HK2.out w1 (HSL.out ▸ hS0.row u p HP.out)
  have k3 := HK3.out w1 (by
    have := hS0.row u p HP.out
    rw [HSL.out] at this
    rcases this.cases with ⟨e, _⟩ | ⟨g', c', e, hr⟩
    · cases e
    · injection e with e1 e2 e3; injection e1 with e1; injection e1 with e1; subst e1; subst e3; exact hr)
  rw [show ((i + 1 : Nat) : Int) = (i : Int) + 1 by omega] at k3
  have hne : g ≠ L.bl u := fun e => hS0.sl_bl HP.out HP.out (by rw [HSL.out]; exact congrArg some e)
  clear hW key1
  go_wp2_with (first | (go_at_call 55; (with_reducible refine k2.mono ?_); rintro e w' ⟨rfl, rfl⟩) | (go_at_call 56; (with_reducible refine k3.mono ?_); rintro e w2 ⟨rfl, hrw2, hO2⟩; have c2 : w2.cell? ⟨L.bl u, 1, none⟩ = some (.slice (some ⟨g, 0, none⟩) m c) := (by rw [((hS0.box u p HP.out).out (fun e => hne e.symm) hO2).cell, bcells_kids, HSL.out]); have z2 := ((hS0.box u p HP.out).out (fun e => hne e.symm) hO2).thaw 1))
  refine bodyPost_end (results_none rfl _ _ _) rfl ?_
  refine ⟨⟨_, rfl⟩, ?_⟩
  rw [HWO.out]
  have hm := HLEN.out
  have hl : (List.take i p.kids ++ List.drop (i + 1) p.kids).length = i + (m - (i + 1)) := by simp only [List.length_append, List.length_take, List.length_drop]; omega
  have hks := hrw2.ks
  rw [hl] at hks
  obtain ⟨r1, r2⟩ := hS0.setKids HP.out (hO2.mono fun b _ (q : b = g) => by rw [HSL.out, q]; rfl) hks (by rw [HSL.out]; exact .inl rfl) (by omega)
  exact ⟨_, r1, (Grow.of_below hD).trans r2⟩

theorem tenter_any {w : World} {t n : Nat} {L : Lay} {T : Tr.T} (h : Rep w t L T n) {x u : Int} {nd p : Tr.Nd} (hx : T x = some nd) (hu : T u = some p) (hne : u ≠ x) {i : Nat} (hi : i ≤ p.kids.length) (hl : p.kids.length + 1 ≤ 4096) :
    Calls Try.prog 46 #[.pointer (some ⟨t, 0, none⟩), .int .i64 x, .int .i64 u, .int .i64 (i : Int)] w fun e w' => (∃ v, e = .returned v) ∧ ∃ L', Rep w' t L' (Tr.enter T x u i) n ∧ Grow t L L' T (Tr.enter T x u i) w w' := by
  have hent : Tr.enter T x u i = Tr.set (Tr.set T u { p with kids := Tr.wi p.kids i x }) x { nd with up := u } := by unfold Tr.enter; rw [hx, hu]
  rw [hent]
  have hlw : (Tr.wi p.kids i x).length ≤ 4096 := by simp only [Tr.wi, List.length_append, List.length_take, List.length_cons, List.length_drop]; omega
  have hur := h.small u p hu
  have hl1 := h.look_some hu
  have c0 := h.cT
  have c1 := h.cKids hu
  have hB : Below w.heap.size w (w.alloc (.cells #[.int .i64 x] 3)) := Below.alloc' (Below.refl _ _) _
  have h1 := h.after hB
  have hA : At (w.alloc (.cells #[.int .i64 x] 3)) w.heap.size (.cells #[.int .i64 x] 3) := At.new _ _
  have hvb : (L.sl u).ownBlock ≠ some w.heap.size := fun e => by have := h.lt (.inr (.inr ⟨u, p, hu, .inr e⟩)); omega
  have key2 := insert_any (h1.row u p hu) hi (by omega) hA hvb
  have HR1 := Lib.hid h1
  have HB := Lib.hid hB
  have HU := Lib.hid hu
  have HX := Lib.hid hx
  have HLW := Lib.hid hlw
  have HUR := Lib.hid hur
  have HNE := Lib.hid hne
  clear h h1 hB hu hx hlw hur hA hvb hi hl hent hne
  go_enter Try.func46, Try.ntmps46
  go_upto_region 2 with (first | (go_at_call 57; (with_reducible refine key2.mono ?_); rintro e w2 ⟨v2, rfl, hks, hO, hloc⟩; obtain ⟨A, c, hs, _⟩ := hks.ints; subst hs; generalize hm : (Tr.wi p.kids i x).length = m at *; have HM := Lib.hid hm; have HKS := Lib.hid hks; have HO := Lib.hid hO; have HLOC := Lib.hid hloc; clear hm hks hO hloc; have b2 := ((HR1.out.box u p HU.out).out (HR1.out.sl_bl HU.out HU.out) HO.out).thaw 1; have c2 : w2.cell? ⟨L.bl u, 1, none⟩ = some (L.sl u) := (by rw [((HR1.out.box u p HU.out).out (HR1.out.sl_bl HU.out HU.out) HO.out).cell, bcells_kids])))
  obtain ⟨r2, g2⟩ := HR1.out.setKids HU.out HO.out HKS.out (HLOC.out.elim .inl fun e => .inr (.inr ⟨_, e, Nat.le_refl _⟩)) (by rw [HM.out]; exact HLW.out)
  have hx2 : Tr.set T u { p with kids := Tr.wi p.kids i x } x = some nd := by rw [Tr.set_other _ _ (fun e => HNE.out e.symm)]; exact HX.out
  have l2 := r2.look_some hx2
  have t2 := r2.cT
  have u2 := r2.cUp hx2
  have z2 := (r2.box x nd hx2).thaw 0
  obtain ⟨r3, g3⟩ := r2.setUp (u := u) hx2 (by have := HUR.out; omega)
  have R3 := Lib.hid (show ∃ L', Rep ((w2.setCell ⟨L.bl u, 1, none⟩ (.slice A m c)).setCell ⟨L.bl x, 0, none⟩ (.int .i64 u)) t L' _ n ∧ Grow t L L' T _ w ((w2.setCell ⟨L.bl u, 1, none⟩ (.slice A m c)).setCell ⟨L.bl x, 0, none⟩ (.int .i64 u)) from ⟨_, r3, (Grow.of_below HB.out).trans (g2.trans g3)⟩)
  clear r2 g2 hx2 r3 g3 HM HLW HLOC HO HKS HB HR1 HU HX HUR HNE b2 c2 c0 c1 hl1 key2
  dsimp only at l2 t2 u2 z2
  generalize w2.setCell ⟨L.bl u, 1, none⟩ (.slice A m c) = w3 at *
  go_wp2
  refine bodyPost_end (results_none rfl _ _ _) rfl ?_
  exact ⟨⟨_, rfl⟩, R3.out⟩

end Go.Proofs.Ytbkocceemfhhbaa.Fix

/-! The contract of Add of a tree. -/
namespace Go.Proofs.Ytbkocceemfhhbaa.Fix
open Go.ChangeShapes Go.WideShapes Go.ChangeAt Go.RowKit Go.Shelf
set_option linter.unusedVariables false
set_option linter.unusedSimpArgs false
set_option maxRecDepth 100000

/-- a tree that stands as it should -/
structure Inv (W : World) (t : Nat) (L : Lay) (T : Tr.T) (n : Nat) : Prop where
  rep : Rep W t L T n
  wf : Tr.WF T
  num : (Tr.ord T).length = n

set_option maxHeartbeats 4000000 in
theorem tadd_any {w : World} {t n : Nat} {L : Lay} {T : Tr.T} (h : Inv w t L T n) (hn : n < 4096) {u a : Int} (hu : Wf u) : Calls Try.prog 32 #[.pointer (some ⟨t, 0, none⟩), .int .i64 u, .int .i64 a] w fun e w' => e = .returned (.tuple #[.int .i64 (Tr.addI T u a), .int .i64 (Tr.addE T u a)]) ∧ ∃ L' n', Inv w' t L' (Tr.addR T u a) n' ∧ n' ≤ n + 1 ∧ Grow t L L' T (Tr.addR T u a) w w' := by
  obtain ⟨h, HW, hnum⟩ := h
  have HWR := HW.addR u a (by omega)
  have key := thas_any h hu
  cases hT : T u with
  | none =>
    have hE : Tr.addE T u a = 2 := by unfold Tr.addE; rw [hT]
    have hI : Tr.addI T u a = -1 := by unfold Tr.addI; rw [hE]; rfl
    have hR : Tr.addR T u a = T := by unfold Tr.addR; rw [hE]; rfl
    rw [hE, hI, hR]
    rw [hT] at key
    have HR := Lib.hid (Inv.mk h HW hnum)
    clear h HW hnum HWR hE hI hR
    go_enter Try.func32, Try.ntmps32
    go_wp2_with (go_at_call 14; (with_reducible refine key.mono ?_); rintro e w' ⟨rfl, rfl⟩)
    go_ret2
    exact ⟨rfl, L, n, HR.out, by omega, Grow.refl _ _ _ _⟩
  | some p =>
    rw [hT] at key
    have hl := h.look_some hT
    have c0 := h.cT
    have c1 := h.cKids hT
    have hs := (h.small u p hT).2.2.2.2
    obtain ⟨A, c, hv, _⟩ := (h.row u p hT).ints
    by_cases hr : a < 0 ∨ (p.kids.length : Int) < a
    · have hE : Tr.addE T u a = 1 := by unfold Tr.addE; rw [hT]; dsimp only; rw [if_pos hr]
      have hI : Tr.addI T u a = -1 := by unfold Tr.addI; rw [hE]; rfl
      have hR : Tr.addR T u a = T := by unfold Tr.addR; rw [hE]; rfl
      rw [hE, hI, hR]
      have HR := Lib.hid (Inv.mk h HW hnum)
      rw [hv] at c1
      clear h HW hnum HWR hE hI hR hv
      generalize p.kids.length = m at *
      rcases hr with hr | hr
      · go_enter Try.func32, Try.ntmps32
        go_wp2_with (go_at_call 14; (with_reducible refine key.mono ?_); rintro e w' ⟨rfl, rfl⟩)
        go_ret2
        exact ⟨rfl, L, n, HR.out, by omega, Grow.refl _ _ _ _⟩
      · have hr0 : ¬ a < 0 := by omega
        go_enter Try.func32, Try.ntmps32
        go_wp2_with (go_at_call 14; (with_reducible refine key.mono ?_); rintro e w' ⟨rfl, rfl⟩)
        go_ret2
        exact ⟨rfl, L, n, HR.out, by omega, Grow.refl _ _ _ _⟩
    · have hr0 : ¬ a < 0 := fun e => hr (.inl e)
      have hr1 : ¬ (p.kids.length : Int) < a := fun e => hr (.inr e)
      have keyL := tlen_any h
      obtain ⟨d, hd1, hd2, hd3⟩ := HW.dep_some hT
      have keyD := tdepth_some h (fun _ h => HW.root_up h) hd2 (by omega)
      have hnn : ¬ (4096 : Int) ≤ (n : Int) := by omega
      by_cases hdd : 63 ≤ d
      · have hdd2 : (63 : Int) ≤ (d : Int) := by omega
        have hE : Tr.addE T u a = 5 := by unfold Tr.addE; rw [hT]; dsimp only; rw [if_neg hr, hd3, if_pos hdd2]
        have hI : Tr.addI T u a = -1 := by unfold Tr.addI; rw [hE]; rfl
        have hR : Tr.addR T u a = T := by unfold Tr.addR; rw [hE]; rfl
        rw [hE, hI, hR]
        have HR := Lib.hid (Inv.mk h HW hnum)
        rw [hv] at c1
        clear h HW hnum HWR hE hI hR hv hd2 hd3 hr
        generalize p.kids.length = m at *
        go_enter Try.func32, Try.ntmps32
        go_wp2_with (first | (go_at_call 14; (with_reducible refine key.mono ?_); rintro e w' ⟨rfl, rfl⟩) | (go_at_call 27; (with_reducible refine keyL.mono ?_); rintro e w' ⟨rfl, rfl⟩) | (go_at_call 18; (with_reducible refine keyD.mono ?_); rintro e w' ⟨rfl, rfl⟩))
        go_ret2
        exact ⟨rfl, L, n, HR.out, by omega, Grow.refl _ _ _ _⟩
      · have hdd2 : ¬ (63 : Int) ≤ (d : Int) := by omega
        have hE : Tr.addE T u a = 0 := by unfold Tr.addE; rw [hT]; dsimp only; rw [if_neg hr, hd3, if_neg hdd2]
        have hI : Tr.addI T u a = Tr.free T := by unfold Tr.addI; rw [hE]; rfl
        have hR : Tr.addR T u a = Tr.addT T (Tr.free T) u a.toNat := by unfold Tr.addR; rw [hE]; rfl
        rw [hE, hR, if_pos rfl] at HWR
        rw [hE, hI, hR]
        obtain ⟨hfree, hfl⟩ := HW.free_is
        have keyF := tfree_any h
        have hB : Below w.heap.size w (w.alloc (.cells (bcells 0 (.slice none 0 0) Re.zero) 69)) := Below.alloc' (Below.refl _ _) _
        have h1 := h.after hB
        have hA : At (w.alloc (.cells (bcells 0 (.slice none 0 0) Re.zero) 69)) w.heap.size (.cells (bcells 0 (.slice none 0 0) Re.zero) 69) := At.new _ _
        have hfw : Wf (Tr.free T) := by rw [wf_iff]; have := hfree.1; omega
        obtain ⟨W2, hmu, p2, ho⟩ := h1.map.store (by simp [maxLen]; omega) (z := Tr.free T) hfw (by rw [hfree.2.1]; rfl) w.heap.size
        have hnw : ¬ owned t L T w.heap.size := fun e => absurd (h.lt e) (by omega)
        obtain ⟨r2, o2, g2⟩ := h1.add hfree.2.1 ⟨hfree.1, by omega⟩ (by omega) hA hnw ho p2
        have hne : u ≠ Tr.free T := fun e => by rw [e, hfree.2.1] at hT; cases hT
        have G2 : Grow t L _ T _ w W2 := ⟨((Out.of_below hB).trans ⟨o2.1, o2.2⟩), fun b hb => (g2 b hb).imp id fun e => by omega⟩
        have hkl := HW.kids_le hT
        have keyE := tenter_any r2 (Tr.set_same _ _ _) ((Tr.set_other _ _ hne).trans hT) hne (i := a.toNat) (by omega) (by omega)
        rw [Int.toNat_of_nonneg (by omega)] at keyE
        have HG2 := Lib.hid G2
        have HI := Lib.hid HWR
        have HN := Lib.hid hnum
        have HF := Lib.hid hfree
        rw [hv] at c1
        clear h HW hnum HWR hE hI hR hv hd2 hd3 hr hfree hfl hB h1 hA p2 ho hnw r2 o2 g2 G2 hT hkl
        unfold Tr.addT
        generalize p.kids.length = m at *
        generalize Tr.free T = z at *
        go_enter Try.func32, Try.ntmps32
        go_wp2_with (first | (go_at_call 14; (with_reducible refine key.mono ?_); rintro e w' ⟨rfl, rfl⟩) | (go_at_call 27; (with_reducible refine keyL.mono ?_); rintro e w' ⟨rfl, rfl⟩) | (go_at_call 18; (with_reducible refine keyD.mono ?_); rintro e w' ⟨rfl, rfl⟩) | (go_at_call 47; (with_reducible refine keyF.mono ?_); rintro e w' ⟨⟨y, rfl, hy⟩, rfl⟩; obtain rfl : y = z := (Tr.free_eq hy).symm.trans (Tr.free_eq HF.out)) | (refine wpList_build (by rfl) 69 _ rfl #[] (by simp) (build_box_zero _) ?_) | (go_at_call 46; (with_reducible refine keyE.mono ?_); rintro e w' ⟨⟨v, rfl⟩, L', hr', hg'⟩))
        go_ret2
        exact ⟨rfl, L', n + 1, ⟨hr', HI.out.1, by rw [← HN.out]; exact HI.out.2⟩, Nat.le_refl _, HG2.out.trans hg'⟩

end Go.Proofs.Ytbkocceemfhhbaa.Fix

/-! The contract of Move of a tree. -/
namespace Go.Proofs.Ytbkocceemfhhbaa.Fix
open Go.ChangeShapes Go.WideShapes Go.ChangeAt Go.RowKit Go.Shelf
set_option linter.unusedVariables false
set_option linter.unusedSectionVars false
set_option linter.unusedSimpArgs false
set_option maxRecDepth 100000

section
variable {T : Tr.T} (H : Tr.WF T) {x u : Int} {nd p : Tr.Nd} (hx : T x = some nd) (h0 : x ≠ 0) (hu : T u = some p) (hun : u ∉ Tr.sub T 64 x)
include H hx h0 hu hun
theorem left_u : Tr.leave T x u = some { p with kids := Tr.wo p.kids x } := by
  obtain ⟨q, hq, hm⟩ := H.up x nd hx h0
  rw [Tr.leave_at hx hq]
  by_cases e : u = nd.up
  · rw [if_pos e]; rw [← e, hu] at hq; cases hq; rfl
  · rw [if_neg e, hu, Tr.wo_not (fun hm => e (H.x_kid hx h0 hu hm))]
theorem left_x : Tr.leave T x x = some nd := by
  obtain ⟨q, hq, hm⟩ := H.up x nd hx h0
  rw [Tr.leave_at hx hq, if_neg (fun e : x = nd.up => H.up_out hx h0 (H.is_in hx h0 e.symm)), hx]
theorem left_len : (Tr.wo p.kids x).length + 1 ≤ (Tr.ord T).length := by
  have hn : (x :: Tr.wo p.kids x).Nodup := List.nodup_cons.2 ⟨fun hm => (Tr.mem_wo.1 hm).2 rfl, Tr.nodup_wo (H.nodup u p hu) x⟩
  have := hn.length_le_of_subset (l₂ := Tr.ord T) fun y hy => by
    rcases List.mem_cons.1 hy with rfl | hy
    · exact H.mem_ord.2 ⟨nd, hx⟩
    · obtain ⟨_, q, h2, _⟩ := H.kid u p y hu (Tr.mem_wo.1 hy).1
      exact H.mem_ord.2 ⟨q, h2⟩
  simpa using this
end

set_option maxHeartbeats 4000000 in
theorem tmove_any {w : World} {t n : Nat} {L : Lay} {T : Tr.T} (h : Inv w t L T n) {x u a : Int} (hxw : Wf x) (hu : Wf u) : Calls Try.prog 31 #[.pointer (some ⟨t, 0, none⟩), .int .i64 x, .int .i64 u, .int .i64 a] w fun e w' => e = .returned (.int .i64 (Tr.movE T x u a)) ∧ ∃ L', Inv w' t L' (Tr.movR T x u a) n ∧ Grow t L L' T (Tr.movR T x u a) w w' := by
  have key := thas_any h.rep hxw
  have keyu := thas_any h.rep hu
  have same : ∀ e, Tr.movE T x u a = e → e ≠ 0 → Tr.movR T x u a = T := fun e he hne => by unfold Tr.movR; rw [he, if_neg hne]
  cases hX : T x with
  | none =>
    have hE : Tr.movE T x u a = 2 := by unfold Tr.movE; rw [hX]
    rw [hE, same _ hE (by decide)]
    rw [hX] at key
    have HR := Lib.hid h
    clear h keyu same hE
    go_enter Try.func31, Try.ntmps31
    go_wp2_with (go_at_call 14; first | ((with_reducible refine key.mono ?_); rintro e w' ⟨rfl, rfl⟩) | ((with_reducible refine keyu.mono ?_); rintro e w' ⟨rfl, rfl⟩))
    go_ret
    exact ⟨rfl, L, HR.out, Grow.refl _ _ _ _⟩
  | some nd =>
  rw [hX] at key
  cases hU : T u with
  | none =>
    have hE : Tr.movE T x u a = 2 := by unfold Tr.movE; rw [hX, hU]
    rw [hE, same _ hE (by decide)]
    rw [hU] at keyu
    have HR := Lib.hid h
    clear h same hE
    go_enter Try.func31, Try.ntmps31
    go_wp2_with (go_at_call 14; first | ((with_reducible refine key.mono ?_); rintro e w' ⟨rfl, rfl⟩) | ((with_reducible refine keyu.mono ?_); rintro e w' ⟨rfl, rfl⟩))
    go_ret
    exact ⟨rfl, L, HR.out, Grow.refl _ _ _ _⟩
  | some p =>
  rw [hU] at keyu
  have hE0 : Tr.movE T x u a = if x = 0 then 1 else if u ∈ Tr.sub T 64 x then 3 else if a < 0 ∨ ((Tr.wo p.kids x).length : Int) < a then 1 else if 63 < Tr.dep T u + 1 + Tr.hgt T 64 x then 5 else 0 := by unfold Tr.movE; rw [hX, hU]
  by_cases h0 : x = 0
  · have hE : Tr.movE T x u a = 1 := by rw [hE0, if_pos h0]
    rw [hE, same _ hE (by decide)]
    have HR := Lib.hid h
    clear h same hE hE0
    subst h0
    go_enter Try.func31, Try.ntmps31
    go_wp2_with (go_at_call 14; first | ((with_reducible refine key.mono ?_); rintro e w' ⟨rfl, rfl⟩) | ((with_reducible refine keyu.mono ?_); rintro e w' ⟨rfl, rfl⟩))
    go_ret
    exact ⟨rfl, L, HR.out, Grow.refl _ _ _ _⟩
  rw [if_neg h0] at hE0
  have h0b : (x == 0) = false := by simpa using h0
  have keyC := tholds_any (y := u) h.rep (h.wf.fit64 hX)
  by_cases hm : u ∈ Tr.sub T 64 x
  · have hE : Tr.movE T x u a = 3 := by rw [hE0, if_pos hm]
    rw [hE, same _ hE (by decide)]
    have hd : decide (u ∈ Tr.sub T 64 x) = true := by simpa using hm
    rw [hd] at keyC
    have HR := Lib.hid h
    clear h same hE hE0 hm hd
    go_enter Try.func31, Try.ntmps31
    go_wp2_with (first | (go_at_call 14; first | ((with_reducible refine key.mono ?_); rintro e w' ⟨rfl, rfl⟩) | ((with_reducible refine keyu.mono ?_); rintro e w' ⟨rfl, rfl⟩)) | (go_at_call 43; (with_reducible refine keyC.mono ?_); rintro e w1 ⟨rfl, hb1⟩))
    go_ret
    exact ⟨rfl, L, ⟨HR.out.rep.after hb1, HR.out.wf, HR.out.num⟩, Grow.of_below hb1⟩
  rw [if_neg hm] at hE0
  have hd : decide (u ∈ Tr.sub T 64 x) = false := by simpa using hm
  rw [hd] at keyC
  have KO := Lib.hid fun W (hb : Below w.heap.size w W) => tothers_any (h.rep.after hb) hU hxw
  have hup : upOf T x = nd.up := by unfold upOf; rw [hX]
  rw [hup, ← h.wf.others hX hU h0] at KO
  by_cases hr : a < 0 ∨ ((Tr.wo p.kids x).length : Int) < a
  · have hE : Tr.movE T x u a = 1 := by rw [hE0, if_pos hr]
    rw [hE, same _ hE (by decide)]
    have HR := Lib.hid h
    clear h same hE hE0 hm hd hup
    generalize (Tr.wo p.kids x).length = m at *
    rcases hr with hr | hr
    · go_enter Try.func31, Try.ntmps31
      go_wp2_with (first | (go_at_call 14; first | ((with_reducible refine key.mono ?_); rintro e w' ⟨rfl, rfl⟩) | ((with_reducible refine keyu.mono ?_); rintro e w' ⟨rfl, rfl⟩)) | (go_at_call 43; (with_reducible refine keyC.mono ?_); rintro e w1 ⟨rfl, hb1⟩))
      go_ret
      exact ⟨rfl, L, ⟨HR.out.rep.after hb1, HR.out.wf, HR.out.num⟩, Grow.of_below hb1⟩
    · have hr0 : ¬ a < 0 := by omega
      go_enter Try.func31, Try.ntmps31
      go_wp2_with (first | (go_at_call 14; first | ((with_reducible refine key.mono ?_); rintro e w' ⟨rfl, rfl⟩) | ((with_reducible refine keyu.mono ?_); rintro e w' ⟨rfl, rfl⟩)) | (go_at_call 43; (with_reducible refine keyC.mono ?_); rintro e w1 ⟨rfl, hb1⟩) | (go_at_call 44; (with_reducible refine (KO.out _ hb1).mono ?_); rintro e w' ⟨rfl, rfl⟩))
      go_ret
      exact ⟨rfl, L, ⟨HR.out.rep.after hb1, HR.out.wf, HR.out.num⟩, Grow.of_below hb1⟩
  rw [if_neg hr] at hE0
  have hr0 : ¬ a < 0 := fun e => hr (.inl e)
  have hr1 : ¬ ((Tr.wo p.kids x).length : Int) < a := fun e => hr (.inr e)
  obtain ⟨d, hd1, hd2, hd3⟩ := h.wf.dep_some hU
  have KD := Lib.hid fun W (hb : Below w.heap.size w W) => tdepth_some (h.rep.after hb) (fun _ q => h.wf.root_up q) hd2 (by omega)
  have KH := Lib.hid fun W (hb : Below w.heap.size w W) => theight_any 64 x (by omega) (h.rep.after hb) (h.wf.fit64 hX)
  have hg64 := hgt_lt (h.wf.fit64 hX)
  rw [hd3] at hE0
  have hw1 : IntKind.i64.wrap ((d : Int) + 1) = (d : Int) + 1 := by rw [IntWalk.i64_in _ (by omega)]
  have hw2 : IntKind.i64.wrap ((d : Int) + 1 + (Tr.hgt T 64 x : Int)) = (d : Int) + 1 + (Tr.hgt T 64 x : Int) := by rw [IntWalk.i64_in _ (by omega)]
  by_cases hdd : 63 < (d : Int) + 1 + (Tr.hgt T 64 x : Int)
  · have hE : Tr.movE T x u a = 5 := by rw [hE0, if_pos hdd]
    rw [hE, same _ hE (by decide)]
    have HR := Lib.hid h
    clear h same hE hE0 hm hd hup hd2 hd3 hr
    generalize (Tr.wo p.kids x).length = m at *
    generalize Tr.hgt T 64 x = g at *
    go_enter Try.func31, Try.ntmps31
    go_wp2_with (first | (go_at_call 14; first | ((with_reducible refine key.mono ?_); rintro e w' ⟨rfl, rfl⟩) | ((with_reducible refine keyu.mono ?_); rintro e w' ⟨rfl, rfl⟩)) | (go_at_call 43; (with_reducible refine keyC.mono ?_); rintro e w1 ⟨rfl, hb1⟩) | (go_at_call 44; (with_reducible refine (KO.out _ hb1).mono ?_); rintro e w' ⟨rfl, rfl⟩) | (go_at_call 18; (with_reducible refine (KD.out _ hb1).mono ?_); rintro e w' ⟨rfl, rfl⟩) | (go_at_call 45; (with_reducible refine (KH.out _ hb1).mono ?_); rintro e w' ⟨rfl, rfl⟩))
    go_ret
    exact ⟨rfl, L, ⟨HR.out.rep.after hb1, HR.out.wf, HR.out.num⟩, Grow.of_below hb1⟩
  · rw [if_neg hdd] at hE0
    have hR : Tr.movR T x u a = Tr.movT T x u a.toNat := by unfold Tr.movR; rw [hE0, if_pos rfl]
    have HWR := h.wf.movR x u a
    rw [hE0, hR]
    rw [hR] at HWR
    obtain ⟨q, hq, hqm⟩ := h.wf.up x nd hX h0
    obtain ⟨i, hi⟩ := List.mem_iff_getElem?.1 hqm
    have hxu : u ≠ x := fun e => hm (h.wf.is_in hX h0 e)
    have KL := Lib.hid fun W (hb : Below w.heap.size w W) => tleave_any (h.rep.after hb) hX hq hi (h.wf.nodup _ _ hq)
    have hll := left_len h.wf hX h0 hU hm
    have hos := h.wf.ord_small
    have KE := Lib.hid fun W L' (hb : Rep W t L' (Tr.leave T x) n) => tenter_any hb (left_x h.wf hX h0 hU hm) (left_u h.wf hX h0 hU hm) hxu (i := a.toNat) (by simp only; omega) (by simp only; omega)
    rw [Int.toNat_of_nonneg (by omega)] at KE
    have HWR2 := Lib.hid HWR
    have HN := Lib.hid h.num
    clear h same hE0 hm hd hup hd2 hd3 hr hR HWR hq hqm hi hll hos hX hU
    unfold Tr.movT
    generalize (Tr.wo p.kids x).length = m at *
    generalize Tr.hgt T 64 x = g at *
    go_enter Try.func31, Try.ntmps31
    go_wp2_with (first | (go_at_call 14; first | ((with_reducible refine key.mono ?_); rintro e w' ⟨rfl, rfl⟩) | ((with_reducible refine keyu.mono ?_); rintro e w' ⟨rfl, rfl⟩)) | (go_at_call 43; (with_reducible refine keyC.mono ?_); rintro e w1 ⟨rfl, hb1⟩) | (go_at_call 44; (with_reducible refine (KO.out _ hb1).mono ?_); rintro e w' ⟨rfl, rfl⟩) | (go_at_call 18; (with_reducible refine (KD.out _ hb1).mono ?_); rintro e w' ⟨rfl, rfl⟩) | (go_at_call 45; (with_reducible refine (KH.out _ hb1).mono ?_); rintro e w' ⟨rfl, rfl⟩) | (go_at_call 42; (with_reducible refine (KL.out _ hb1).mono ?_); rintro e w2 ⟨⟨v, rfl⟩, L2, hr2, hg2⟩) | (go_at_call 46; (with_reducible refine (KE.out _ _ hr2).mono ?_); rintro e w3 ⟨⟨v, rfl⟩, L3, hr3, hg3⟩))
    go_ret
    exact ⟨rfl, L3, ⟨hr3, HWR2.out.1, HWR2.out.2.trans HN.out⟩, (Grow.of_below hb1).trans (hg2.trans hg3)⟩

end Go.Proofs.Ytbkocceemfhhbaa.Fix

/-! The contract of Remove of a tree. -/
namespace Go.Proofs.Ytbkocceemfhhbaa.Fix
open Go.ChangeShapes Go.WideShapes Go.ChangeAt Go.RowKit Go.Shelf
set_option linter.unusedVariables false
set_option linter.unusedSimpArgs false
set_option maxRecDepth 100000

theorem del_del (T : Tr.T) (l : List Int) {k : Nat} {z : Int} (hz : l[k]? = some z) : Tr.del (Tr.del T (l.take k)) [z] = Tr.del T (l.take (k + 1)) := by
  funext y
  have : y ∈ l.take (k + 1) ↔ y ∈ l.take k ∨ y = z := by rw [List.take_add_one, hz]; simp
  simp only [Tr.del, List.mem_singleton, this]
  by_cases h1 : y = z <;> by_cases h2 : y ∈ l.take k <;> simp [h1, h2]
theorem del_nil (T : Tr.T) : Tr.del T [] = T := by funext y; simp [Tr.del]
theorem owned_del {t : Nat} {L : Lay} {T : Tr.T} {l : List Int} {b : Nat} (h : owned t L (Tr.del T l) b) : owned t L T b := by
  rcases h with h | h | ⟨z, nd, hz, h⟩
  · exact .inl h
  · exact .inr (.inl h)
  · refine .inr (.inr ⟨z, nd, ?_, h⟩)
    unfold Tr.del at hz
    split at hz
    · cases hz
    · exact hz

/-- v is a row of the numbers l, and none of a tree's blocks -/
structure Kept (W : World) (t : Nat) (L : Lay) (T : Tr.T) (v : Value) (l : List Int) : Prop where
  row : KS W v l
  own : ∀ g, v.ownBlock = some g → ¬ owned t L T g
theorem Kept.grow {W W' : World} {t : Nat} {L L' : Lay} {T T' : Tr.T} {v : Value} {l : List Int} (h : Kept W t L T v l) (k : Grow t L L' T T' W W') : Kept W' t L' T' v l :=
  ⟨h.row.out h.own k.1, fun g hg ho => (k.2 g ho).elim (h.own g hg) fun q => absurd (h.row.lt hg) (by omega)⟩
theorem Kept.after {W W' : World} {t : Nat} {L : Lay} {T : Tr.T} {v : Value} {l : List Int} (h : Kept W t L T v l) (hb : Below W.heap.size W W') : Kept W' t L T v l := ⟨h.row.after hb, h.own⟩
theorem Kept.new {W W' : World} {t n base : Nat} {L : Lay} {T : Tr.T} {v : Value} {l : List Int} (hR : Rep W t L T n) (h : W'.ownsRow base 3 1 v l.length (l.map (Value.int .i64))) (hb : W.heap.size ≤ base) : Kept W' t L T v l :=
  ⟨rowBase h (Nat.zero_le _), fun g hg ho => by have h1 := (World.ownsRow.lt h g hg).1; have h2 := hR.lt ho; omega⟩

set_option maxHeartbeats 4000000 in
theorem tremove_any {w : World} {t n : Nat} {L : Lay} {T : Tr.T} (h : Inv w t L T n) {x : Int} (hxw : Wf x) : Calls Try.prog 30 #[.pointer (some ⟨t, 0, none⟩), .int .i64 x] w fun e w' => e = .returned (.tuple #[.int .i64 (Tr.remI T x), .int .i64 (Tr.remE T x)]) ∧ ∃ L' n', Inv w' t L' (Tr.remR T x) n' ∧ n' ≤ n ∧ Grow t L L' T (Tr.remR T x) w w' := by
  have key := thas_any h.rep hxw
  have same : ∀ e, Tr.remE T x = e → e ≠ 0 → Tr.remR T x = T ∧ Tr.remI T x = 0 := fun e he hne => by unfold Tr.remR Tr.remI; rw [he, if_neg hne, if_neg hne]; exact ⟨rfl, rfl⟩
  cases hX : T x with
  | none =>
    have hE : Tr.remE T x = 2 := by unfold Tr.remE; rw [hX]
    rw [hE, (same _ hE (by decide)).1, (same _ hE (by decide)).2]
    rw [hX] at key
    have HR := Lib.hid h
    clear h same hE
    go_enter Try.func30, Try.ntmps30
    go_wp2_with (go_at_call 14; (with_reducible refine key.mono ?_); rintro e w' ⟨rfl, rfl⟩)
    go_ret2
    exact ⟨rfl, L, n, HR.out, Nat.le_refl _, Grow.refl _ _ _ _⟩
  | some nd =>
  rw [hX] at key
  by_cases h0 : x = 0
  · have hE : Tr.remE T x = 1 := by unfold Tr.remE; rw [hX]; dsimp only; rw [if_pos h0]
    rw [hE, (same _ hE (by decide)).1, (same _ hE (by decide)).2]
    have HR := Lib.hid h
    clear h same hE
    subst h0
    go_enter Try.func30, Try.ntmps30
    go_wp2_with (go_at_call 14; (with_reducible refine key.mono ?_); rintro e w' ⟨rfl, rfl⟩)
    go_ret2
    exact ⟨rfl, L, n, HR.out, Nat.le_refl _, Grow.refl _ _ _ _⟩
  have h0b : (x == 0) = false := by simpa using h0
  have hE : Tr.remE T x = 0 := by unfold Tr.remE; rw [hX]; dsimp only; rw [if_neg h0]
  have hI : Tr.remI T x = (Tr.sub T 64 x).length := by unfold Tr.remI; rw [hE, if_pos rfl]
  have hR : Tr.remR T x = Tr.del (Tr.leave T x) (Tr.sub T 64 x) := by unfold Tr.remR; rw [hE, if_pos rfl]; rfl
  have HWR := h.wf.remR x
  rw [hE, hI, hR]
  rw [hI, hR] at HWR
  obtain ⟨q, hq, hqm⟩ := h.wf.up x nd hX h0
  obtain ⟨i, hi⟩ := List.mem_iff_getElem?.1 hqm
  have keyL := tleave_any h.rep hX hq hi (h.wf.nodup _ _ hq)
  obtain ⟨hfit, hsub, _⟩ := h.wf.leave_sub hX h0
  have hnd := h.wf.nodup_sub (h.wf.fit64 hX)
  have hlive : ∀ z, z ∈ Tr.sub T 64 x → Tr.leave T x z ≠ none := fun z hz => by
    obtain ⟨zd, hzd⟩ := ((h.wf.mem_sub (h.wf.fit64 hX)).1 hz).live
    rw [Tr.leave_at hX hq]
    split
    · simp
    · rw [hzd]; simp
  have hlen : (Tr.sub T 64 x).length ≤ n := by have := h.wf.rem_ord hX h0; have := h.num; omega
  have hos := h.wf.ord_small
  have hn := h.num
  have KC := Lib.hid fun W L' tb ib (hb : Rep W t L' (Tr.leave T x) n) htb hib => collect_any (tb := tb) (ib := ib) hb hfit (by rw [hsub]; omega) htb hib
  rw [hsub] at KC
  have HN := Lib.hid hn
  have HWR2 := Lib.hid HWR
  have HND := Lib.hid hnd
  have HLIVE := Lib.hid hlive
  have hn4 : n ≤ 4096 := by omega
  clear h same hE hI hR HWR hq hqm hi hX hfit hsub hnd hos hn hlive h0
  generalize Tr.sub T 64 x = l at *
  generalize Tr.leave T x = T1 at *
  generalize hm : l.length = m at *
  have HM := Lib.hid hm
  clear hm
  go_enter Try.func30, Try.ntmps30
  go_upto_region 7 with (first | (go_at_call 14; (with_reducible refine key.mono ?_); rintro e w' ⟨rfl, rfl⟩) | (go_at_call 42; (with_reducible refine keyL.mono ?_); rintro e w1 ⟨⟨v, rfl⟩, L1, hr1, hg1⟩; have HR1 := Lib.hid hr1; have HG1 := Lib.hid hg1; clear hr1 hg1) | (go_at_call 41; (with_reducible refine (whole_any _ _ _).mono ?_); rintro e w2 ⟨rfl, rfl⟩) | (go_at_call 40; (with_reducible refine (KC.out _ _ _ _ (HR1.out.after (Below.alloc' (Below.alloc' (Below.refl _ _) _) _)) ((At.new w1 _).alloc _) (At.new' (b := w1.heap.size + 1) _ (by simp))).mono ?_); rintro e w3 ⟨⟨v3, rfl, ho⟩, hb3⟩))
  have hb13 := (Below.alloc' (Below.alloc' (Below.refl w1.heap.size w1) (.cells #[.pointer (some ⟨t, 0, none⟩)] 24)) (.cells #[.int .i64 x] 3)).trans (hb3.mono (by simp; omega))
  have hr3 := HR1.out.after hb13
  have hK : Kept w3 t L1 T1 v3 l := Kept.new HR1.out (by rw [HM.out]; exact ho) (by simp; omega)
  have HG3 := Lib.hid (HG1.out.trans (Grow.of_below hb13))
  have HR3 := Lib.hid hr3
  have HK3 := Lib.hid hK
  obtain ⟨A, c, hv, _⟩ := hK.row.ints
  rw [HM.out] at hv
  subst hv
  clear HG1 HR1 ho hb3 hb13 hr3 hK KC key keyL
  go_wp2
  go_loopw [26] (fun i wr => ∃ k : Nat, k ≤ m ∧ i = .int .i64 k ∧ Rep wr t L1 (Tr.del T1 (l.take k)) (n - k) ∧ Kept wr t L1 T1 (.slice A m c) l ∧ Grow t L1 L1 T1 (Tr.del T1 (l.take k)) w3 wr) (fun i _ => m - (intOf i).toNat)
  case atStart => exact ⟨0, by omega, rfl, by rw [List.take_zero, del_nil]; exact HR3.out, HK3.out, by rw [List.take_zero, del_nil]; exact Grow.refl _ _ _ _⟩
  case round =>
    obtain ⟨k, hk, rfl, hRr, hKr, hGr⟩ := hrel
    by_cases hlt : k < m
    · have hltz : (k : Int) < (m : Int) := by omega
      obtain ⟨b, o, rfl, lb, hcell⟩ := (KS.ints_of hKr.row).1.at_ (k := k) (by rw [HM.out]; exact hlt)
      have hgk : l[k]? = some (l.getD k 0) := by rw [List.getD, List.getElem?_eq_getElem (by rw [HM.out]; exact hlt)]; rfl
      have hzl : l.getD k 0 ∈ l := List.mem_iff_getElem?.2 ⟨k, hgk⟩
      have hlv : Tr.del T1 (l.take k) (l.getD k 0) ≠ none := by
        have hnt : l.getD k 0 ∉ l.take k := fun hm => by
          obtain ⟨j, hj⟩ := List.mem_iff_getElem?.1 hm
          have hjk : j < k := by
            obtain ⟨hj2, _⟩ := List.getElem?_eq_some_iff.1 hj
            simp at hj2; omega
          rw [List.getElem?_take, if_pos hjk] at hj
          obtain ⟨h1, h2⟩ := List.getElem?_eq_some_iff.1 hj
          obtain ⟨h3, h4⟩ := List.getElem?_eq_some_iff.1 hgk
          have := (List.getElem_inj HND.out).1 (h2.trans h4.symm)
          omega
        unfold Tr.del
        rw [if_neg hnt]
        exact HLIVE.out _ hzl
      have hdd := del_del T1 l hgk
      generalize l.getD k 0 = z at *
      obtain ⟨zd, hzd⟩ := Option.ne_none_iff_exists'.1 hlv
      obtain ⟨W', hdel, hp, hO, _⟩ := hRr.map.drop (hRr.wf hzd) (by rw [hzd]; rfl) 0
      obtain ⟨hr2, hg2⟩ := hRr.drop hO hp
      rw [hdd] at hr2 hg2
      have c0 := hRr.cT
      have hR2 := Lib.hid hr2
      have hG2 := Lib.hid (hGr.trans hg2)
      have hK2 := Lib.hid (hKr.grow (T' := T1) (L' := L1) ⟨hg2.1.mono fun b _ ho => owned_del ho, fun b ho => .inl ho⟩)
      clear hRr hKr hGr hr2 hg2 hdd hp hO hzd hlv hzl hgk
      go_wp2
      go_round
      case rel => exact ⟨k + 1, by omega, by go_num, by rw [show n - (k + 1) = n - k - 1 by omega]; exact hR2.out, hK2.out, hG2.out⟩
      case measure => simp [intOf]; omega
    · obtain rfl : k = m := by omega
      go_wp2
      go_ret2
      rw [List.take_of_length_le (by rw [HM.out]; exact Nat.le_refl _)] at hRr hGr
      refine ⟨rfl, L1, n - k, ⟨hRr, HWR2.out.1, ?_⟩, by omega, HG3.out.trans hGr⟩
      have h1 := HWR2.out.2
      have h2 := HN.out
      omega

end Go.Proofs.Ytbkocceemfhhbaa.Fix

/-! A map of boxes that grows: the boxes of a tree, one by one, each in blocks of its own. -/
namespace Go.Proofs.Ytbkocceemfhhbaa.Fix
open Go.ChangeShapes Go.WideShapes Go.ChangeAt Go.RowKit Go.Shelf
set_option linter.unusedVariables false
set_option linter.unusedSimpArgs false
set_option maxRecDepth 100000

/-- the blocks of boxes -/
def ownedP (L : Lay) (T : Tr.T) (b : Nat) : Prop := b = L.mb ∨ ∃ z nd, T z = some nd ∧ (b = L.bl z ∨ (L.sl z).ownBlock = some b)

/-- the boxes T lie in a map's blocks, all new since n0 -/
structure Par (W : World) (L : Lay) (T : Tr.T) (n0 m : Nat) : Prop where
  map : PM W L.mb m (fun z => (T z).map fun _ => L.bl z)
  box : ∀ z nd, T z = some nd → At W (L.bl z) (.cells (bcells nd.up (L.sl z) nd.sty) 69)
  row : ∀ z nd, T z = some nd → KS W (L.sl z) nd.kids
  inj : ∀ y z, T y ≠ none → T z ≠ none → L.bl y = L.bl z → y = z
  apart : ∀ y z g, T y ≠ none → T z ≠ none → (L.sl y).ownBlock = some g → (L.sl z).ownBlock = some g → y = z
  new : ∀ b, ownedP L T b → n0 ≤ b

section
variable {W W' : World} {L : Lay} {T : Tr.T} {n0 m : Nat}

theorem Par.out {M : Nat → Prop} (h : Par W L T n0 m) (hm : ∀ b, ownedP L T b → ¬ M b) (k : Out M W W') : Par W' L T n0 m where
  map := h.map.out (hm _ (.inl rfl)) k
  box := fun z nd hz => (h.box z nd hz).out (hm _ (.inr ⟨z, nd, hz, .inl rfl⟩)) k
  row := fun z nd hz => (h.row z nd hz).out (fun g hg => hm _ (.inr ⟨z, nd, hz, .inr hg⟩)) k
  inj := h.inj
  apart := h.apart
  new := h.new
theorem Par.after (h : Par W L T n0 m) (hb : Below W.heap.size W W') : Par W' L T n0 m := h.out (M := fun _ => False) (fun _ _ q => q) (Out.of_below hb)
theorem Par.lt (h : Par W L T n0 m) {b : Nat} (hb : ownedP L T b) : b < W.heap.size := by
  rcases hb with rfl | ⟨z, nd, hz, rfl | hg⟩
  · exact h.map.lt
  · exact (h.box z nd hz).lt
  · exact (h.row z nd hz).lt hg
theorem Par.bl_mb (h : Par W L T n0 m) {z : Int} {nd : Tr.Nd} (hz : T z = some nd) : L.bl z ≠ L.mb := fun e => by
  obtain ⟨es, clock, hm⟩ := h.map.obj
  have := (h.box z nd hz).uniq (e ▸ hm)
  cases this
theorem Par.sl_mb (h : Par W L T n0 m) {z : Int} {nd : Tr.Nd} (hz : T z = some nd) : (L.sl z).ownBlock ≠ some L.mb := fun e => by
  obtain ⟨es, clock, hm⟩ := h.map.obj
  obtain ⟨cur, hc⟩ := (h.row z nd hz).rowAt e
  have := hc.uniq hm
  cases this

/-- a box comes, in new blocks -/
theorem Par.add (h : Par W L T n0 m) {z : Int} {b : Nat} {u : Int} {v : Value} {l : List Int} {s : Re.St} (hz : T z = none) (hb : At W b (.cells (bcells u v s) 69)) (hv : KS W v l)
    (hb0 : n0 ≤ b) (hv0 : ∀ g, v.ownBlock = some g → n0 ≤ g) (hnew : ¬ ownedP L T b) (hvnew : ∀ g, v.ownBlock = some g → ¬ ownedP L T g) (hO : Out (fun x => x = L.mb) W W') (hm : PM W' L.mb (m + 1) (fset (fun z => (T z).map fun _ => L.bl z) z b)) :
    Par W' { L with bl := fun y => if y = z then b else L.bl y, sl := fun y => if y = z then v else L.sl y } (Tr.set T z ⟨u, l, s⟩) n0 (m + 1) := by
  have hne : ∀ y yd, T y = some yd → y ≠ z := fun y yd hy e => by rw [e, hz] at hy; cases hy
  have hbm : b ≠ L.mb := fun e => hnew (.inl e)
  have old : ∀ y, y ≠ z → (Tr.set T z ⟨u, l, s⟩ y ≠ none → T y ≠ none) := fun y e => by rw [Tr.set_other _ _ e]; exact id
  refine ⟨hm.congr fun y _ => ?_, fun y yd hy => ?_, fun y yd hy => ?_, fun x y hx hy => ?_, fun x y g hx hy => ?_, fun x hx => ?_⟩
  · unfold fset
    by_cases e : y = z
    · subst e; simp [Tr.set_same]
    · simp [e, Tr.set_other _ _ e]
  · by_cases e : y = z
    · subst e; rw [Tr.set_same] at hy; cases hy
      simp only [if_true]
      exact hb.out hbm hO
    · rw [Tr.set_other _ _ e] at hy
      simp only [if_neg e]
      exact (h.box y yd hy).out (fun q => h.bl_mb hy q) hO
  · by_cases e : y = z
    · subst e; rw [Tr.set_same] at hy; cases hy
      simp only [if_true]
      exact hv.out (fun g hg (q : g = L.mb) => hvnew g hg (.inl q)) hO
    · rw [Tr.set_other _ _ e] at hy
      simp only [if_neg e]
      exact (h.row y yd hy).out (fun g hg (q : g = L.mb) => h.sl_mb hy (by rw [hg, q])) hO
  · by_cases ex : x = z <;> by_cases ey : y = z
    · intro _; rw [ex, ey]
    · simp only [if_pos ex, if_neg ey]
      obtain ⟨yd, hyd⟩ := Option.ne_none_iff_exists'.1 (old y ey hy)
      exact fun e => (hnew (.inr ⟨y, yd, hyd, .inl e⟩)).elim
    · simp only [if_neg ex, if_pos ey]
      obtain ⟨xd, hxd⟩ := Option.ne_none_iff_exists'.1 (old x ex hx)
      exact fun e => (hnew (.inr ⟨x, xd, hxd, .inl e.symm⟩)).elim
    · simp only [if_neg ex, if_neg ey]
      exact h.inj x y (old x ex hx) (old y ey hy)
  · by_cases ex : x = z <;> by_cases ey : y = z
    · intro _ _; rw [ex, ey]
    · simp only [if_pos ex, if_neg ey]
      obtain ⟨yd, hyd⟩ := Option.ne_none_iff_exists'.1 (old y ey hy)
      exact fun e1 e2 => (hvnew g e1 (.inr ⟨y, yd, hyd, .inr e2⟩)).elim
    · simp only [if_neg ex, if_pos ey]
      obtain ⟨xd, hxd⟩ := Option.ne_none_iff_exists'.1 (old x ex hx)
      exact fun e1 e2 => (hvnew g e2 (.inr ⟨x, xd, hxd, .inr e1⟩)).elim
    · simp only [if_neg ex, if_neg ey]
      exact h.apart x y g (old x ex hx) (old y ey hy)
  · rcases hx with e | ⟨y, yd, hy, e⟩
    · exact h.new x (.inl e)
    · by_cases e2 : y = z
      · subst e2
        simp only [if_true] at e
        rcases e with rfl | e
        · exact hb0
        · exact hv0 x e
      · rw [Tr.set_other _ _ e2] at hy
        simp only [if_neg e2] at e
        exact h.new x (.inr ⟨y, yd, hy, e⟩)
end

/-- how many are in a map: as many as have a box -/
theorem PM.count : ∀ (l : List Int) {W : World} {b m : Nat} {f : Int → Option Nat}, PM W b m f → l.Nodup → (∀ z, z ∈ l → Wf z) → (∀ z, Wf z → (z ∈ l ↔ f z ≠ none)) → m = l.length
  | [], W, b, m, f, h, _, _, hl => by
    obtain ⟨D, h1, h2, h3⟩ := h
    obtain ⟨w', _, hr, _, _⟩ := h1.range keyLaw Try.underlying70
    rcases hr.next keyLaw 0 with ⟨h0, _⟩ | ⟨key, v, kl, y, w2, cnt', hk, hlk, _⟩
    · simpa [h2] using h0
    · obtain ⟨x, _, rfl, hx⟩ := Maps.keyOf_int_inv Try.underlying3 hk
      rw [(h3 x hx).2] at hlk
      have := (hl x hx).2 (by intro e; rw [e] at hlk; cases hlk)
      simp at this
  | z :: l, W, b, m, f, h, hn, hw, hl => by
    have hz := hw z (List.mem_cons_self)
    have hfz : f z ≠ none := (hl z hz).1 List.mem_cons_self
    obtain ⟨W', _, h', _, h1⟩ := h.drop hz (by cases e : f z with | none => exact absurd e hfz | some _ => rfl) 0
    obtain ⟨hn1, hn2⟩ := List.nodup_cons.1 hn
    have := PM.count l h' hn2 (fun y hy => hw y (List.mem_cons_of_mem _ hy)) (fun y hy => by
      unfold fdel
      by_cases e : y = z
      · subst e; simp [hn1]
      · rw [if_neg e, ← hl y hy, List.mem_cons]; simp [e])
    simp only [List.length_cons]
    omega

end Go.Proofs.Ytbkocceemfhhbaa.Fix

/-! The contract of Clone of a tree. -/
namespace Go.Proofs.Ytbkocceemfhhbaa.Fix
open Go.ChangeShapes Go.WideShapes Go.ChangeAt Go.RowKit Go.Shelf
set_option linter.unusedVariables false
set_option linter.unusedSimpArgs false
set_option maxRecDepth 100000

theorem exec_box {w : World} {o : Oper} {a : Act} {t : TypeId} (x : Operand) (ho : o.op = .box t x) {cs : Array Value} (hx : a.eval x = .agg cs) : (execOp a.eval o).run Try.prog w = .ok (.value (.pointer (some ⟨w.heap.size, 0, none⟩))) (w.alloc (.cells cs t)) := by
  unfold execOp
  simp only [ho, hx, Sem.run_bind, Instr.box, newVar, newRow, run_newObj_alloc, Sem.run_pure, Result.andThen_ok]
  rfl
theorem exec_build {w : World} {o : Oper} {a : Act} (t : TypeId) (ps : Array (Nat × Operand)) (ho : o.op = .build t ps) {v : Value} (qs : Array (Nat × Value)) (hq : (ps.map fun p => (p.1, a.eval p.2)) = qs) (hrun : (Instr.build t qs).run Try.prog w = .ok v w) : (execOp a.eval o).run Try.prog w = .ok (.value v) w := by
  unfold execOp; simp only [ho, hq, Sem.run_bind, hrun, Result.andThen_ok, Sem.run_pure]
theorem exec_mapUpdate {w w' : World} {o : Oper} {a : Act} {t : TypeId} (x y z : Operand) (ho : o.op = .mapUpdate t x y z) {m k v : Value} (hx : a.eval x = m) (hy : a.eval y = k) (hz : a.eval z = v) (hrun : (Instr.mapUpdate t m k v).run Try.prog w = .ok () w') : (execOp a.eval o).run Try.prog w = .ok .skip w' := by
  unfold execOp; simp only [ho, hx, hy, hz, Sem.run_bind, hrun, Result.andThen_ok, Sem.run_pure]

theorem reads_load_sty {ops : Array Oper} {S : World → Prop} {o : Oper} {a : Act} (hw : Region.wanted o (yielded ops a.tmps) = true) (x : Operand) (ho : o.op = .load 43 x) {b k : Nat} (hx : a.eval x = .pointer (some ⟨b, k, none⟩)) {s : Re.St} (hs : ∀ w, S w → StyAt w b k s) : Drawn.Reads Try.prog ops S o (.agg (cells s)) a :=
  .inl ⟨hw, fun w h => by unfold execOp; simp only [ho, hx, Sem.run_bind, load_sty (hs w h), Result.andThen_ok, Sem.run_pure]⟩

theorem make_hint (n : Int) (w : World) : (Instr.makeMap 70 (some (.int .i64 n))).run Try.prog w = .ok (.map (some w.heap.size)) (w.alloc (.map #[] 0)) := by kernel_rfl

theorem ranges_out {M : Nat → Prop} {W W' : World} {k : TypeId} {b r n : Nat} {D : DataW Nat} {left : Lit → Bool} {cnt : Nat} (h : W.ranges Try.prog k ptR b r n D left cnt) (hb : ¬ M b) (hr : ¬ M r) (ho : Out M W W') : W'.ranges Try.prog k ptR b r n D left cnt := by
  have h1 := h.owns.lt
  have h2 := h.lt
  obtain ⟨es, clock, since, seen, c0, e1, F, hs, hD, e2, rest⟩ := h
  exact ⟨es, clock, since, seen, c0, (ho.2 b h1 hb).trans e1, F, hs, hD, (ho.2 r h2 hr).trans e2, rest⟩

/-- the boxes that are done -/
def Td (T : Tr.T) (left : Lit → Bool) : Tr.T := fun z => if left (.int .i64 z) = true then none else T z
theorem Td_struck {T : Tr.T} {left : Lit → Bool} {x : Int} {nd : Tr.Nd} (hx : T x = some nd) : Td T (fun kl => left kl && !kl.sameKey (.int .i64 x)) = Tr.set (Td T left) x nd := by
  funext z
  unfold Td Tr.set
  by_cases e : z = x
  · subst e
    simp [hx, WideAt.sameKey_self (keyLit z)]
  · have : (Lit.int .i64 z).sameKey (.int .i64 x) = false := by
      cases h : (Lit.int .i64 z).sameKey (.int .i64 x) with
      | false => rfl
      | true => exact absurd (WideAt.sameKey_eq h) (key_ne e)
    simp [this, e]
theorem Td_none {T : Tr.T} {left : Lit → Bool} (h : ∀ kl, left kl = false) : Td T left = T := by funext z; simp [Td, h]

set_option maxHeartbeats 4000000 in
theorem tclone_any {w : World} {t n : Nat} {L : Lay} {T : Tr.T} (h : Inv w t L T n) : Calls Try.prog 29 #[.pointer (some ⟨t, 0, none⟩)] w fun e w' => (∃ t', e = .returned (.pointer (some ⟨t', 0, none⟩)) ∧ ∃ L', Inv w' t' L' T n ∧ ∀ b, owned t' L' T b → w.heap.size ≤ b) ∧ Below w.heap.size w w' := by
  have hmm := make_hint (n : Int) w
  have keyL := tlen_any h.rep
  have hn4 : n ≤ 4096 := by have := h.wf.ord_small; have := h.num; omega
  have HI := Lib.hid h
  clear h
  go_enter Try.func29, Try.ntmps29
  go_upto_region 2 with (go_at_call 27; (with_reducible refine keyL.mono ?_); rintro e w'' ⟨rfl, rfl⟩)
  have hp1 := PM.made w
  have hB1 : Below w.heap.size w (w.alloc (.map #[] 0)) := Below.alloc' (Below.refl _ _) _
  have hs1 : (w.alloc (.map #[] 0)).heap.size = w.heap.size + 1 := by simp
  generalize w.alloc (.map #[] 0) = W1 at *
  have hr1 := HI.out.rep.after hB1
  obtain ⟨D, hown, hsz, hD⟩ := hr1.map
  have keyA := tall_any hr1
  go_wp2_with (first | (go_at_call 38; (with_reducible refine keyA.mono ?_); rintro e w' ⟨rfl, rfl⟩) | (at_range; refine wpList_range_own _ rfl _ 70 rfl 3 67 keyLaw Try.underlying70 ptR L.mb n D rfl hown ?_; intro w0 hrg0 hg0 hs0) | go_in)
  go_frame
  have hB0 : Below w.heap.size w w0 := hB1.trans ((Out.grown (M := fun _ => False) hg0 (fun b e => by cases e)).below (by omega) (fun b _ q => q))
  have hlt1 := hr1.lt (.inr (.inl rfl))
  have hPar0 : Par w0 ⟨w.heap.size, fun _ => 0, fun _ => .slice none 0 0⟩ (Td T (Maps.has D)) w.heap.size 0 := by
    have hn : ∀ z, Wf z → Td T (Maps.has D) z = none := fun z hz => by
      unfold Td
      split
      · rfl
      · rename_i hh
        rw [(hD z hz).2] at hh
        cases hT : T z with
        | none => rfl
        | some nd => rw [hT] at hh; exact absurd rfl hh
    have hn2 : ∀ z nd, Td T (Maps.has D) z = some nd → False := fun z nd hz => by
      have : T z = some nd := by
        unfold Td at hz
        split at hz
        · cases hz
        · exact hz
      rw [hn z (hr1.wf this)] at hz; cases hz
    refine ⟨(hp1.out (M := fun _ => False) (fun q => q) (Out.grown hg0 (fun b e => by cases e))).congr fun z hz => by rw [hn z hz]; rfl, fun z nd hz => (hn2 z nd hz).elim, fun z nd hz => (hn2 z nd hz).elim, fun y z hy => ?_, fun y z g hy => ?_, fun b hb => ?_⟩
    · obtain ⟨yd, hyd⟩ := Option.ne_none_iff_exists'.1 hy
      exact (hn2 y yd hyd).elim
    · obtain ⟨yd, hyd⟩ := Option.ne_none_iff_exists'.1 hy
      exact (hn2 y yd hyd).elim
    · rcases hb with rfl | ⟨z, nd, hz, _⟩
      · exact Nat.le_refl _
      · exact (hn2 z nd hz).elim
  have hown0 : ∀ b, ownedP ⟨w.heap.size, fun _ => 0, fun _ => .slice none 0 0⟩ (Td T (Maps.has D)) b → b ≠ W1.heap.size := fun b hb e => by
    rcases hb with rfl | ⟨z, nd, hz, _⟩
    · simp only at e; omega
    · have hT : T z = some nd := by
        unfold Td at hz
        split at hz
        · cases hz
        · exact hz
      unfold Td at hz
      rw [(hD z (hr1.wf hT)).2, hT] at hz
      cases hz
  generalize hrr : W1.heap.size = r at *
  have HD := Lib.hid hD
  clear hmm hp1 hr1 hown hg0 keyA hB1 hD
  go_loopw [4] (fun _ wr => ∃ left cnt L2 m, wr.ranges Try.prog 3 ptR L.mb r n D left cnt ∧ L2.mb = w.heap.size ∧ Par wr L2 (Td T left) w.heap.size m ∧ (∀ z, left (.int .i64 z) = true → Wf z → T z ≠ none) ∧ m + cnt ≤ n ∧ (∀ b, ownedP L2 (Td T left) b → b ≠ r) ∧ Below w.heap.size w wr) (fun _ wr => wr.rangeLeft L.mb r)
  case atStart =>
    exact ⟨_, _, _, 0, hrg0, rfl, hPar0, fun z hz hw e => (by rw [(HD.out z hw).2, e] at hz; cases hz), by omega, hown0, hB0⟩
  case round =>
    obtain ⟨left, cnt, L2, m, hrg, hmb, hP, hlv, hmc, hor, hB⟩ := hrel
    go_wp2_with (first | (at_next; refine wpList_next_ranges _ rfl _ rfl 3 keyLaw ptR (Value.int .i64) ptr (fun key kl hk => by obtain ⟨x, rfl, _⟩ := Maps.keyOf_int_inv Try.underlying3 hk; exact ⟨x, rfl⟩) (fun v y hv => by obtain ⟨c, rfl, _⟩ := ptR_some hv; exact ⟨c, rfl⟩) L.mb r n _ _ _ rfl hrg ?_ ?_) | go_in)
    · intro hc0 hl0
      rw [Td_none (T := T) hl0] at hP hor
      have hBn : Below wr.heap.size wr (wr.alloc (.cells #[.map (some w.heap.size)] 72)) := Below.alloc' (Below.refl _ _) _
      have hP2 := hP.after hBn
      have hm : m = n := (PM.count (Tr.ord T) hP.map HI.out.wf.nodup_ord (fun z hz => by obtain ⟨nd, hnd⟩ := HI.out.wf.mem_ord.1 hz; exact HI.out.rep.wf hnd) (fun z _ => by
        rw [HI.out.wf.mem_ord]
        cases T z <;> simp)).trans HI.out.num
      have hRep : Hid (Inv (wr.alloc (.cells #[.map (some w.heap.size)] 72)) wr.heap.size L2 T n) := Lib.hid ⟨⟨hmb ▸ At.new _ _, hm ▸ hP2.map, hP2.box, hP2.row, hP2.inj, hP2.apart, HI.out.rep.small⟩, HI.out.wf, HI.out.num⟩
      have hNew : Hid (∀ b, owned wr.heap.size L2 T b → w.heap.size ≤ b) := Lib.hid fun b hb => by
        rcases hb with rfl | hb
        · exact hB.size
        · exact hP.new b hb
      have HBF := Lib.hid (hB.trans (hBn.mono hB.size))
      clear hP hor hBn hP2 hrg hlv hB
      go_wp2_with (refine wpList_build (by rfl) 72 _ rfl #[(0, .map (some w.heap.size))] (by simp only [List.map_toArray, List.map_cons, List.map_nil]; rfl) (build_tree _ _) ?_)
      go_ret
      exact ⟨⟨_, rfl, L2, hRep.out, hNew.out⟩, HBF.out⟩
    · intro x c kl y1 y2 w2 cnt1 hkey hlx hR hat hrg1 hlt hg1 hs2 hen
      obtain ⟨x', ex, rfl, hxw⟩ := Maps.keyOf_int_inv Try.underlying3 hkey
      injection ex with _ ex
      subst ex
      obtain ⟨c', ec, ey⟩ := ptR_some hR
      injection ey with ey _
      have hne := hlv x hlx hxw
      obtain ⟨nd, hx⟩ := Option.ne_none_iff_exists'.1 hne
      have e1 := hat .nil
      rw [(HD.out x hxw).1, hx] at e1
      rw [ey] at e1
      have e2 := ptD_inj e1
      rw [ec, ← e2] at hen ⊢
      simp only [Option.map_some, ptr] at hen ⊢
      have hO1 : Out (fun b => b = w.heap.size + 1) wr w2 := Out.grown hg1 (fun b e => by injection e with e; exact e.symm)
      have hB2 : Below w.heap.size w w2 := hB.trans (hO1.below hB.size (fun b hb q => by omega))
      have hP2 := hP.out (M := fun b => b = w.heap.size + 1) (fun b hb q => hor b hb (q.trans hs1.symm)) hO1
      go_upto_region 5 with (fail)
      have hB3 : Below w2.heap.size w2 w2.drew := (Below.refl _ _).drew
      have hr3 := HI.out.rep.after (hB2.trans (hB3.mono hB2.size))
      have hP3 := hP2.after hB3
      have hrg3 := ranges_out (M := fun _ => False) hrg1 (fun q => q) (fun q => q) (Out.of_below hB3)
      have hB4 := hB2.trans (hB3.mono hB2.size)
      have hs3 := hB3.size
      obtain ⟨A, cc, hv, _⟩ := (hr3.row x nd hx).ints
      have hS0 : w2.drew.cell? ⟨L.bl x, 0, none⟩ = some (.int .i64 nd.up) ∧ w2.drew.cell? ⟨L.bl x, 1, none⟩ = some (.slice A nd.kids.length cc) ∧ StyAt w2.drew (L.bl x) 2 nd.sty := ⟨hr3.cUp hx, hv ▸ hr3.cKids hx, hr3.sty hx⟩
      have key := clone_any (hr3.row x nd hx) (by have := (hr3.small x nd hx).2.2.2.2; omega)
      rw [hv] at key
      have hRB : Hid (∀ W, Below w2.drew.heap.size w2.drew W → Rep W t L T n) := Lib.hid fun W hb => hr3.after hb
      have hPB : Hid (∀ W, Below w2.drew.heap.size w2.drew W → Par W L2 (Td T left) w.heap.size m) := Lib.hid fun W hb => hP3.after hb
      have HB4 := Lib.hid hB4
      have HRG := Lib.hid hrg3
      have HV := Lib.hid hv
      have HX := Lib.hid hx
      have HLV := Lib.hid hlv
      have HOR := Lib.hid hor
      have hcl := Lib.hid (show _ from hrg.left_eq)
      have hmlt := hr3.lt (.inr (.inl rfl))
      have HLX := Lib.hid hlx
      have hLmb : L.mb ≠ w.heap.size := fun e => by have := HI.out.rep.lt (b := L.mb) (.inr (.inl rfl)); omega
      clear hr3 hP3 hrg3 hB4 hv hR hrg hP hlv hor hB hg1 hkey hat ec ey hne e1 e2 hO1 hB2 hP2 hrg1 hen hB3 hlx hrr hs0 hrg0 hlt1 hown0 hPar0 hB0
      subst hs1
      refine Drawn.wp_region_gen (S := (fun W' => W'.cell? ⟨L.bl x, 0, none⟩ = some (.int .i64 nd.up) ∧ W'.cell? ⟨L.bl x, 1, none⟩ = some (.slice A nd.kids.length cc) ∧ StyAt W' (L.bl x) 2 nd.sty)) 18 (by kernel_rfl) ?_ ?_
      · exact hS0
      intro hS1
      (refine Drawn.gen_take (i := 0) rfl (by kernel_rfl) (by kernel_rfl) (by kernel_rfl) (by kernel_rfl) (by omega) (by assumption) (by first | exact .inr ⟨by rfl, rfl⟩ | exact .inl ⟨by rfl, by intro w2 hS; go_simp; first | done | with_reducible rfl | exact ⟨rfl, rfl⟩⟩) ?_; (try simp only [Act.put, List.setIfInBounds_toArray, List.set_cons_zero, List.set_cons_succ]))
      (refine Drawn.gen_take (i := 1) rfl (by kernel_rfl) (by kernel_rfl) (by kernel_rfl) (by kernel_rfl) (by omega) (by assumption) (by first | exact .inr ⟨by rfl, rfl⟩ | exact .inl ⟨by rfl, by intro w2 hS; go_simp; first | done | with_reducible rfl | exact ⟨rfl, rfl⟩⟩) ?_; (try simp only [Act.put, List.setIfInBounds_toArray, List.set_cons_zero, List.set_cons_succ]))
      (refine Drawn.gen_take (i := 2) rfl (by kernel_rfl) (by kernel_rfl) (by kernel_rfl) (by kernel_rfl) (by omega) (by assumption) (by first | exact .inr ⟨by rfl, rfl⟩ | exact .inl ⟨by rfl, by intro w2 hS; go_simp; first | done | with_reducible rfl | exact ⟨rfl, rfl⟩⟩) ?_; (try simp only [Act.put, List.setIfInBounds_toArray, List.set_cons_zero, List.set_cons_succ]))
      (refine Drawn.gen_take (i := 3) rfl (by kernel_rfl) (by kernel_rfl) (by kernel_rfl) (by kernel_rfl) (by omega) (by first | assumption | exact hS0) (by first | exact .inr ⟨by rfl, rfl⟩ | exact .inl ⟨by rfl, by intro w2 hS; obtain ⟨ca, cb, cc2⟩ := hS; go_simp; first | done | with_reducible rfl | exact ⟨rfl, rfl⟩⟩) ?_; (try simp only [Act.put, List.setIfInBounds_toArray, List.set_cons_zero, List.set_cons_succ]))
      (refine Drawn.gen_take (i := 4) rfl (by kernel_rfl) (by kernel_rfl) (by kernel_rfl) (by kernel_rfl) (by omega) (by first | assumption | exact hS0) (by first | exact .inr ⟨by rfl, rfl⟩ | exact .inl ⟨by rfl, by intro w2 hS; obtain ⟨ca, cb, cc2⟩ := hS; go_simp; first | done | with_reducible rfl | exact ⟨rfl, rfl⟩⟩) ?_; (try simp only [Act.put, List.setIfInBounds_toArray, List.set_cons_zero, List.set_cons_succ]))
      (refine Drawn.gen_take (i := 5) rfl (by kernel_rfl) (by kernel_rfl) (by kernel_rfl) (by kernel_rfl) (by omega) (by first | assumption | exact hS0) (by first | exact .inr ⟨by rfl, rfl⟩ | exact .inl ⟨by rfl, by intro w2 hS; obtain ⟨ca, cb, cc2⟩ := hS; go_simp; first | done | with_reducible rfl | exact ⟨rfl, rfl⟩⟩) ?_; (try simp only [Act.put, List.setIfInBounds_toArray, List.set_cons_zero, List.set_cons_succ]))
      (refine Drawn.gen_take (i := 6) rfl (by kernel_rfl) (by kernel_rfl) (by kernel_rfl) (by kernel_rfl) (by omega) (by assumption) (by first | exact .inr ⟨by rfl, rfl⟩ | exact .inl ⟨by rfl, by intro w2 hS; go_simp; first | done | with_reducible rfl | exact ⟨rfl, rfl⟩⟩) ?_; (try simp only [Act.put, List.setIfInBounds_toArray, List.set_cons_zero, List.set_cons_succ]))
      (refine Drawn.gen_take (i := 7) rfl (by kernel_rfl) (by kernel_rfl) (by kernel_rfl) (by kernel_rfl) (by omega) (by first | assumption | exact hS0) (by first | exact .inr ⟨by rfl, rfl⟩ | exact .inl ⟨by rfl, by intro w2 hS; obtain ⟨ca, cb, cc2⟩ := hS; go_simp; first | done | with_reducible rfl | exact ⟨rfl, rfl⟩⟩) ?_; (try simp only [Act.put, List.setIfInBounds_toArray, List.set_cons_zero, List.set_cons_succ]))
      (refine Drawn.gen_take (i := 8) rfl (by kernel_rfl) (by kernel_rfl) (by kernel_rfl) (by kernel_rfl) (by omega) (by first | assumption | exact hS0) (by first | exact .inr ⟨by rfl, rfl⟩ | exact .inl ⟨by rfl, by intro w2 hS; obtain ⟨ca, cb, cc2⟩ := hS; go_simp; first | done | with_reducible rfl | exact ⟨rfl, rfl⟩⟩) ?_; (try simp only [Act.put, List.setIfInBounds_toArray, List.set_cons_zero, List.set_cons_succ]))
      (refine Drawn.gen_take (i := 9) rfl (by kernel_rfl) (by kernel_rfl) (by kernel_rfl) (by kernel_rfl) (by omega) (by first | assumption | exact hS0) (by first | exact .inr ⟨by rfl, rfl⟩ | exact .inl ⟨by rfl, by intro w2 hS; obtain ⟨ca, cb, cc2⟩ := hS; go_simp; first | done | with_reducible rfl | exact ⟨rfl, rfl⟩⟩) ?_; (try simp only [Act.put, List.setIfInBounds_toArray, List.set_cons_zero, List.set_cons_succ]))
      (refine Drawn.gen_take (i := 11) rfl (by kernel_rfl) (by kernel_rfl) (by kernel_rfl) (by kernel_rfl) (by omega) (by assumption) (by first | exact .inr ⟨by rfl, rfl⟩ | exact .inl ⟨by rfl, by intro w2 hS; go_simp; first | done | with_reducible rfl | exact ⟨rfl, rfl⟩⟩) ?_; (try simp only [Act.put, List.setIfInBounds_toArray, List.set_cons_zero, List.set_cons_succ]))
      (refine Drawn.gen_take (i := 12) rfl (by kernel_rfl) (by kernel_rfl) (by kernel_rfl) (by kernel_rfl) (by omega) (by first | assumption | exact hS0) (by first | exact .inr ⟨by rfl, rfl⟩ | exact .inl ⟨by rfl, by intro w2 hS; obtain ⟨ca, cb, cc2⟩ := hS; go_simp; first | done | with_reducible rfl | exact ⟨rfl, rfl⟩⟩) ?_; (try simp only [Act.put, List.setIfInBounds_toArray, List.set_cons_zero, List.set_cons_succ]))
      (refine Drawn.gen_take (i := 13) rfl (by kernel_rfl) (by kernel_rfl) (by kernel_rfl) (by kernel_rfl) (by omega) (by first | assumption | exact hS0) (by first | exact .inr ⟨by rfl, rfl⟩ | exact .inl ⟨by rfl, by intro w2 hS; obtain ⟨ca, cb, cc2⟩ := hS; go_simp; first | done | with_reducible rfl | exact ⟨rfl, rfl⟩⟩) ?_; (try simp only [Act.put, List.setIfInBounds_toArray, List.set_cons_zero, List.set_cons_succ]))
      (refine Drawn.gen_take (i := 14) rfl (by kernel_rfl) (by kernel_rfl) (by kernel_rfl) (by kernel_rfl) (by omega) (by assumption) (reads_load_sty (by rfl) (.tmp 30) rfl rfl (fun W h => h.2.2)) ?_; (try simp only [Act.put, List.setIfInBounds_toArray, List.set_cons_zero, List.set_cons_succ]))
      refine Drawn.gen_one (i := 10) (by kernel_rfl) rfl (by rfl) ?_
      refine Drawn.Step.call (by go_simp; first | done | with_reducible rfl | exact ⟨rfl, rfl⟩) key ?_
      rintro e w4 ⟨⟨v4, rfl, hown4⟩, hb4⟩
      have hr4 := hRB.out w4 hb4
      refine ⟨_, rfl, fun _ => ⟨hr4.cUp HX.out, HV.out ▸ hr4.cKids HX.out, hr4.sty HX.out⟩, ?_⟩
      (try simp only [Act.put, List.setIfInBounds_toArray, List.set_cons_zero, List.set_cons_succ])
      obtain ⟨A4, c4, hv4, _⟩ := KS.ints (l := nd.kids) (rowBase hown4 (Nat.zero_le _))
      subst hv4
      have hP4 := hPB.out w4 hb4
      have hB45 : Below w4.heap.size w4 (w4.alloc (.cells (bcells nd.up (.slice A4 nd.kids.length c4) nd.sty) 69)) := Below.alloc' (Below.refl _ _) _
      have hA5 : At (w4.alloc (.cells (bcells nd.up (.slice A4 nd.kids.length c4) nd.sty) 69)) w4.heap.size (.cells (bcells nd.up (.slice A4 nd.kids.length c4) nd.sty) 69) := At.new _ _
      have hr5 := hr4.after hB45
      have hP5 := hP4.after hB45
      have hTd : Td T left x = none := by unfold Td; rw [if_pos HLX.out]
      obtain ⟨W6, hmu, p6, ho6⟩ := hP5.map.store (by simp [maxLen]; omega) hxw (by rw [hTd]; rfl) w4.heap.size
      have hr6 := hr5.out (M := fun b => b = L2.mb) (fun b hb q => by have := HI.out.rep.lt hb; omega) ho6
      have hks4 : KS w4 (.slice A4 nd.kids.length c4) nd.kids := rowBase hown4 (Nat.zero_le _)
      have hs4 := hb4.size
      have hg4 : ∀ g, (Value.slice A4 nd.kids.length c4).ownBlock = some g → w2.drew.heap.size ≤ g := fun g hg => (World.ownsRow.lt hown4 g hg).1
      have hg5 : ∀ g, (Value.slice A4 nd.kids.length c4).ownBlock = some g → g < w4.heap.size := fun g hg => (World.ownsRow.lt hown4 g hg).2
      have hB4 := HB4.out.size
      have hlt3 : ∀ b, ownedP L2 (Td T left) b → b < w2.drew.heap.size := fun b hb => (hPB.out _ (Below.refl _ _)).lt hb
      have hP6 := hP5.add hTd hA5 (hks4.after hB45) (by omega) (fun g hg => by have := hg4 g hg; omega) (fun hb => by have := hlt3 _ hb; omega) (fun g hg hb => by have := hlt3 _ hb; have := hg4 g hg; omega) ho6 p6
      have hO36 : Out (fun b => b = w.heap.size) w2.drew W6 := (Out.of_below (hb4.trans (hB45.mono hs4))).trans (hmb ▸ ho6)
      have hrl := (HRG.out.lt)
      have hrg6 := ranges_out HRG.out (M := fun b => b = w.heap.size) hLmb (fun q => by omega) hO36
      rw [hmb] at hmu
      have HR6 := Lib.hid hrg6
      have HP6 := Lib.hid hP6
      have HB6 := Lib.hid (HB4.out.trans (hO36.below hB4 (fun b hb q => by omega)))
      have HMU := Lib.hid hmu
      have HHR5 := Lib.hid hr5
      have HHR6 := Lib.hid hr6
      clear hr5 hr6 hP4 hP5 hP6 hrg6 hO36 hmu p6 ho6 hB45 hA5
      refine Drawn.gen_one (i := 15) (by kernel_rfl) rfl (by rfl) ?_
      refine Drawn.Step.value (exec_build 69 _ rfl #[(0, .int .i64 nd.up), (1, .slice A4 nd.kids.length c4), (2, .agg (cells nd.sty))] (by simp only [List.map_toArray, List.map_cons, List.map_nil]; rfl) (build_box _ _ _ _ _ _)) ?_
      refine ⟨fun _ => ⟨hr4.cUp HX.out, HV.out ▸ hr4.cKids HX.out, hr4.sty HX.out⟩, ?_⟩
      (try simp only [Act.put, List.setIfInBounds_toArray, List.set_cons_zero, List.set_cons_succ])
      refine Drawn.gen_one (i := 16) (by kernel_rfl) rfl (by rfl) ?_
      refine Drawn.Step.value (exec_box (.tmp 32) rfl rfl) ?_
      refine ⟨fun _ => ⟨HHR5.out.cUp HX.out, HV.out ▸ HHR5.out.cKids HX.out, HHR5.out.sty HX.out⟩, ?_⟩
      (try simp only [Act.put, List.setIfInBounds_toArray, List.set_cons_zero, List.set_cons_succ])
      refine Drawn.gen_one (i := 17) (by kernel_rfl) rfl (by rfl) ?_
      refine Drawn.Step.skip (exec_mapUpdate (.tmp 17) (.tmp 18) (.tmp 33) rfl rfl rfl rfl HMU.out) ?_
      refine ⟨fun _ => ⟨HHR6.out.cUp HX.out, HV.out ▸ HHR6.out.cKids HX.out, HHR6.out.sty HX.out⟩, ?_⟩
      (try simp only [Act.put, List.setIfInBounds_toArray, List.set_cons_zero, List.set_cons_succ])
      refine Drawn.gen_end (by kernel_rfl) ?_
      go_roundw
      case rel =>
        refine ⟨_, _, _, _, _, _, _, _, _, _, _, _, _, _, _, _, _, _, _, _, _, _, _, _, ⟨_, cnt1, ⟨L2.mb, fun y => if y = x then w4.heap.size else L2.bl y, fun y => if y = x then .slice A4 nd.kids.length c4 else L2.sl y⟩, m + 1, HR6.out, hmb, ?_, ?_, by omega, ?_, HB6.out⟩, rfl⟩
        · rw [Td_struck HX.out]; exact HP6.out
        · intro z hz hzw
          have hz2 : left (.int .i64 z) = true := by
            cases e : left (.int .i64 z) with
            | true => rfl
            | false => rw [e] at hz; exact hz
          exact HLV.out z hz2 hzw
        · rw [Td_struck HX.out]
          intro b hb
          have h1 := HOR.out
          rcases hb with e | ⟨y, yd, hy, e⟩
          · exact h1 b (.inl e)
          · by_cases ey : y = x
            · subst ey
              simp only [if_true] at e
              rcases e with e | e
              · omega
              · have := hg4 b e; omega
            · rw [Tr.set_other _ _ ey] at hy
              simp only [if_neg ey] at e
              exact h1 b (.inr ⟨y, yd, hy, e⟩)
      case measure => rw [HR6.out.left_eq, hcl.out]; exact hlt

end Go.Proofs.Ytbkocceemfhhbaa.Fix
