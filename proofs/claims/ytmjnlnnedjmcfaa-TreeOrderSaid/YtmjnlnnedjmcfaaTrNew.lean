/- The contracts of New and of Set of a tree. -/
import Derived.Test.YtmjnlnnedjmcfaaTrCollect
import Derived.Test.YtmjnlnnedjmcfaaRecCalls
namespace Go.Proofs.Ytmjnlnnedjmcfaa.Fix
open Go.ChangeShapes Go.WideShapes Go.ChangeAt Go.RowKit Go.Shelf
set_option linter.unusedVariables false
set_option linter.unusedSimpArgs false
set_option maxRecDepth 100000

theorem wpList_build {ops : Array Oper} {rest : List Oper} {o : Oper} {a : Act} {w : World} {Q : Exit → Act → World → Prop} (hw : Region.wanted o (yielded ops a.tmps) = true) (t : TypeId) (ps : Array (Nat × Operand)) (ho : o.op = .build t ps) {v : Value} (qs : Array (Nat × Value)) (hq : (ps.map fun p => (p.1, a.eval p.2)) = qs)
    (hrun : (Instr.build t qs).run Try.prog w = .ok v w) (h : wpList Try.prog ops Q rest (a.put o.dst v) w) : wpList Try.prog ops Q (o :: rest) a w :=
  wpList_value hw (by unfold execOp; simp only [ho, hq, Sem.run_bind, hrun, Result.andThen_ok, Sem.run_pure]) h

/-- the root alone -/
def T0 : Tr.T := fun z => if z = 0 then some ⟨-1, [], Re.zero⟩ else none

theorem tnew_any (w : World) : Calls Try.prog 11 #[] w fun e w' => (∃ t, e = .returned (.pointer (some ⟨t, 0, none⟩)) ∧ ∃ L, Rep w' t L T0 1 ∧ ∀ b, owned t L T0 b → w.heap.size ≤ b) ∧ Below w.heap.size w w' := by
  have hmm := @run_makeMap Try.prog
  have p0 := (PM.made w).out (M := fun _ => False) (fun q => q) (Out.of_below (Below.alloc' (Below.refl _ _) (.cells (bcells (-1) (.slice none 0 0) Re.zero) 69)))
  have hb0 : At ((w.alloc (.map #[] 0)).alloc (.cells (bcells (-1) (.slice none 0 0) Re.zero) 69)) (w.heap.size + 1) (.cells (bcells (-1) (.slice none 0 0) Re.zero) 69) := At.new' _ (by simp)
  have hB0 : Below w.heap.size w ((w.alloc (.map #[] 0)).alloc (.cells (bcells (-1) (.slice none 0 0) Re.zero) 69)) := Below.alloc' (Below.alloc' (Below.refl _ _) _) _
  obtain ⟨W2, hmu, p2, ho⟩ := p0.store (by simp [maxLen]) (z := 0) (by rw [wf_iff]; omega) rfl (w.heap.size + 1)
  have hlm := p0.lt
  have hA2 := hb0.out (M := fun x => x = w.heap.size) (by simp) ho
  have hB2 : Below w.heap.size w W2 := hB0.trans (ho.below (by simp; omega) fun b hb (q : b = _) => by omega)
  have hs2 := ho.size
  simp only [World.size_alloc] at hs2
  have hB3 : Below w.heap.size w (W2.alloc (.cells #[.map (some w.heap.size)] 72)) := Below.alloc' hB2 _
  have hR : Hid (Rep (W2.alloc (.cells #[.map (some w.heap.size)] 72)) W2.heap.size ⟨w.heap.size, fun _ => w.heap.size + 1, fun _ => .slice none 0 0⟩ T0 1 ∧ ∀ b, owned W2.heap.size ⟨w.heap.size, fun _ => w.heap.size + 1, fun _ => .slice none 0 0⟩ T0 b → w.heap.size ≤ b) := Lib.hid (by
    have live : ∀ z, T0 z ≠ none → z = 0 := fun z hz => by
      unfold T0 at hz
      split at hz
      · assumption
      · exact absurd rfl hz
    have some_ : ∀ z nd, T0 z = some nd → z = 0 ∧ nd = ⟨-1, [], Re.zero⟩ := fun z nd hz => by
      unfold T0 at hz
      split at hz
      · injection hz with hz; exact ⟨by assumption, hz.symm⟩
      · cases hz
    refine ⟨⟨At.new _ _, (p2.out (M := fun _ => False) (fun q => q) (Out.of_below (Below.alloc' (Below.refl _ _) _))).congr fun z _ => ?_, fun z nd hz => ?_, fun z nd hz => ?_, fun y z hy hz _ => by rw [live y hy, live z hz], fun y z g hy hz h _ => (by cases h), fun z nd hz => ?_⟩, fun b hb => ?_⟩
    · unfold fset T0
      by_cases e : z = 0 <;> simp [e]
    · obtain ⟨rfl, rfl⟩ := some_ z nd hz
      exact hA2.alloc _
    · obtain ⟨rfl, rfl⟩ := some_ z nd hz
      exact KS.nil _
    · obtain ⟨rfl, rfl⟩ := some_ z nd hz
      simp
    · rcases hb with rfl | rfl | ⟨z, nd, hz, rfl | hb⟩
      · omega
      · exact Nat.le_refl _
      · simp
      · cases hb)
  clear p0 hb0 hB0 p2 ho hlm hA2 hB2 hs2
  go_enter Try.func11, Try.ntmps11
  go_wp2_with (first | (refine wpList_build (by rfl) 69 _ rfl #[(0, .int .i64 (-1))] (by simp only [List.map_toArray, List.map_cons, List.map_nil]; rfl) (build_box_up _ _) ?_) | (refine wpList_build (by rfl) 72 _ rfl #[(0, .map (some w.heap.size))] (by simp only [List.map_toArray, List.map_cons, List.map_nil]; rfl) (build_tree _ _) ?_))
  go_ret
  exact ⟨⟨_, rfl, _, hR.out.1, hR.out.2⟩, hB3⟩

/-! a style is stored in a box -/
theorem store_box {W : World} {b : Nat} {u : Int} {v : Value} {s : Re.St} (h : At W b (.cells (bcells u v s) 69)) (t : Re.St) : (Instr.storeAt 43 (.pointer (some ⟨b, 2, none⟩)) (.agg (cells t))).run Try.prog W = .ok () (W.setRow b (bcells u v t)) := by
  have hz : (sizeOf 43).run Try.prog W = .ok 55 W := by kernel_rfl
  have hst := run_storeCells_at Try.prog b 2 69 (cells t).toList 0 (bcells u v s) W h (by rw [bcells_size, Array.length_toList, cells_size]; omega) (fun x hx => by
    have := Array.all_eq_true_iff_forall_mem.1 (cells_one t) x (by simpa using hx); exact this)
  have e : ((bcells u v s).toList.take (2 + 0) ++ (cells t).toList ++ (bcells u v s).toList.drop (2 + 0 + (cells t).toList.length)).toArray = bcells u v t := by
    apply Array.ext'
    rw [Array.length_toList, cells_size]
    have h1 : (bcells u v s).toList.drop (2 + 0 + 55) = [] := List.drop_of_length_le (by rw [Array.length_toList, bcells_size]; omega)
    rw [h1]
    simp [bcells]
  rw [e] at hst
  have hc : (Value.agg (cells t)).cells = cells t := rfl
  simp only [Instr.storeAt, Instr.sureAddr, storeVar, Sem.run_bind, Sem.run_pure, Result.andThen_ok, hz, hc, cells_size, ne_eq, not_true_eq_false, if_false, hst]

theorem exec_store {w w' : World} {o : Oper} {a : Act} {t : TypeId} (x y : Operand) (ho : o.op = .store t x y) {p v : Value} (hx : a.eval x = p) (hy : a.eval y = v) (hrun : (Instr.storeAt t p v).run Try.prog w = .ok () w') : (execOp a.eval o).run Try.prog w = .ok .skip w' := by
  unfold execOp
  simp only [ho, hx, hy, Sem.run_bind, hrun, Result.andThen_ok, Sem.run_pure]
theorem reads_load_style {ops : Array Oper} {S : World → Prop} {o : Oper} {a : Act} (hw : Region.wanted o (yielded ops a.tmps) = true) (x : Operand) (ho : o.op = .load 43 x) {b : Nat} (hx : a.eval x = .pointer (some ⟨b, 0, none⟩)) {s : Re.St} (hs : ∀ w, S w → At w b (.cells (cells s) 43)) : Drawn.Reads Try.prog ops S o (.agg (cells s)) a :=
  .inl ⟨hw, fun w h => by unfold execOp; simp only [ho, hx, Sem.run_bind, load_style (hs w h), Result.andThen_ok, Sem.run_pure]⟩

/-- what Set answers, and what it leaves -/
def setE (T : Tr.T) (z : Int) (s : Re.St) : Int := if (T z).isSome = false then 2 else if Re.valid s = false then 1 else 0
def setT (T : Tr.T) (z : Int) (s : Re.St) : Tr.T := if setE T z s = 0 then Tr.styT T z s else T

set_option maxHeartbeats 4000000 in
theorem tset_any {w : World} {t n : Nat} {L : Lay} {T : Tr.T} (h : Rep w t L T n) {z : Int} (hz : Wf z) (s : Re.St) : Calls Try.prog 33 #[.pointer (some ⟨t, 0, none⟩), .int .i64 z, .agg (cells s)] w fun e w' => e = .returned (.int .i64 (setE T z s)) ∧ Rep w' t L (setT T z s) n ∧ Grow t L L T (setT T z s) w w' := by
  have hB : Below w.heap.size w (w.alloc (.cells (cells s) 43)) := Below.alloc' (Below.refl _ _) _
  have h1 := h.after hB
  have hA : At (w.alloc (.cells (cells s) 43)) w.heap.size (.cells (cells s) 43) := At.new _ _
  generalize hW : w.alloc (.cells (cells s) 43) = w1 at *
  have key := thas_any h1 hz
  cases hT : T z with
  | none =>
    have hE : setE T z s = 2 := by unfold setE; rw [hT]; rfl
    have hS : setT T z s = T := by unfold setT; rw [hE]; rfl
    rw [hT] at key
    rw [hE, hS]
    have HR := Lib.hid h1
    have HB := Lib.hid hB
    clear h h1 hB hE hS
    go_enter Try.func33, Try.ntmps33
    go_wp2_with (go_at_call 14; (with_reducible refine key.mono ?_); rintro e w' ⟨rfl, rfl⟩)
    go_ret
    exact ⟨rfl, HR.out, Grow.of_below HB.out⟩
  | some nd =>
    rw [hT] at key
    have key2 := recvalid_any s w1
    cases hv : Re.valid s with
    | false =>
      have hE : setE T z s = 1 := by unfold setE; rw [hT, hv]; rfl
      have hS : setT T z s = T := by unfold setT; rw [hE]; rfl
      rw [hv] at key2
      rw [hE, hS]
      have HR := Lib.hid h1
      have HB := Lib.hid hB
      clear h h1 hB hE hS
      go_enter Try.func33, Try.ntmps33
      go_wp2_with (first | (refine wpList_load_style (by rfl) _ rfl rfl hA ?_) | (go_at_call 14; (with_reducible refine key.mono ?_); rintro e w' ⟨rfl, rfl⟩) | (go_at_call 48; (with_reducible refine key2.mono ?_); rintro e w2 ⟨rfl, hb2⟩))
      go_ret
      exact ⟨rfl, HR.out.after hb2, Grow.of_below (HB.out.trans (hb2.mono HB.out.size))⟩
    | true =>
      have hE : setE T z s = 0 := by unfold setE; rw [hT, hv]; rfl
      have hS : setT T z s = Tr.set T z { nd with sty := s } := by unfold setT Tr.styT; rw [hE, hT]; rfl
      rw [hv] at key2
      rw [hE, hS]
      have HR := Lib.hid h1
      have HB := Lib.hid hB
      have HA := Lib.hid hA
      clear h h1 hB hE hS
      go_enter Try.func33, Try.ntmps33
      go_upto_region 5 with (first | (refine wpList_load_style (by rfl) _ rfl rfl hA ?_) | (go_at_call 14; (with_reducible refine key.mono ?_); rintro e w' ⟨rfl, rfl⟩) | (go_at_call 48; (with_reducible refine key2.mono ?_); rintro e w2 ⟨rfl, hb2⟩))
      have hR2 := (HR.out.after hb2).after (Below.refl _ w2).drew
      have hA2 : At w2.drew w.heap.size (.cells (cells s) 43) := (hA.keep hb2).drew
      have hO2 : Below w.heap.size w w2.drew := (HB.out.trans (hb2.mono HB.out.size)).drew
      have hne : L.bl z ≠ w.heap.size := fun e => by have := (hR2.box z nd hT).uniq (e ▸ hA2); injection this with _ e2; exact absurd e2 (by decide)
      obtain ⟨hR3, hG3⟩ := hR2.setSty (s := s) hT
      have hst := store_box (hR2.box z nd hT) s
      have hA3 := hA2.offRow hne.symm (bcells nd.up (L.sl z) s)
      generalize hW2 : w2.drew = W2 at *
      have hS0 : W2.cell? ⟨t, 0, none⟩ = some (.map (some L.mb)) ∧ (Instr.lookup 70 (.map (some L.mb)) (.int .i64 z) false).run Try.prog W2 = .ok (.pointer (some ⟨L.bl z, 0, none⟩)) W2 ∧ At W2 w.heap.size (.cells (cells s) 43) := ⟨hR2.cT, hR2.look_some hT, hA2⟩
      have hS3 := Lib.hid (show _ ∧ _ ∧ At (W2.setRow (L.bl z) (bcells nd.up (L.sl z) s)) w.heap.size (.cells (cells s) 43) from ⟨hR3.cT, hR3.look_some (Tr.set_same _ _ _), hA3⟩)
      have HST := Lib.hid hst
      have HR3 := Lib.hid hR3
      have HG3 := Lib.hid ((Grow.of_below hO2).trans hG3)
      clear hR2 hA2 hO2 hR3 hG3 hst hA3 HR HB hA hb2
      generalize W2.setRow (L.bl z) (bcells nd.up (L.sl z) s) = W3 at *
      refine Drawn.wp_region_gen (S := (fun W' => W'.cell? ⟨t, 0, none⟩ = some (.map (some L.mb)) ∧ (Instr.lookup 70 (.map (some L.mb)) (.int .i64 z) false).run Try.prog W' = .ok (.pointer (some ⟨L.bl z, 0, none⟩)) W' ∧ At W' w.heap.size (.cells (cells s) 43))) 10 (by kernel_rfl) ?_ ?_
      · rw [hW2]; exact hS0
      intro hS1
      rw [hW2]
      clear hS1 hW2
      (refine Drawn.gen_take (i := 0) rfl (by kernel_rfl) (by kernel_rfl) (by kernel_rfl) (by kernel_rfl) (by omega) (by assumption) (by first | exact .inr ⟨by rfl, rfl⟩ | exact .inl ⟨by rfl, by intro w2 hS; go_simp; first | done | with_reducible rfl | exact ⟨rfl, rfl⟩⟩) ?_; (try simp only [Act.put, List.setIfInBounds_toArray, List.set_cons_zero, List.set_cons_succ]))
      (refine Drawn.gen_take (i := 1) rfl (by kernel_rfl) (by kernel_rfl) (by kernel_rfl) (by kernel_rfl) (by omega) (by first | assumption | exact hS0) (by first | exact .inr ⟨by rfl, rfl⟩ | exact .inl ⟨by rfl, by intro w2 hS; obtain ⟨ca, cl, hh⟩ := hS; go_simp; first | done | with_reducible rfl | exact ⟨rfl, rfl⟩⟩) ?_; (try simp only [Act.put, List.setIfInBounds_toArray, List.set_cons_zero, List.set_cons_succ]))
      (refine Drawn.gen_take (i := 2) rfl (by kernel_rfl) (by kernel_rfl) (by kernel_rfl) (by kernel_rfl) (by omega) (by first | assumption | exact hS0) (by first | exact .inr ⟨by rfl, rfl⟩ | exact .inl ⟨by rfl, by intro w2 hS; obtain ⟨ca, cl, hh⟩ := hS; go_simp; first | done | with_reducible rfl | exact ⟨rfl, rfl⟩⟩) ?_; (try simp only [Act.put, List.setIfInBounds_toArray, List.set_cons_zero, List.set_cons_succ]))
      (refine Drawn.gen_take (i := 3) rfl (by kernel_rfl) (by kernel_rfl) (by kernel_rfl) (by kernel_rfl) (by omega) (by first | assumption | exact hS0) (by first | exact .inr ⟨by rfl, rfl⟩ | exact .inl ⟨by rfl, by intro w2 hS; obtain ⟨ca, cl, hh⟩ := hS; go_simp; first | done | with_reducible rfl | exact ⟨rfl, rfl⟩⟩) ?_; (try simp only [Act.put, List.setIfInBounds_toArray, List.set_cons_zero, List.set_cons_succ]))
      (refine Drawn.gen_take (i := 4) rfl (by kernel_rfl) (by kernel_rfl) (by kernel_rfl) (by kernel_rfl) (by omega) (by assumption) (by first | exact .inr ⟨by rfl, rfl⟩ | exact .inl ⟨by rfl, by intro w2 hS; go_simp; first | done | with_reducible rfl | exact ⟨rfl, rfl⟩⟩) ?_; (try simp only [Act.put, List.setIfInBounds_toArray, List.set_cons_zero, List.set_cons_succ]))
      (refine Drawn.gen_take (i := 5) rfl (by kernel_rfl) (by kernel_rfl) (by kernel_rfl) (by kernel_rfl) (by omega) (by assumption) (reads_lookup (by rfl) rfl rfl rfl (fun W h => h.2.1)) ?_; (try simp only [Act.put, List.setIfInBounds_toArray, List.set_cons_zero, List.set_cons_succ]))
      (refine Drawn.gen_take (i := 6) rfl (by kernel_rfl) (by kernel_rfl) (by kernel_rfl) (by kernel_rfl) (by omega) (by assumption) (reads_load_style (by rfl) (.tmp 5) rfl rfl (fun W h => h.2.2)) ?_; (try simp only [Act.put, List.setIfInBounds_toArray, List.set_cons_zero, List.set_cons_succ]))
      (refine Drawn.gen_take (i := 7) rfl (by kernel_rfl) (by kernel_rfl) (by kernel_rfl) (by kernel_rfl) (by omega) (by assumption) (by first | exact .inr ⟨by rfl, rfl⟩ | exact .inl ⟨by rfl, by intro w2 hS; go_simp; first | done | with_reducible rfl | exact ⟨rfl, rfl⟩⟩) ?_; (try simp only [Act.put, List.setIfInBounds_toArray, List.set_cons_zero, List.set_cons_succ]))
      (refine Drawn.gen_take (i := 8) rfl (by kernel_rfl) (by kernel_rfl) (by kernel_rfl) (by kernel_rfl) (by omega) (by assumption) (by first | exact .inr ⟨by rfl, rfl⟩ | exact .inl ⟨by rfl, by intro w2 hS; go_simp; first | done | with_reducible rfl | exact ⟨rfl, rfl⟩⟩) ?_; (try simp only [Act.put, List.setIfInBounds_toArray, List.set_cons_zero, List.set_cons_succ]))
      refine Drawn.gen_one (i := 9) (by kernel_rfl) rfl (by rfl) ?_
      refine Drawn.Step.skip (exec_store (.tmp 24) (.tmp 22) rfl rfl rfl HST.out) ?_
      refine ⟨fun _ => hS3.out, ?_⟩
      (try simp only [Act.put, List.setIfInBounds_toArray, List.set_cons_zero, List.set_cons_succ])
      refine Drawn.gen_end (by kernel_rfl) ?_
      go_wp2
      go_ret
      exact ⟨rfl, HR3.out, HG3.out⟩

end Go.Proofs.Ytmjnlnnedjmcfaa.Fix
