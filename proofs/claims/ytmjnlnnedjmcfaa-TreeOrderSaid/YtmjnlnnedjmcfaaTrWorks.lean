/- The document's example of trees. -/
import Derived.Test.YtmjnlnnedjmcfaaTrGood
namespace Go.Proofs.Ytmjnlnnedjmcfaa.Fix
open Go.ChangeShapes Go.WideShapes Go.ChangeAt Go.RowKit Go.Deep Go.Joins Go.Shelf
set_option linter.unusedVariables false
set_option linter.unusedSimpArgs false
set_option maxRecDepth 100000

def sGap : Re.St := ⟨fun i => if i = 46 then 3 else 0, fun _ => false⟩
def A1 : Tr.T := Tr.addT T0 1 0 0
def A2 : Tr.T := Tr.addT A1 2 0 1
def A3 : Tr.T := Tr.movT A2 1 2 0
def A4 : Tr.T := Tr.styT A3 1 sGap

theorem isSome_ne {t : Tr.T} {z : Int} (h : (t z).isSome = true) : t z ≠ none := fun e => by rw [e] at h; cases h
theorem isSome_none {t : Tr.T} {z : Int} (h : (t z).isSome = false) : t z = none := by cases e : t z with
  | none => rfl
  | some _ => rw [e] at h; cases h
theorem ex_f1 : Tr.free T0 = 1 := Tr.free_eq ⟨by decide, isSome_none (by decide +kernel), fun y h0 h1 => by
  obtain rfl : y = 0 := by omega
  exact isSome_ne (by decide +kernel)⟩
theorem ex_e1 : Tr.addE T0 0 0 = 0 := by decide +kernel
theorem ex_i1 : Tr.addI T0 0 0 = 1 := by unfold Tr.addI; rw [ex_e1, if_pos rfl, ex_f1]
theorem ex_t1 : Tr.addR T0 0 0 = A1 := by unfold Tr.addR; rw [ex_e1, if_pos rfl, ex_f1]; rfl
theorem ex_e2 : Tr.addE A1 0 1 = 0 := by decide +kernel
theorem ex_f2 : Tr.free A1 = 2 := Tr.free_eq ⟨by decide, isSome_none (by decide +kernel), fun y h0 h1 => by
  obtain rfl | rfl : y = 0 ∨ y = 1 := by omega
  · exact isSome_ne (by decide +kernel)
  · exact isSome_ne (by decide +kernel)⟩
theorem ex_i2 : Tr.addI A1 0 1 = 2 := by unfold Tr.addI; rw [ex_e2, if_pos rfl, ex_f2]
theorem ex_t2 : Tr.addR A1 0 1 = A2 := by unfold Tr.addR; rw [ex_e2, if_pos rfl, ex_f2]; rfl
theorem ex_e3 : Tr.movE A2 1 2 0 = 0 := by decide +kernel
theorem ex_t3 : Tr.movR A2 1 2 0 = A3 := by unfold Tr.movR; rw [ex_e3, if_pos rfl]; rfl
theorem ex_e4 : Tr.movE A3 2 1 0 = 3 := by decide +kernel
theorem ex_t4 : Tr.movR A3 2 1 0 = A3 := by unfold Tr.movR; rw [ex_e4, if_neg (by decide)]
theorem ex_e5 : setE A3 1 sGap = 0 := by decide +kernel
theorem ex_t5 : setT A3 1 sGap = A4 := by unfold setT; rw [ex_e5, if_pos rfl]; rfl
theorem ex_o : Tr.ord A4 = [0, 2, 1] := by decide +kernel
theorem ex_d : Tr.dep A4 1 = 2 := by decide +kernel
theorem ex_u : upOf A4 1 = 2 := by decide +kernel
theorem ex_s : styOf A4 1 = sGap := by rfl
theorem ex_h : (A4 2).isSome = true := by decide +kernel
theorem ex_k : kidsOf A4 2 = [1] := by decide +kernel
theorem ex_fit : Fits sGap := fun i _ _ => by
  show (Lit.int .i64 (if i = 46 then 3 else 0)).wf = true
  split <;> decide +kernel
theorem build_gap (W : World) : (Instr.build 43 #[(19, .int .i64 3)]).run Try.prog W = .ok (.agg (cells sGap)) W := by kernel_rfl

section
variable {w : World} {t n n0 : Nat} {L : Lay}
theorem w_add1 (h : Good w t L T0 n n0) (hn : n < 4096) (h0 : n0 ≤ w.heap.size) : Calls Try.prog 32 #[.pointer (some ⟨t, 0, none⟩), .int .i64 0, .int .i64 0] w fun e w' => e = .returned (.tuple #[.int .i64 1, .int .i64 0]) ∧ ∃ L' n', Good w' t L' A1 n' n0 ∧ n' ≤ n + 1 ∧ Below n0 w w' := by
  have := gadd_any h hn h0 (u := 0) (a := 0) ((wf_iff _).2 (by omega))
  rw [ex_i1, ex_e1, ex_t1] at this
  exact this.mono fun e w' ⟨h1, L', n', h2, h3, _, h4⟩ => ⟨h1, L', n', h2, h3, h4⟩
theorem w_add2 (h : Good w t L A1 n n0) (hn : n < 4096) (h0 : n0 ≤ w.heap.size) : Calls Try.prog 32 #[.pointer (some ⟨t, 0, none⟩), .int .i64 0, .int .i64 1] w fun e w' => e = .returned (.tuple #[.int .i64 2, .int .i64 0]) ∧ ∃ L' n', Good w' t L' A2 n' n0 ∧ n' ≤ n + 1 ∧ Below n0 w w' := by
  have := gadd_any h hn h0 (u := 0) (a := 1) ((wf_iff _).2 (by omega))
  rw [ex_i2, ex_e2, ex_t2] at this
  exact this.mono fun e w' ⟨h1, L', n', h2, h3, _, h4⟩ => ⟨h1, L', n', h2, h3, h4⟩
theorem w_mov1 (h : Good w t L A2 n n0) (h0 : n0 ≤ w.heap.size) : Calls Try.prog 31 #[.pointer (some ⟨t, 0, none⟩), .int .i64 1, .int .i64 2, .int .i64 0] w fun e w' => e = .returned (.int .i64 0) ∧ ∃ L', Good w' t L' A3 n n0 ∧ Below n0 w w' := by
  have := gmove_any h h0 (x := 1) (u := 2) (a := 0) ((wf_iff _).2 (by omega)) ((wf_iff _).2 (by omega))
  rw [ex_e3, ex_t3] at this
  exact this.mono fun e w' ⟨h1, L', h2, _, h4⟩ => ⟨h1, L', h2, h4⟩
theorem w_mov2 (h : Good w t L A3 n n0) (h0 : n0 ≤ w.heap.size) : Calls Try.prog 31 #[.pointer (some ⟨t, 0, none⟩), .int .i64 2, .int .i64 1, .int .i64 0] w fun e w' => e = .returned (.int .i64 3) ∧ ∃ L', Good w' t L' A3 n n0 ∧ Below n0 w w' := by
  have := gmove_any h h0 (x := 2) (u := 1) (a := 0) ((wf_iff _).2 (by omega)) ((wf_iff _).2 (by omega))
  rw [ex_e4, ex_t4] at this
  exact this.mono fun e w' ⟨h1, L', h2, _, h4⟩ => ⟨h1, L', h2, h4⟩
theorem w_set (h : Good w t L A3 n n0) (h0 : n0 ≤ w.heap.size) : Calls Try.prog 33 #[.pointer (some ⟨t, 0, none⟩), .int .i64 1, .agg (cells sGap)] w fun e w' => e = .returned (.int .i64 0) ∧ ∃ L', Good w' t L' A4 n n0 ∧ Below n0 w w' := by
  have := gset_any h h0 (x := 1) ((wf_iff _).2 (by omega)) ex_fit
  rw [ex_e5, ex_t5] at this
  exact this.mono fun e w' ⟨h1, h2, _, h4⟩ => ⟨h1, L, h2, h4⟩
theorem w_order (h : Good w t L A4 n n0) : Calls Try.prog 26 #[.pointer (some ⟨t, 0, none⟩)] w fun e w' => (∃ b o c, e = .returned (.slice (some ⟨b, o, none⟩) 3 c) ∧ b < w'.heap.size ∧ w'.cell? ⟨b, o + 1, none⟩ = some (.int .i64 2)) ∧ Below w.heap.size w w' := by
  have := gorder_any h
  rw [ex_o] at this
  refine this.mono ?_
  rintro e w' ⟨⟨v, rfl, hk⟩, hb⟩
  obtain ⟨A, c, rfl, hI, _⟩ := hk.row.ints
  obtain ⟨b, o, rfl, lb, hc⟩ := hI.at_ (k := 1) (by simp)
  exact ⟨⟨b, o, c, rfl, lb, hc⟩, hb⟩
theorem w_kids (h : Good w t L A4 n n0) : Calls Try.prog 23 #[.pointer (some ⟨t, 0, none⟩), .int .i64 2] w fun e w' => (∃ A c, e = .returned (.slice A 1 c)) ∧ Below w.heap.size w w' := by
  have := gkids_any h (z := 2) ((wf_iff _).2 (by omega))
  rw [ex_k] at this
  refine this.mono ?_
  rintro e w' ⟨⟨v, rfl, hk⟩, hb⟩
  obtain ⟨A, c, rfl, _⟩ := hk.row.ints
  exact ⟨⟨A, c, rfl⟩, hb⟩
theorem w_depth (h : Good w t L A4 n n0) : Calls Try.prog 18 #[.pointer (some ⟨t, 0, none⟩), .int .i64 1] w fun e w' => e = .returned (.int .i64 2) ∧ w' = w := by
  have := gdepth_any h (z := 1) ((wf_iff _).2 (by omega))
  rwa [ex_d] at this
theorem w_up (h : Good w t L A4 n n0) : Calls Try.prog 16 #[.pointer (some ⟨t, 0, none⟩), .int .i64 1] w fun e w' => e = .returned (.int .i64 2) ∧ w = w' := by
  have := tup_any h.inv.rep (z := 1) ((wf_iff _).2 (by omega))
  rwa [ex_u] at this
theorem w_style (h : Good w t L A4 n n0) : Calls Try.prog 20 #[.pointer (some ⟨t, 0, none⟩), .int .i64 1] w fun e w' => e = .returned (.agg (cells sGap)) ∧ Below w.heap.size w w' := tstyle_any h.inv.rep (z := 1) ((wf_iff _).2 (by omega))
theorem w_len (h : Good w t L A4 n n0) : Calls Try.prog 27 #[.pointer (some ⟨t, 0, none⟩)] w fun e w' => e = .returned (.int .i64 3) ∧ w = w' := by
  have := tlen_any h.inv.rep
  have hn : n = 3 := by have := h.inv.num; rw [ex_o] at this; exact this.symm
  subst hn
  exact this
theorem w_has (h : Inv w t L A4 n) : Calls Try.prog 14 #[.pointer (some ⟨t, 0, none⟩), .int .i64 2] w fun e w' => e = .returned (.bool true) ∧ w = w' := by
  have := thas_any h.rep (z := 2) ((wf_iff _).2 (by omega))
  rwa [ex_h] at this
end
theorem wpList_gap {ops : Array Oper} {rest : List Oper} {o : Oper} {a : Act} {w : World} {Q : Exit → Act → World → Prop} (hw : Region.wanted o (yielded ops a.tmps) = true) (x : Operand) (ho : o.op = .field 43 x 19) {s : Re.St} (hx : a.eval x = .agg (cells s))
    (h : wpList Try.prog ops Q rest (a.put o.dst (.int .i64 (s.c 46))) w) : wpList Try.prog ops Q (o :: rest) a w := by
  have hr : (Instr.field 43 (.agg (cells s)) 19).run Try.prog w = .ok (.int .i64 (s.c 46)) w := by kernel_rfl
  exact wpList_value hw (by unfold execOp; simp only [ho, hx, Sem.run_bind, hr, Result.andThen_ok, Sem.run_pure]) h

set_option maxHeartbeats 8000000 in
theorem trworks_any (w : World) : Calls Try.prog 10 #[] w fun e w' => e = .returned (.bool true) ∧ Below w.heap.size w w' := by
  go_enter Try.func10, Try.ntmps10
  go_upto_region 10 with (first | (go_at_call 11; (with_reducible refine (gnew_any w).mono ?_); rintro e w1 ⟨⟨t, rfl, L0, g0⟩, hb0⟩; have hs0 := hb0.size; have G0 := Lib.hid g0; clear g0) | (go_at_call 32; (with_reducible refine (w_add2 G1.out hn1 hs1).mono ?_); rintro e w3 ⟨rfl, L2, n2, g2, hl2, hb2⟩; have G2 := Lib.hid g2; have hs2 := Nat.le_trans hs1 hb2.size; clear g2) | (go_at_call 32; (with_reducible refine (w_add1 G0.out (by omega) hs0).mono ?_); rintro e w2 ⟨rfl, L1, n1, g1, hl1, hb1⟩; have G1 := Lib.hid g1; have hs1 := Nat.le_trans hs0 hb1.size; have hn1 : n1 < 4096 := (by omega); clear g1) | (go_at_call 31; (with_reducible refine (w_mov2 G3.out hs3).mono ?_); rintro e w5 ⟨rfl, L4, g4, hb4⟩; have G4 := Lib.hid g4; have hs4 := Nat.le_trans hs3 hb4.size; clear g4) | (go_at_call 31; (with_reducible refine (w_mov1 G2.out hs2).mono ?_); rintro e w4 ⟨rfl, L3, g3, hb3⟩; have G3 := Lib.hid g3; have hs3 := Nat.le_trans hs2 hb3.size; clear g3) | (refine wpList_build (by rfl) 43 _ rfl #[(19, .int .i64 3)] (by simp only [List.map_toArray, List.map_cons, List.map_nil]; rfl) (build_gap _) ?_) | (go_at_call 33; (with_reducible refine (w_set G4.out hs4).mono ?_); rintro e w6 ⟨rfl, L5, g5, hb5⟩; have G5 := Lib.hid g5; have hs5 := Nat.le_trans hs4 hb5.size; clear g5) | (go_at_call 26; (with_reducible refine (w_order G5.out).mono ?_); rintro e w7 ⟨⟨b7, o7, c7, rfl, lb7, hc7⟩, hb6⟩))
  have G6 := Lib.hid (G5.out.after hb6)
  have hs6 := Nat.le_trans hs5 hb6.size
  have HB := Lib.hid (hb0.trans (hb1.trans (hb2.trans (hb3.trans (hb4.trans (hb5.trans (hb6.mono hs5)))))))
  clear hb0 hb1 hb2 hb3 hb4 hb5 hb6 G0 G1 G2 G3 G4 G5 hs0 hs1 hs2 hs3 hs4 hs5
  go_upto_region 11 with (go_at_call 29; (with_reducible refine (tclone_any G6.out.inv).mono ?_); rintro e w8 ⟨⟨t2, rfl, L7, i7, o7'⟩, hb7⟩)
  have G7 := Lib.hid (G6.out.after hb7)
  have I7 := Lib.hid i7
  have hc8 := (hb7.cell (p := ⟨b7, o7 + 1, none⟩) lb7).trans hc7
  have lb8 := Nat.lt_of_lt_of_le lb7 hb7.size
  have HB7 := Lib.hid (HB.out.trans (hb7.mono hs6))
  clear i7 o7' hb7 hc7 HB G6 lb7 hs6
  go_wp2_with (first | (go_at_call 18; (with_reducible refine (w_depth G7.out).mono ?_); rintro e w' ⟨rfl, rfl⟩) | (go_at_call 16; (with_reducible refine (w_up G7.out).mono ?_); rintro e w' ⟨rfl, rfl⟩) | (go_at_call 20; (with_reducible refine (w_style G7.out).mono ?_); rintro e w9 ⟨rfl, hb8⟩; have G8 := Lib.hid (G7.out.after hb8); have I8 := Lib.hid (I7.out.after hb8)) | (refine wpList_gap (by rfl) _ rfl rfl ?_) | (go_at_call 27; (with_reducible refine (w_len G8.out).mono ?_); rintro e w' ⟨rfl, rfl⟩) | (go_at_call 14; (with_reducible refine (w_has I8.out).mono ?_); rintro e w' ⟨rfl, rfl⟩) | (go_at_call 23; (with_reducible refine (w_kids G8.out).mono ?_); rintro e w10 ⟨⟨A9, c9, rfl⟩, hb9⟩))
  go_ret
  exact ⟨rfl, HB7.out.trans ((hb8.trans (hb9.mono hb8.size)).mono HB7.out.size)⟩

end Go.Proofs.Ytmjnlnnedjmcfaa.Fix
