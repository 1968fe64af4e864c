/- The document's own answer for record: Get. -/
import Derived.Test.YtpfkencgjodehaaRecRef0
import Derived.Test.YtpfkencgjodehaaRecCalls
import Derived.Test.YtpfkencgjodehaaRecRefV
namespace Go.Proofs.Ytpfkencgjodehaa.Fix
open Go.ChangeShapes Go.WideShapes Go.ChangeAt Go.RowKit
set_option linter.unusedVariables false

/-- the places that are laid already -/
def gs (l : List Int) (p : Nat → Bool) : Re.St := ⟨fun i => if p i = true then l.getD i 0 else 0, fun i => if p i = true then l.getD i 0 == 1 else false⟩
def upto (n : Nat) (i : Nat) : Bool := decide (i < n)
/-- four rows of sides that are under way -/
def sided (a b c d : Nat) (i : Nat) : Bool := decide (i < 15) || (decide (15 ≤ i) && decide (i < 15 + a)) || (decide (23 ≤ i) && decide (i < 23 + b)) || (decide (31 ≤ i) && decide (i < 31 + c)) || (decide (35 ≤ i) && decide (i < 35 + d))

theorem gs_int {l : List Int} {p q : Nat → Bool} {k : Nat} (hb : Re.isB k = false) (hk : q k = true) (h : ∀ j, j < 55 → j ≠ k → q j = p j) : (cells (gs l p)).setIfInBounds k (.int .i64 (l.getD k 0)) = cells (gs l q) :=
  cells_set (by rw [cell_int _ hb]; simp [gs, hk]) fun j h5 hj => by unfold cell gs; simp only [h j h5 hj]
theorem gs_bool {l : List Int} {p q : Nat → Bool} {k : Nat} (hb : Re.isB k = true) (hk : q k = true) (h : ∀ j, j < 55 → j ≠ k → q j = p j) : (cells (gs l p)).setIfInBounds k (.bool (l.getD k 0 == 1)) = cells (gs l q) :=
  cells_set (by rw [cell_bool _ hb]; simp [gs, hk]) fun j h5 hj => by unfold cell gs; simp only [h j h5 hj]
theorem gs_len {l : List Int} {p q : Nat → Bool} {k : Nat} (hb : Re.isB k = false) (hb1 : Re.isB (k + 1) = false) (hk : q k = true) (hk1 : q (k + 1) = true) (h : ∀ j, j < 55 → j ≠ k → j ≠ k + 1 → q j = p j) : ((cells (gs l p)).setIfInBounds k (.int .i64 (l.getD k 0))).setIfInBounds (k + 1) (.int .i64 (l.getD (k + 1) 0)) = cells (gs l q) := by
  rw [gs_int (q := fun j => if j = k then true else p j) hb (by simp) (fun j _ hj => by simp [hj])]
  refine gs_int hb1 hk1 fun j h5 hj => ?_
  by_cases e : j = k
  · subst e; simp [hk]
  · simp only [e, if_false]; exact h j h5 e hj
theorem gs_congr {l : List Int} {p q : Nat → Bool} (h : ∀ j, j < 55 → p j = q j) : cells (gs l p) = cells (gs l q) := cells_congr fun i hi => by unfold cell gs; simp only [h i hi]
theorem gs_full (l : List Int) : cells (gs l (upto 55)) = cells (Re.getS l) := cells_congr fun i hi => by
  unfold cell gs upto Re.getS
  simp [hi]

theorem build_three (x y z : Int) (W : World) : (Instr.build 36 #[(0, .int .i64 x), (1, .int .i64 y), (2, .int .i64 z)]).run Try.prog W = .ok (.agg (cells ⟨fun i => if i = 0 then x else if i = 1 then y else if i = 2 then z else 0, fun _ => false⟩)) W := by kernel_rfl
theorem gs_three (l : List Int) : cells ⟨fun i => if i = 0 then l.getD 0 0 else if i = 1 then l.getD 1 0 else if i = 2 then l.getD 2 0 else 0, fun _ => false⟩ = cells (gs l (upto 3)) := cells_congr fun i hi => by
  unfold cell gs upto
  by_cases h : i < 3
  · have : i = 0 ∨ i = 1 ∨ i = 2 := by omega
    rcases this with rfl | rfl | rfl <;> rfl
  · have e0 : ¬ i = 0 := by omega
    have e1 : ¬ i = 1 := by omega
    have e2 : ¬ i = 2 := by omega
    simp [h, e0, e1, e2]

theorem text_skip {P : Program} {ops : Array Oper} {Q : Exit → Act → World → Prop} {o : Oper} {os : List Oper} {a : Act} {w w' : World} (hw : Region.wanted o (yielded ops a.tmps) = true) (hrun : (execOp a.eval o).run P w = .ok .skip w') (h : Drawn.wpText P ops Q os (a.put o.dst undef) w') : Drawn.wpText P ops Q (o :: os) a w := by
  refine Drawn.text_cons hw fun K hK => ?_
  unfold Oper.wp
  rw [hrun]
  exact hK _ _ h

theorem text_store_style {ops : Array Oper} {Q : Exit → Act → World → Prop} {o : Oper} {os : List Oper} {a : Act} {w : World} (hw : Region.wanted o (yielded ops a.tmps) = true) (x y : Operand) (ho : o.op = .store 36 x y) {b : Nat} (hx : a.eval x = .pointer (some ⟨b, 0, none⟩)) {s t : Re.St} (hy : a.eval y = .agg (cells t)) (hs : At w b (.cells (cells s) 36))
    (h : Drawn.wpText Try.prog ops Q os (a.put o.dst undef) (w.setRow b (cells t))) : Drawn.wpText Try.prog ops Q (o :: os) a w :=
  text_skip hw (by unfold execOp; simp only [ho, hx, hy, Sem.run_bind, store_style hs, Result.andThen_ok, Sem.run_pure]) h

set_option maxRecDepth 100000 in
set_option maxHeartbeats 4000000 in
theorem rrecget_full (b off c : Nat) (l : List Int) (hl : l.length = 55) (hc : 55 ≤ c) (w : World) (hcl : ∀ k, k < 55 → w.cell? ⟨b, off + k, none⟩ = some (.int .i64 (l.getD k 0))) : Calls Try.prog 15 #[.slice (some ⟨b, off, none⟩) 55 c] w fun e w' => e = .returned (.tuple #[.agg (cells (Re.got l).1), .int .i64 (Re.got l).2]) ∧ Below w.heap.size w w' := by
  have lb : b < w.heap.size := World.block_lt_of_cell? _ _ (hcl 0 (by decide))
  have CL := Lib.hid (fun (W : World) (h : Below w.heap.size w W) (k : Nat) (hk : k < 55) => (h.cell (p := ⟨b, off + k, none⟩) lb).trans (hcl k hk))
  clear hcl
  go_enter Try.func15, Try.ntmps15
  go_upto_region 5 with (first | (refine wpList_alloc_style (by rfl) rfl ?_) | (refine wpList_build_zero (by rfl) rfl ?_) | (refine wpList_load_style (by rfl) _ rfl rfl (by first | assumption | (with_reducible exact At.new _ _)) ?_) | (refine wpList_store_same (by rfl) _ _ rfl rfl rfl (by first | assumption | (with_reducible exact At.new _ _)) ?_) | (refine wpList_store_style (by rfl) _ _ rfl rfl rfl (by first | assumption | (with_reducible exact At.new _ _)) ?_))
  have a1 : At (w.alloc (.cells (cells Re.zero) 36)) w.heap.size (.cells (cells Re.zero) 36) := At.new _ _
  have hB1 : Below w.heap.size w (w.alloc (.cells (cells Re.zero) 36)) := Below.alloc' (Below.refl _ _) _
  have lb1 : w.heap.size < (w.alloc (.cells (cells Re.zero) 36)).heap.size := by simp
  generalize w.alloc (.cells (cells Re.zero) 36) = w1 at *
  generalize hbx : w.heap.size = bx at *
  have CL1 := Lib.hid (fun (W : World) (h : Below w1.heap.size w1 W) => CL.out W (hB1.trans (h.mono (Nat.le_of_lt lb1))))
  refine Drawn.wp_region_alloc (W0 := w1) (norm := [⟨_, _, _, _, _, _⟩, ⟨_, _, _, _, _, _⟩, ⟨_, _, _, _, _, _⟩, ⟨_, _, _, _, _, _⟩, ⟨_, _, _, _, _, _⟩, ⟨_, _, _, _, _, _⟩, ⟨_, _, _, _, _, _⟩, ⟨_, _, _, _, _, _⟩, ⟨_, _, _, _, _, _⟩, ⟨_, _, _, _, _, _⟩]) (tail := [⟨_, _, _, _, _, _⟩]) (x := .cells (cells Re.zero) 36) (so := ⟨_, _, _, _, _, _⟩) [0, 1, 2, 3, 4, 5, 6, 7, 8, 9] 10 11 (Below.refl _ _) (by kernel_rfl) (by kernel_rfl) rfl rfl rfl rfl (by kernel_rfl) (by kernel_rfl) (by kernel_rfl) (by intro a w2 hS; refine ⟨rfl, ?_⟩; unfold execOp; simp only [Sem.run_bind, alloc_style, Result.andThen_ok, Sem.run_pure]) ?_
  have e3 := Lib.hid (gs_three l)
  have HK := Lib.hid (fun (W : World) (h : Below w1.heap.size w1 W) => show (W.cell? ⟨b, off + 0, none⟩ = _ ∧ W.cell? ⟨b, off + 1, none⟩ = _ ∧ W.cell? ⟨b, off + 2, none⟩ = _) from ⟨CL1.out W h 0 (by decide), CL1.out W h 1 (by decide), CL1.out W h 2 (by decide)⟩)
  generalize l.getD 0 0 = x0 at *
  generalize l.getD 1 0 = x1 at *
  generalize l.getD 2 0 = x2 at *
  (repeat (first | (refine Drawn.bseq_value (by rfl) (by intro w2 hS; obtain ⟨q0, q1, q2⟩ := HK.out w2 hS; rw [Nat.add_zero] at q0; have lb2 := World.block_lt_of_cell? _ _ q0; go_simp; first | done | with_reducible rfl | exact ⟨rfl, rfl⟩) ?_; (try simp only [Act.put, List.setIfInBounds_toArray, List.set_cons_zero, List.set_cons_succ]))))
  refine Drawn.bseq_end ?_; intro n0 w2 hn hA hS; (try simp only [Act.put, List.setIfInBounds_toArray, List.set_cons_zero, List.set_cons_succ])
  refine text_store_style (by rfl) (.tmp 4) (.tmp 24) rfl rfl (t := gs l (upto 3)) (by rw [← e3.out]; rfl) hA ?_
  refine Drawn.text_nil ?_
  replace hA := hA.setRow (cells (gs l (upto 3)))
  replace hS := Below.setRow' hS hn (cells (gs l (upto 3)))
  (try simp only [Act.put])
  generalize w2.setRow n0 (cells (gs l (upto 3))) = W at *
  have lbn : bx < n0 := Nat.lt_of_lt_of_le lb1 hn
  clear HK e3
  have H55 := Lib.hid hl
  have A0 := Lib.hid a1
  have HB1 := Lib.hid hB1
  clear hl a1 hB1 CL
  generalize hnb : n0 = g at *
  obtain ⟨x0, hx0⟩ : ∃ x : Int, x = l.getD 3 0 := ⟨_, rfl⟩
  have d0 := CL1.out _ hS 3 (by decide)
  rw [← hx0] at d0
  have HX0 := Lib.hid hx0
  clear hx0
  obtain ⟨x1, hx1⟩ : ∃ x : Int, x = l.getD 4 0 := ⟨_, rfl⟩
  have d1 := CL1.out _ hS 4 (by decide)
  rw [← hx1] at d1
  have HX1 := Lib.hid hx1
  clear hx1
  have hcp : ¬ c = 3 := by omega
  go_upto_region 7 with (go_at_call 23; (with_reducible refine (rlength_any (by omega) d0 d1).mono ?_); rintro e w3 ⟨rfl, hb⟩; replace hS := Below.after2 hS (Nat.le_refl _) hb; replace hA := hA.keep hb; have f0 := hA.cell 3; have f1 := hA.cell 4; rw [cells_int _ (by decide) rfl] at f0 f1; have z0 := hA.thaw 3; have z1 := hA.thaw 4; clear d0 d1)
  have hA2 := (hA.set 3 (.int .i64 x0)).set 4 (.int .i64 x1)
  have e : ((cells (gs l (upto 3))).setIfInBounds 3 (.int .i64 x0)).setIfInBounds 4 (.int .i64 x1) = cells (gs l (upto 5)) := by rw [HX0.out, HX1.out]; exact gs_len rfl rfl rfl rfl (by decide)
  rw [e] at hA2
  have hS2 : Below w1.heap.size w1 ((w3.setCell ⟨g, 3, none⟩ (.int .i64 x0)).setCell ⟨g, 4, none⟩ (.int .i64 x1)) := Below.setCell (Below.setCell hS hn _) hn _
  clear e f0 f1 z0 z1 hA hS hcp HX0 HX1 hb
  generalize ((w3.setCell ⟨g, 3, none⟩ (.int .i64 x0)).setCell ⟨g, 4, none⟩ (.int .i64 x1)) = W at *
  have hA := hA2
  have hS := hS2
  clear hA2 hS2
  obtain ⟨x0, hx0⟩ : ∃ x : Int, x = l.getD 5 0 := ⟨_, rfl⟩
  have d0 := CL1.out _ hS 5 (by decide)
  rw [← hx0] at d0
  have HX0 := Lib.hid hx0
  clear hx0
  obtain ⟨x1, hx1⟩ : ∃ x : Int, x = l.getD 6 0 := ⟨_, rfl⟩
  have d1 := CL1.out _ hS 6 (by decide)
  rw [← hx1] at d1
  have HX1 := Lib.hid hx1
  clear hx1
  have hcp : ¬ c = 5 := by omega
  go_upto_region 8 with (go_at_call 23; (with_reducible refine (rlength_any (by omega) d0 d1).mono ?_); rintro e w3 ⟨rfl, hb⟩; replace hS := Below.after2 hS (Nat.le_refl _) hb; replace hA := hA.keep hb; have f0 := hA.cell 5; have f1 := hA.cell 6; rw [cells_int _ (by decide) rfl] at f0 f1; have z0 := hA.thaw 5; have z1 := hA.thaw 6; clear d0 d1)
  have hA2 := (hA.set 5 (.int .i64 x0)).set 6 (.int .i64 x1)
  have e : ((cells (gs l (upto 5))).setIfInBounds 5 (.int .i64 x0)).setIfInBounds 6 (.int .i64 x1) = cells (gs l (upto 7)) := by rw [HX0.out, HX1.out]; exact gs_len rfl rfl rfl rfl (by decide)
  rw [e] at hA2
  have hS2 : Below w1.heap.size w1 ((w3.setCell ⟨g, 5, none⟩ (.int .i64 x0)).setCell ⟨g, 6, none⟩ (.int .i64 x1)) := Below.setCell (Below.setCell hS hn _) hn _
  clear e f0 f1 z0 z1 hA hS hcp HX0 HX1 hb
  generalize ((w3.setCell ⟨g, 5, none⟩ (.int .i64 x0)).setCell ⟨g, 6, none⟩ (.int .i64 x1)) = W at *
  have hA := hA2
  have hS := hS2
  clear hA2 hS2
  obtain ⟨x0, hx0⟩ : ∃ x : Int, x = l.getD 7 0 := ⟨_, rfl⟩
  have d0 := CL1.out _ hS 7 (by decide)
  rw [← hx0] at d0
  have HX0 := Lib.hid hx0
  clear hx0
  obtain ⟨x1, hx1⟩ : ∃ x : Int, x = l.getD 8 0 := ⟨_, rfl⟩
  have d1 := CL1.out _ hS 8 (by decide)
  rw [← hx1] at d1
  have HX1 := Lib.hid hx1
  clear hx1
  have hcp : ¬ c = 7 := by omega
  go_upto_region 9 with (go_at_call 23; (with_reducible refine (rlength_any (by omega) d0 d1).mono ?_); rintro e w3 ⟨rfl, hb⟩; replace hS := Below.after2 hS (Nat.le_refl _) hb; replace hA := hA.keep hb; have f0 := hA.cell 7; have f1 := hA.cell 8; rw [cells_int _ (by decide) rfl] at f0 f1; have z0 := hA.thaw 7; have z1 := hA.thaw 8; clear d0 d1)
  have hA2 := (hA.set 7 (.int .i64 x0)).set 8 (.int .i64 x1)
  have e : ((cells (gs l (upto 7))).setIfInBounds 7 (.int .i64 x0)).setIfInBounds 8 (.int .i64 x1) = cells (gs l (upto 9)) := by rw [HX0.out, HX1.out]; exact gs_len rfl rfl rfl rfl (by decide)
  rw [e] at hA2
  have hS2 : Below w1.heap.size w1 ((w3.setCell ⟨g, 7, none⟩ (.int .i64 x0)).setCell ⟨g, 8, none⟩ (.int .i64 x1)) := Below.setCell (Below.setCell hS hn _) hn _
  clear e f0 f1 z0 z1 hA hS hcp HX0 HX1 hb
  generalize ((w3.setCell ⟨g, 7, none⟩ (.int .i64 x0)).setCell ⟨g, 8, none⟩ (.int .i64 x1)) = W at *
  have hA := hA2
  have hS := hS2
  clear hA2 hS2
  obtain ⟨x0, hx0⟩ : ∃ x : Int, x = l.getD 9 0 := ⟨_, rfl⟩
  have d0 := CL1.out _ hS 9 (by decide)
  rw [← hx0] at d0
  have HX0 := Lib.hid hx0
  clear hx0
  obtain ⟨x1, hx1⟩ : ∃ x : Int, x = l.getD 10 0 := ⟨_, rfl⟩
  have d1 := CL1.out _ hS 10 (by decide)
  rw [← hx1] at d1
  have HX1 := Lib.hid hx1
  clear hx1
  have hcp : ¬ c = 9 := by omega
  go_upto_region 10 with (go_at_call 23; (with_reducible refine (rlength_any (by omega) d0 d1).mono ?_); rintro e w3 ⟨rfl, hb⟩; replace hS := Below.after2 hS (Nat.le_refl _) hb; replace hA := hA.keep hb; have f0 := hA.cell 9; have f1 := hA.cell 10; rw [cells_int _ (by decide) rfl] at f0 f1; have z0 := hA.thaw 9; have z1 := hA.thaw 10; clear d0 d1)
  have hA2 := (hA.set 9 (.int .i64 x0)).set 10 (.int .i64 x1)
  have e : ((cells (gs l (upto 9))).setIfInBounds 9 (.int .i64 x0)).setIfInBounds 10 (.int .i64 x1) = cells (gs l (upto 11)) := by rw [HX0.out, HX1.out]; exact gs_len rfl rfl rfl rfl (by decide)
  rw [e] at hA2
  have hS2 : Below w1.heap.size w1 ((w3.setCell ⟨g, 9, none⟩ (.int .i64 x0)).setCell ⟨g, 10, none⟩ (.int .i64 x1)) := Below.setCell (Below.setCell hS hn _) hn _
  clear e f0 f1 z0 z1 hA hS hcp HX0 HX1 hb
  generalize ((w3.setCell ⟨g, 9, none⟩ (.int .i64 x0)).setCell ⟨g, 10, none⟩ (.int .i64 x1)) = W at *
  have hA := hA2
  have hS := hS2
  clear hA2 hS2
  obtain ⟨x0, hx0⟩ : ∃ x : Int, x = l.getD 11 0 := ⟨_, rfl⟩
  have d0 := CL1.out _ hS 11 (by decide)
  rw [← hx0] at d0
  have HX0 := Lib.hid hx0
  clear hx0
  obtain ⟨x1, hx1⟩ : ∃ x : Int, x = l.getD 12 0 := ⟨_, rfl⟩
  have d1 := CL1.out _ hS 12 (by decide)
  rw [← hx1] at d1
  have HX1 := Lib.hid hx1
  clear hx1
  have hcp : ¬ c = 11 := by omega
  go_upto_region 11 with (go_at_call 23; (with_reducible refine (rlength_any (by omega) d0 d1).mono ?_); rintro e w3 ⟨rfl, hb⟩; replace hS := Below.after2 hS (Nat.le_refl _) hb; replace hA := hA.keep hb; have f0 := hA.cell 11; have f1 := hA.cell 12; rw [cells_int _ (by decide) rfl] at f0 f1; have z0 := hA.thaw 11; have z1 := hA.thaw 12; clear d0 d1)
  have hA2 := (hA.set 11 (.int .i64 x0)).set 12 (.int .i64 x1)
  have e : ((cells (gs l (upto 11))).setIfInBounds 11 (.int .i64 x0)).setIfInBounds 12 (.int .i64 x1) = cells (gs l (upto 13)) := by rw [HX0.out, HX1.out]; exact gs_len rfl rfl rfl rfl (by decide)
  rw [e] at hA2
  have hS2 : Below w1.heap.size w1 ((w3.setCell ⟨g, 11, none⟩ (.int .i64 x0)).setCell ⟨g, 12, none⟩ (.int .i64 x1)) := Below.setCell (Below.setCell hS hn _) hn _
  clear e f0 f1 z0 z1 hA hS hcp HX0 HX1 hb
  generalize ((w3.setCell ⟨g, 11, none⟩ (.int .i64 x0)).setCell ⟨g, 12, none⟩ (.int .i64 x1)) = W at *
  have hA := hA2
  have hS := hS2
  clear hA2 hS2
  obtain ⟨x0, hx0⟩ : ∃ x : Int, x = l.getD 13 0 := ⟨_, rfl⟩
  have d0 := CL1.out _ hS 13 (by decide)
  rw [← hx0] at d0
  have HX0 := Lib.hid hx0
  clear hx0
  obtain ⟨x1, hx1⟩ : ∃ x : Int, x = l.getD 14 0 := ⟨_, rfl⟩
  have d1 := CL1.out _ hS 14 (by decide)
  rw [← hx1] at d1
  have HX1 := Lib.hid hx1
  clear hx1
  have hcp : ¬ c = 13 := by omega
  go_upto_region 12 with (go_at_call 23; (with_reducible refine (rlength_any (by omega) d0 d1).mono ?_); rintro e w3 ⟨rfl, hb⟩; replace hS := Below.after2 hS (Nat.le_refl _) hb; replace hA := hA.keep hb; have f0 := hA.cell 13; have f1 := hA.cell 14; rw [cells_int _ (by decide) rfl] at f0 f1; have z0 := hA.thaw 13; have z1 := hA.thaw 14; clear d0 d1)
  have hA2 := (hA.set 13 (.int .i64 x0)).set 14 (.int .i64 x1)
  have e : ((cells (gs l (upto 13))).setIfInBounds 13 (.int .i64 x0)).setIfInBounds 14 (.int .i64 x1) = cells (gs l (upto 15)) := by rw [HX0.out, HX1.out]; exact gs_len rfl rfl rfl rfl (by decide)
  rw [e] at hA2
  have hS2 : Below w1.heap.size w1 ((w3.setCell ⟨g, 13, none⟩ (.int .i64 x0)).setCell ⟨g, 14, none⟩ (.int .i64 x1)) := Below.setCell (Below.setCell hS hn _) hn _
  clear e f0 f1 z0 z1 hA hS hcp HX0 HX1 hb
  generalize ((w3.setCell ⟨g, 13, none⟩ (.int .i64 x0)).setCell ⟨g, 14, none⟩ (.int .i64 x1)) = W at *
  have hA := hA2
  have hS := hS2
  clear hA2 hS2
  have hW0 := Lib.hid hS
  rw [gs_congr (q := sided 0 0 0 0) (by decide)] at hA
  go_wp2
  go_loopw [5] (fun i wr => ∃ k : Nat, k ≤ 4 ∧ i = .int .i64 k ∧ At wr g (.cells (cells (gs l (sided (2 * k) (2 * k) k k))) 36) ∧ Below w1.heap.size w1 wr) (fun i _ => 4 - (intOf i).toNat)
  case atStart => exact ⟨0, by omega, rfl, hA, hS⟩
  case round =>
    obtain ⟨k, hk, rfl, hA, hS⟩ := hrel
    have hk5 : k = 0 ∨ k = 1 ∨ k = 2 ∨ k = 3 ∨ k = 4 := by omega
    rcases hk5 with rfl | rfl | rfl | rfl | rfl
    · skip
      obtain ⟨x0, hx0⟩ : ∃ x : Int, x = l.getD 15 0 := ⟨_, rfl⟩
      have d0 := CL1.out _ hS 15 (by decide)
      rw [← hx0] at d0
      have HX0 := Lib.hid hx0
      clear hx0
      obtain ⟨x1, hx1⟩ : ∃ x : Int, x = l.getD 16 0 := ⟨_, rfl⟩
      have d1 := CL1.out _ hS 16 (by decide)
      rw [← hx1] at d1
      have HX1 := Lib.hid hx1
      clear hx1
      have hcp : ¬ c = 15 := by omega
      go_upto_region 16 with (go_at_call 23; (with_reducible refine (rlength_any (by omega) d0 d1).mono ?_); rintro e w3 ⟨rfl, hb⟩; replace hS := Below.after2 hS (Nat.le_refl _) hb; replace hA := hA.keep hb; have f0 := hA.cell 15; have f1 := hA.cell 16; rw [cells_int _ (by decide) rfl] at f0 f1; have z0 := hA.thaw 15; have z1 := hA.thaw 16; clear d0 d1)
      have hA2 := (hA.set 15 (.int .i64 x0)).set 16 (.int .i64 x1)
      have e : ((cells (gs l (sided 0 0 0 0))).setIfInBounds 15 (.int .i64 x0)).setIfInBounds 16 (.int .i64 x1) = cells (gs l (sided 2 0 0 0)) := by rw [HX0.out, HX1.out]; exact gs_len rfl rfl rfl rfl (by decide)
      rw [e] at hA2
      have hS2 : Below w1.heap.size w1 ((w3.setCell ⟨g, 15, none⟩ (.int .i64 x0)).setCell ⟨g, 16, none⟩ (.int .i64 x1)) := Below.setCell (Below.setCell hS hn _) hn _
      clear e f0 f1 z0 z1 hA hS hcp HX0 HX1 hb
      generalize ((w3.setCell ⟨g, 15, none⟩ (.int .i64 x0)).setCell ⟨g, 16, none⟩ (.int .i64 x1)) = W at *
      have hA := hA2
      have hS := hS2
      clear hA2 hS2
      obtain ⟨x0, hx0⟩ : ∃ x : Int, x = l.getD 23 0 := ⟨_, rfl⟩
      have d0 := CL1.out _ hS 23 (by decide)
      rw [← hx0] at d0
      have HX0 := Lib.hid hx0
      clear hx0
      obtain ⟨x1, hx1⟩ : ∃ x : Int, x = l.getD 24 0 := ⟨_, rfl⟩
      have d1 := CL1.out _ hS 24 (by decide)
      rw [← hx1] at d1
      have HX1 := Lib.hid hx1
      clear hx1
      have hcp : ¬ c = 23 := by omega
      go_upto_region 17 with (go_at_call 23; (with_reducible refine (rlength_any (by omega) d0 d1).mono ?_); rintro e w3 ⟨rfl, hb⟩; replace hS := Below.after2 hS (Nat.le_refl _) hb; replace hA := hA.keep hb; have f0 := hA.cell 23; have f1 := hA.cell 24; rw [cells_int _ (by decide) rfl] at f0 f1; have z0 := hA.thaw 23; have z1 := hA.thaw 24; clear d0 d1)
      have hA2 := (hA.set 23 (.int .i64 x0)).set 24 (.int .i64 x1)
      have e : ((cells (gs l (sided 2 0 0 0))).setIfInBounds 23 (.int .i64 x0)).setIfInBounds 24 (.int .i64 x1) = cells (gs l (sided 2 2 0 0)) := by rw [HX0.out, HX1.out]; exact gs_len rfl rfl rfl rfl (by decide)
      rw [e] at hA2
      have hS2 : Below w1.heap.size w1 ((w3.setCell ⟨g, 23, none⟩ (.int .i64 x0)).setCell ⟨g, 24, none⟩ (.int .i64 x1)) := Below.setCell (Below.setCell hS hn _) hn _
      clear e f0 f1 z0 z1 hA hS hcp HX0 HX1 hb
      generalize ((w3.setCell ⟨g, 23, none⟩ (.int .i64 x0)).setCell ⟨g, 24, none⟩ (.int .i64 x1)) = W at *
      have hA := hA2
      have hS := hS2
      clear hA2 hS2
      obtain ⟨x0, hx0⟩ : ∃ x : Int, x = l.getD 31 0 := ⟨_, rfl⟩
      have d0 := CL1.out _ hS 31 (by decide)
      rw [← hx0] at d0
      have HX0 := Lib.hid hx0
      clear hx0
      have f0 := hA.cell 31
      rw [cells_int _ (by decide) rfl] at f0
      have z0 := hA.thaw 31
      go_upto_region 18 with (fail)
      have hA2 := hA.set 31 (.int .i64 x0)
      have e : (cells (gs l (sided 2 2 0 0))).setIfInBounds 31 (.int .i64 x0) = cells (gs l (sided 2 2 1 0)) := by rw [HX0.out]; exact gs_int rfl rfl (by decide)
      rw [e] at hA2
      have hS2 := Below.setCell (p := ⟨g, 31, none⟩) hS hn (.int .i64 x0)
      clear e f0 z0 hA hS HX0 d0
      generalize World.setCell _ ⟨g, 31, none⟩ (.int .i64 x0) = W at *
      have hA := hA2
      have hS := hS2
      clear hA2 hS2
      obtain ⟨x0, hx0⟩ : ∃ x : Int, x = l.getD 35 0 := ⟨_, rfl⟩
      have d0 := CL1.out _ hS 35 (by decide)
      rw [← hx0] at d0
      have HX0 := Lib.hid hx0
      clear hx0
      have f0 := hA.cell 35
      rw [cells_int _ (by decide) rfl] at f0
      have z0 := hA.thaw 35
      go_wp2_with (fail)
      have hA2 := hA.set 35 (.int .i64 x0)
      have e : (cells (gs l (sided 2 2 1 0))).setIfInBounds 35 (.int .i64 x0) = cells (gs l (sided 2 2 1 1)) := by rw [HX0.out]; exact gs_int rfl rfl (by decide)
      rw [e] at hA2
      have hS2 := Below.setCell (p := ⟨g, 35, none⟩) hS hn (.int .i64 x0)
      clear e f0 z0 hA hS HX0 d0
      generalize World.setCell _ ⟨g, 35, none⟩ (.int .i64 x0) = W at *
      have hA := hA2
      have hS := hS2
      clear hA2 hS2
      go_roundw
      case rel => exact ⟨1, by omega, by go_num, hA, hS⟩
      case measure => simp [intOf]
    · skip
      obtain ⟨x0, hx0⟩ : ∃ x : Int, x = l.getD 17 0 := ⟨_, rfl⟩
      have d0 := CL1.out _ hS 17 (by decide)
      rw [← hx0] at d0
      have HX0 := Lib.hid hx0
      clear hx0
      obtain ⟨x1, hx1⟩ : ∃ x : Int, x = l.getD 18 0 := ⟨_, rfl⟩
      have d1 := CL1.out _ hS 18 (by decide)
      rw [← hx1] at d1
      have HX1 := Lib.hid hx1
      clear hx1
      have hcp : ¬ c = 17 := by omega
      go_upto_region 16 with (go_at_call 23; (with_reducible refine (rlength_any (by omega) d0 d1).mono ?_); rintro e w3 ⟨rfl, hb⟩; replace hS := Below.after2 hS (Nat.le_refl _) hb; replace hA := hA.keep hb; have f0 := hA.cell 17; have f1 := hA.cell 18; rw [cells_int _ (by decide) rfl] at f0 f1; have z0 := hA.thaw 17; have z1 := hA.thaw 18; clear d0 d1)
      have hA2 := (hA.set 17 (.int .i64 x0)).set 18 (.int .i64 x1)
      have e : ((cells (gs l (sided 2 2 1 1))).setIfInBounds 17 (.int .i64 x0)).setIfInBounds 18 (.int .i64 x1) = cells (gs l (sided 4 2 1 1)) := by rw [HX0.out, HX1.out]; exact gs_len rfl rfl rfl rfl (by decide)
      rw [e] at hA2
      have hS2 : Below w1.heap.size w1 ((w3.setCell ⟨g, 17, none⟩ (.int .i64 x0)).setCell ⟨g, 18, none⟩ (.int .i64 x1)) := Below.setCell (Below.setCell hS hn _) hn _
      clear e f0 f1 z0 z1 hA hS hcp HX0 HX1 hb
      generalize ((w3.setCell ⟨g, 17, none⟩ (.int .i64 x0)).setCell ⟨g, 18, none⟩ (.int .i64 x1)) = W at *
      have hA := hA2
      have hS := hS2
      clear hA2 hS2
      obtain ⟨x0, hx0⟩ : ∃ x : Int, x = l.getD 25 0 := ⟨_, rfl⟩
      have d0 := CL1.out _ hS 25 (by decide)
      rw [← hx0] at d0
      have HX0 := Lib.hid hx0
      clear hx0
      obtain ⟨x1, hx1⟩ : ∃ x : Int, x = l.getD 26 0 := ⟨_, rfl⟩
      have d1 := CL1.out _ hS 26 (by decide)
      rw [← hx1] at d1
      have HX1 := Lib.hid hx1
      clear hx1
      have hcp : ¬ c = 25 := by omega
      go_upto_region 17 with (go_at_call 23; (with_reducible refine (rlength_any (by omega) d0 d1).mono ?_); rintro e w3 ⟨rfl, hb⟩; replace hS := Below.after2 hS (Nat.le_refl _) hb; replace hA := hA.keep hb; have f0 := hA.cell 25; have f1 := hA.cell 26; rw [cells_int _ (by decide) rfl] at f0 f1; have z0 := hA.thaw 25; have z1 := hA.thaw 26; clear d0 d1)
      have hA2 := (hA.set 25 (.int .i64 x0)).set 26 (.int .i64 x1)
      have e : ((cells (gs l (sided 4 2 1 1))).setIfInBounds 25 (.int .i64 x0)).setIfInBounds 26 (.int .i64 x1) = cells (gs l (sided 4 4 1 1)) := by rw [HX0.out, HX1.out]; exact gs_len rfl rfl rfl rfl (by decide)
      rw [e] at hA2
      have hS2 : Below w1.heap.size w1 ((w3.setCell ⟨g, 25, none⟩ (.int .i64 x0)).setCell ⟨g, 26, none⟩ (.int .i64 x1)) := Below.setCell (Below.setCell hS hn _) hn _
      clear e f0 f1 z0 z1 hA hS hcp HX0 HX1 hb
      generalize ((w3.setCell ⟨g, 25, none⟩ (.int .i64 x0)).setCell ⟨g, 26, none⟩ (.int .i64 x1)) = W at *
      have hA := hA2
      have hS := hS2
      clear hA2 hS2
      obtain ⟨x0, hx0⟩ : ∃ x : Int, x = l.getD 32 0 := ⟨_, rfl⟩
      have d0 := CL1.out _ hS 32 (by decide)
      rw [← hx0] at d0
      have HX0 := Lib.hid hx0
      clear hx0
      have f0 := hA.cell 32
      rw [cells_int _ (by decide) rfl] at f0
      have z0 := hA.thaw 32
      go_upto_region 18 with (fail)
      have hA2 := hA.set 32 (.int .i64 x0)
      have e : (cells (gs l (sided 4 4 1 1))).setIfInBounds 32 (.int .i64 x0) = cells (gs l (sided 4 4 2 1)) := by rw [HX0.out]; exact gs_int rfl rfl (by decide)
      rw [e] at hA2
      have hS2 := Below.setCell (p := ⟨g, 32, none⟩) hS hn (.int .i64 x0)
      clear e f0 z0 hA hS HX0 d0
      generalize World.setCell _ ⟨g, 32, none⟩ (.int .i64 x0) = W at *
      have hA := hA2
      have hS := hS2
      clear hA2 hS2
      obtain ⟨x0, hx0⟩ : ∃ x : Int, x = l.getD 36 0 := ⟨_, rfl⟩
      have d0 := CL1.out _ hS 36 (by decide)
      rw [← hx0] at d0
      have HX0 := Lib.hid hx0
      clear hx0
      have f0 := hA.cell 36
      rw [cells_int _ (by decide) rfl] at f0
      have z0 := hA.thaw 36
      go_wp2_with (fail)
      have hA2 := hA.set 36 (.int .i64 x0)
      have e : (cells (gs l (sided 4 4 2 1))).setIfInBounds 36 (.int .i64 x0) = cells (gs l (sided 4 4 2 2)) := by rw [HX0.out]; exact gs_int rfl rfl (by decide)
      rw [e] at hA2
      have hS2 := Below.setCell (p := ⟨g, 36, none⟩) hS hn (.int .i64 x0)
      clear e f0 z0 hA hS HX0 d0
      generalize World.setCell _ ⟨g, 36, none⟩ (.int .i64 x0) = W at *
      have hA := hA2
      have hS := hS2
      clear hA2 hS2
      go_roundw
      case rel => exact ⟨2, by omega, by go_num, hA, hS⟩
      case measure => simp [intOf]
    · skip
      obtain ⟨x0, hx0⟩ : ∃ x : Int, x = l.getD 19 0 := ⟨_, rfl⟩
      have d0 := CL1.out _ hS 19 (by decide)
      rw [← hx0] at d0
      have HX0 := Lib.hid hx0
      clear hx0
      obtain ⟨x1, hx1⟩ : ∃ x : Int, x = l.getD 20 0 := ⟨_, rfl⟩
      have d1 := CL1.out _ hS 20 (by decide)
      rw [← hx1] at d1
      have HX1 := Lib.hid hx1
      clear hx1
      have hcp : ¬ c = 19 := by omega
      go_upto_region 16 with (go_at_call 23; (with_reducible refine (rlength_any (by omega) d0 d1).mono ?_); rintro e w3 ⟨rfl, hb⟩; replace hS := Below.after2 hS (Nat.le_refl _) hb; replace hA := hA.keep hb; have f0 := hA.cell 19; have f1 := hA.cell 20; rw [cells_int _ (by decide) rfl] at f0 f1; have z0 := hA.thaw 19; have z1 := hA.thaw 20; clear d0 d1)
      have hA2 := (hA.set 19 (.int .i64 x0)).set 20 (.int .i64 x1)
      have e : ((cells (gs l (sided 4 4 2 2))).setIfInBounds 19 (.int .i64 x0)).setIfInBounds 20 (.int .i64 x1) = cells (gs l (sided 6 4 2 2)) := by rw [HX0.out, HX1.out]; exact gs_len rfl rfl rfl rfl (by decide)
      rw [e] at hA2
      have hS2 : Below w1.heap.size w1 ((w3.setCell ⟨g, 19, none⟩ (.int .i64 x0)).setCell ⟨g, 20, none⟩ (.int .i64 x1)) := Below.setCell (Below.setCell hS hn _) hn _
      clear e f0 f1 z0 z1 hA hS hcp HX0 HX1 hb
      generalize ((w3.setCell ⟨g, 19, none⟩ (.int .i64 x0)).setCell ⟨g, 20, none⟩ (.int .i64 x1)) = W at *
      have hA := hA2
      have hS := hS2
      clear hA2 hS2
      obtain ⟨x0, hx0⟩ : ∃ x : Int, x = l.getD 27 0 := ⟨_, rfl⟩
      have d0 := CL1.out _ hS 27 (by decide)
      rw [← hx0] at d0
      have HX0 := Lib.hid hx0
      clear hx0
      obtain ⟨x1, hx1⟩ : ∃ x : Int, x = l.getD 28 0 := ⟨_, rfl⟩
      have d1 := CL1.out _ hS 28 (by decide)
      rw [← hx1] at d1
      have HX1 := Lib.hid hx1
      clear hx1
      have hcp : ¬ c = 27 := by omega
      go_upto_region 17 with (go_at_call 23; (with_reducible refine (rlength_any (by omega) d0 d1).mono ?_); rintro e w3 ⟨rfl, hb⟩; replace hS := Below.after2 hS (Nat.le_refl _) hb; replace hA := hA.keep hb; have f0 := hA.cell 27; have f1 := hA.cell 28; rw [cells_int _ (by decide) rfl] at f0 f1; have z0 := hA.thaw 27; have z1 := hA.thaw 28; clear d0 d1)
      have hA2 := (hA.set 27 (.int .i64 x0)).set 28 (.int .i64 x1)
      have e : ((cells (gs l (sided 6 4 2 2))).setIfInBounds 27 (.int .i64 x0)).setIfInBounds 28 (.int .i64 x1) = cells (gs l (sided 6 6 2 2)) := by rw [HX0.out, HX1.out]; exact gs_len rfl rfl rfl rfl (by decide)
      rw [e] at hA2
      have hS2 : Below w1.heap.size w1 ((w3.setCell ⟨g, 27, none⟩ (.int .i64 x0)).setCell ⟨g, 28, none⟩ (.int .i64 x1)) := Below.setCell (Below.setCell hS hn _) hn _
      clear e f0 f1 z0 z1 hA hS hcp HX0 HX1 hb
      generalize ((w3.setCell ⟨g, 27, none⟩ (.int .i64 x0)).setCell ⟨g, 28, none⟩ (.int .i64 x1)) = W at *
      have hA := hA2
      have hS := hS2
      clear hA2 hS2
      obtain ⟨x0, hx0⟩ : ∃ x : Int, x = l.getD 33 0 := ⟨_, rfl⟩
      have d0 := CL1.out _ hS 33 (by decide)
      rw [← hx0] at d0
      have HX0 := Lib.hid hx0
      clear hx0
      have f0 := hA.cell 33
      rw [cells_int _ (by decide) rfl] at f0
      have z0 := hA.thaw 33
      go_upto_region 18 with (fail)
      have hA2 := hA.set 33 (.int .i64 x0)
      have e : (cells (gs l (sided 6 6 2 2))).setIfInBounds 33 (.int .i64 x0) = cells (gs l (sided 6 6 3 2)) := by rw [HX0.out]; exact gs_int rfl rfl (by decide)
      rw [e] at hA2
      have hS2 := Below.setCell (p := ⟨g, 33, none⟩) hS hn (.int .i64 x0)
      clear e f0 z0 hA hS HX0 d0
      generalize World.setCell _ ⟨g, 33, none⟩ (.int .i64 x0) = W at *
      have hA := hA2
      have hS := hS2
      clear hA2 hS2
      obtain ⟨x0, hx0⟩ : ∃ x : Int, x = l.getD 37 0 := ⟨_, rfl⟩
      have d0 := CL1.out _ hS 37 (by decide)
      rw [← hx0] at d0
      have HX0 := Lib.hid hx0
      clear hx0
      have f0 := hA.cell 37
      rw [cells_int _ (by decide) rfl] at f0
      have z0 := hA.thaw 37
      go_wp2_with (fail)
      have hA2 := hA.set 37 (.int .i64 x0)
      have e : (cells (gs l (sided 6 6 3 2))).setIfInBounds 37 (.int .i64 x0) = cells (gs l (sided 6 6 3 3)) := by rw [HX0.out]; exact gs_int rfl rfl (by decide)
      rw [e] at hA2
      have hS2 := Below.setCell (p := ⟨g, 37, none⟩) hS hn (.int .i64 x0)
      clear e f0 z0 hA hS HX0 d0
      generalize World.setCell _ ⟨g, 37, none⟩ (.int .i64 x0) = W at *
      have hA := hA2
      have hS := hS2
      clear hA2 hS2
      go_roundw
      case rel => exact ⟨3, by omega, by go_num, hA, hS⟩
      case measure => simp [intOf]
    · skip
      obtain ⟨x0, hx0⟩ : ∃ x : Int, x = l.getD 21 0 := ⟨_, rfl⟩
      have d0 := CL1.out _ hS 21 (by decide)
      rw [← hx0] at d0
      have HX0 := Lib.hid hx0
      clear hx0
      obtain ⟨x1, hx1⟩ : ∃ x : Int, x = l.getD 22 0 := ⟨_, rfl⟩
      have d1 := CL1.out _ hS 22 (by decide)
      rw [← hx1] at d1
      have HX1 := Lib.hid hx1
      clear hx1
      have hcp : ¬ c = 21 := by omega
      go_upto_region 16 with (go_at_call 23; (with_reducible refine (rlength_any (by omega) d0 d1).mono ?_); rintro e w3 ⟨rfl, hb⟩; replace hS := Below.after2 hS (Nat.le_refl _) hb; replace hA := hA.keep hb; have f0 := hA.cell 21; have f1 := hA.cell 22; rw [cells_int _ (by decide) rfl] at f0 f1; have z0 := hA.thaw 21; have z1 := hA.thaw 22; clear d0 d1)
      have hA2 := (hA.set 21 (.int .i64 x0)).set 22 (.int .i64 x1)
      have e : ((cells (gs l (sided 6 6 3 3))).setIfInBounds 21 (.int .i64 x0)).setIfInBounds 22 (.int .i64 x1) = cells (gs l (sided 8 6 3 3)) := by rw [HX0.out, HX1.out]; exact gs_len rfl rfl rfl rfl (by decide)
      rw [e] at hA2
      have hS2 : Below w1.heap.size w1 ((w3.setCell ⟨g, 21, none⟩ (.int .i64 x0)).setCell ⟨g, 22, none⟩ (.int .i64 x1)) := Below.setCell (Below.setCell hS hn _) hn _
      clear e f0 f1 z0 z1 hA hS hcp HX0 HX1 hb
      generalize ((w3.setCell ⟨g, 21, none⟩ (.int .i64 x0)).setCell ⟨g, 22, none⟩ (.int .i64 x1)) = W at *
      have hA := hA2
      have hS := hS2
      clear hA2 hS2
      obtain ⟨x0, hx0⟩ : ∃ x : Int, x = l.getD 29 0 := ⟨_, rfl⟩
      have d0 := CL1.out _ hS 29 (by decide)
      rw [← hx0] at d0
      have HX0 := Lib.hid hx0
      clear hx0
      obtain ⟨x1, hx1⟩ : ∃ x : Int, x = l.getD 30 0 := ⟨_, rfl⟩
      have d1 := CL1.out _ hS 30 (by decide)
      rw [← hx1] at d1
      have HX1 := Lib.hid hx1
      clear hx1
      have hcp : ¬ c = 29 := by omega
      go_upto_region 17 with (go_at_call 23; (with_reducible refine (rlength_any (by omega) d0 d1).mono ?_); rintro e w3 ⟨rfl, hb⟩; replace hS := Below.after2 hS (Nat.le_refl _) hb; replace hA := hA.keep hb; have f0 := hA.cell 29; have f1 := hA.cell 30; rw [cells_int _ (by decide) rfl] at f0 f1; have z0 := hA.thaw 29; have z1 := hA.thaw 30; clear d0 d1)
      have hA2 := (hA.set 29 (.int .i64 x0)).set 30 (.int .i64 x1)
      have e : ((cells (gs l (sided 8 6 3 3))).setIfInBounds 29 (.int .i64 x0)).setIfInBounds 30 (.int .i64 x1) = cells (gs l (sided 8 8 3 3)) := by rw [HX0.out, HX1.out]; exact gs_len rfl rfl rfl rfl (by decide)
      rw [e] at hA2
      have hS2 : Below w1.heap.size w1 ((w3.setCell ⟨g, 29, none⟩ (.int .i64 x0)).setCell ⟨g, 30, none⟩ (.int .i64 x1)) := Below.setCell (Below.setCell hS hn _) hn _
      clear e f0 f1 z0 z1 hA hS hcp HX0 HX1 hb
      generalize ((w3.setCell ⟨g, 29, none⟩ (.int .i64 x0)).setCell ⟨g, 30, none⟩ (.int .i64 x1)) = W at *
      have hA := hA2
      have hS := hS2
      clear hA2 hS2
      obtain ⟨x0, hx0⟩ : ∃ x : Int, x = l.getD 34 0 := ⟨_, rfl⟩
      have d0 := CL1.out _ hS 34 (by decide)
      rw [← hx0] at d0
      have HX0 := Lib.hid hx0
      clear hx0
      have f0 := hA.cell 34
      rw [cells_int _ (by decide) rfl] at f0
      have z0 := hA.thaw 34
      go_upto_region 18 with (fail)
      have hA2 := hA.set 34 (.int .i64 x0)
      have e : (cells (gs l (sided 8 8 3 3))).setIfInBounds 34 (.int .i64 x0) = cells (gs l (sided 8 8 4 3)) := by rw [HX0.out]; exact gs_int rfl rfl (by decide)
      rw [e] at hA2
      have hS2 := Below.setCell (p := ⟨g, 34, none⟩) hS hn (.int .i64 x0)
      clear e f0 z0 hA hS HX0 d0
      generalize World.setCell _ ⟨g, 34, none⟩ (.int .i64 x0) = W at *
      have hA := hA2
      have hS := hS2
      clear hA2 hS2
      obtain ⟨x0, hx0⟩ : ∃ x : Int, x = l.getD 38 0 := ⟨_, rfl⟩
      have d0 := CL1.out _ hS 38 (by decide)
      rw [← hx0] at d0
      have HX0 := Lib.hid hx0
      clear hx0
      have f0 := hA.cell 38
      rw [cells_int _ (by decide) rfl] at f0
      have z0 := hA.thaw 38
      go_wp2_with (fail)
      have hA2 := hA.set 38 (.int .i64 x0)
      have e : (cells (gs l (sided 8 8 4 3))).setIfInBounds 38 (.int .i64 x0) = cells (gs l (sided 8 8 4 4)) := by rw [HX0.out]; exact gs_int rfl rfl (by decide)
      rw [e] at hA2
      have hS2 := Below.setCell (p := ⟨g, 38, none⟩) hS hn (.int .i64 x0)
      clear e f0 z0 hA hS HX0 d0
      generalize World.setCell _ ⟨g, 38, none⟩ (.int .i64 x0) = W at *
      have hA := hA2
      have hS := hS2
      clear hA2 hS2
      go_roundw
      case rel => exact ⟨4, by omega, by go_num, hA, hS⟩
      case measure => simp [intOf]
    · rw [gs_congr (q := upto 39) (by decide)] at hA
      go_upto_region 19 with (fail)
      obtain ⟨x0, hx0⟩ : ∃ x : Int, x = l.getD 39 0 := ⟨_, rfl⟩
      have d0 := CL1.out _ hS 39 (by decide)
      rw [← hx0] at d0
      have HX0 := Lib.hid hx0
      clear hx0
      have f0 := hA.cell 39
      rw [cells_int _ (by decide) rfl] at f0
      have z0 := hA.thaw 39
      go_upto_region 20 with (fail)
      have hA2 := hA.set 39 (.int .i64 x0)
      have e : (cells (gs l (upto 39))).setIfInBounds 39 (.int .i64 x0) = cells (gs l (upto 40)) := by rw [HX0.out]; exact gs_int rfl rfl (by decide)
      rw [e] at hA2
      have hS2 := Below.setCell (p := ⟨g, 39, none⟩) hS hn (.int .i64 x0)
      clear e f0 z0 hA hS HX0 d0
      generalize World.setCell _ ⟨g, 39, none⟩ (.int .i64 x0) = W at *
      have hA := hA2
      have hS := hS2
      clear hA2 hS2
      obtain ⟨x0, hx0⟩ : ∃ x : Int, x = l.getD 40 0 := ⟨_, rfl⟩
      have d0 := CL1.out _ hS 40 (by decide)
      rw [← hx0] at d0
      have HX0 := Lib.hid hx0
      clear hx0
      have f0 := hA.cell 40
      rw [cells_int _ (by decide) rfl] at f0
      have z0 := hA.thaw 40
      go_upto_region 21 with (fail)
      have hA2 := hA.set 40 (.int .i64 x0)
      have e : (cells (gs l (upto 40))).setIfInBounds 40 (.int .i64 x0) = cells (gs l (upto 41)) := by rw [HX0.out]; exact gs_int rfl rfl (by decide)
      rw [e] at hA2
      have hS2 := Below.setCell (p := ⟨g, 40, none⟩) hS hn (.int .i64 x0)
      clear e f0 z0 hA hS HX0 d0
      generalize World.setCell _ ⟨g, 40, none⟩ (.int .i64 x0) = W at *
      have hA := hA2
      have hS := hS2
      clear hA2 hS2
      obtain ⟨x0, hx0⟩ : ∃ x : Int, x = l.getD 41 0 := ⟨_, rfl⟩
      have d0 := CL1.out _ hS 41 (by decide)
      rw [← hx0] at d0
      have HX0 := Lib.hid hx0
      clear hx0
      obtain ⟨x1, hx1⟩ : ∃ x : Int, x = l.getD 42 0 := ⟨_, rfl⟩
      have d1 := CL1.out _ hS 42 (by decide)
      rw [← hx1] at d1
      have HX1 := Lib.hid hx1
      clear hx1
      have hcp : ¬ c = 41 := by omega
      go_upto_region 22 with (go_at_call 23; (with_reducible refine (rlength_any (by omega) d0 d1).mono ?_); rintro e w3 ⟨rfl, hb⟩; replace hS := Below.after2 hS (Nat.le_refl _) hb; replace hA := hA.keep hb; have f0 := hA.cell 41; have f1 := hA.cell 42; rw [cells_int _ (by decide) rfl] at f0 f1; have z0 := hA.thaw 41; have z1 := hA.thaw 42; clear d0 d1)
      have hA2 := (hA.set 41 (.int .i64 x0)).set 42 (.int .i64 x1)
      have e : ((cells (gs l (upto 41))).setIfInBounds 41 (.int .i64 x0)).setIfInBounds 42 (.int .i64 x1) = cells (gs l (upto 43)) := by rw [HX0.out, HX1.out]; exact gs_len rfl rfl rfl rfl (by decide)
      rw [e] at hA2
      have hS2 : Below w1.heap.size w1 ((w3.setCell ⟨g, 41, none⟩ (.int .i64 x0)).setCell ⟨g, 42, none⟩ (.int .i64 x1)) := Below.setCell (Below.setCell hS hn _) hn _
      clear e f0 f1 z0 z1 hA hS hcp HX0 HX1 hb
      generalize ((w3.setCell ⟨g, 41, none⟩ (.int .i64 x0)).setCell ⟨g, 42, none⟩ (.int .i64 x1)) = W at *
      have hA := hA2
      have hS := hS2
      clear hA2 hS2
      obtain ⟨x0, hx0⟩ : ∃ x : Int, x = l.getD 43 0 := ⟨_, rfl⟩
      have d0 := CL1.out _ hS 43 (by decide)
      rw [← hx0] at d0
      have HX0 := Lib.hid hx0
      clear hx0
      have f0 := hA.cell 43
      rw [cells_int _ (by decide) rfl] at f0
      have z0 := hA.thaw 43
      go_upto_region 23 with (fail)
      have hA2 := hA.set 43 (.int .i64 x0)
      have e : (cells (gs l (upto 43))).setIfInBounds 43 (.int .i64 x0) = cells (gs l (upto 44)) := by rw [HX0.out]; exact gs_int rfl rfl (by decide)
      rw [e] at hA2
      have hS2 := Below.setCell (p := ⟨g, 43, none⟩) hS hn (.int .i64 x0)
      clear e f0 z0 hA hS HX0 d0
      generalize World.setCell _ ⟨g, 43, none⟩ (.int .i64 x0) = W at *
      have hA := hA2
      have hS := hS2
      clear hA2 hS2
      obtain ⟨x0, hx0⟩ : ∃ x : Int, x = l.getD 44 0 := ⟨_, rfl⟩
      have d0 := CL1.out _ hS 44 (by decide)
      rw [← hx0] at d0
      have HX0 := Lib.hid hx0
      clear hx0
      have f0 := hA.cell 44
      rw [cells_int _ (by decide) rfl] at f0
      have z0 := hA.thaw 44
      go_upto_region 24 with (fail)
      have hA2 := hA.set 44 (.int .i64 x0)
      have e : (cells (gs l (upto 44))).setIfInBounds 44 (.int .i64 x0) = cells (gs l (upto 45)) := by rw [HX0.out]; exact gs_int rfl rfl (by decide)
      rw [e] at hA2
      have hS2 := Below.setCell (p := ⟨g, 44, none⟩) hS hn (.int .i64 x0)
      clear e f0 z0 hA hS HX0 d0
      generalize World.setCell _ ⟨g, 44, none⟩ (.int .i64 x0) = W at *
      have hA := hA2
      have hS := hS2
      clear hA2 hS2
      obtain ⟨x0, hx0⟩ : ∃ x : Int, x = l.getD 45 0 := ⟨_, rfl⟩
      have d0 := CL1.out _ hS 45 (by decide)
      rw [← hx0] at d0
      have HX0 := Lib.hid hx0
      clear hx0
      have f0 := hA.cell 45
      rw [cells_bool _ (by decide) rfl] at f0
      have z0 := hA.thaw 45
      go_upto_region 25 with (fail)
      have hA2 := hA.set 45 (.bool (x0 == 1))
      have e : (cells (gs l (upto 45))).setIfInBounds 45 (.bool (x0 == 1)) = cells (gs l (upto 46)) := by rw [HX0.out]; exact gs_bool rfl rfl (by decide)
      rw [e] at hA2
      have hS2 := Below.setCell (p := ⟨g, 45, none⟩) hS hn (.bool (x0 == 1))
      clear e f0 z0 hA hS HX0 d0
      generalize World.setCell _ ⟨g, 45, none⟩ (.bool (x0 == 1)) = W at *
      have hA := hA2
      have hS := hS2
      clear hA2 hS2
      obtain ⟨x0, hx0⟩ : ∃ x : Int, x = l.getD 46 0 := ⟨_, rfl⟩
      have d0 := CL1.out _ hS 46 (by decide)
      rw [← hx0] at d0
      have HX0 := Lib.hid hx0
      clear hx0
      have f0 := hA.cell 46
      rw [cells_int _ (by decide) rfl] at f0
      have z0 := hA.thaw 46
      go_upto_region 26 with (fail)
      have hA2 := hA.set 46 (.int .i64 x0)
      have e : (cells (gs l (upto 46))).setIfInBounds 46 (.int .i64 x0) = cells (gs l (upto 47)) := by rw [HX0.out]; exact gs_int rfl rfl (by decide)
      rw [e] at hA2
      have hS2 := Below.setCell (p := ⟨g, 46, none⟩) hS hn (.int .i64 x0)
      clear e f0 z0 hA hS HX0 d0
      generalize World.setCell _ ⟨g, 46, none⟩ (.int .i64 x0) = W at *
      have hA := hA2
      have hS := hS2
      clear hA2 hS2
      obtain ⟨x0, hx0⟩ : ∃ x : Int, x = l.getD 47 0 := ⟨_, rfl⟩
      have d0 := CL1.out _ hS 47 (by decide)
      rw [← hx0] at d0
      have HX0 := Lib.hid hx0
      clear hx0
      have f0 := hA.cell 47
      rw [cells_bool _ (by decide) rfl] at f0
      have z0 := hA.thaw 47
      go_upto_region 27 with (fail)
      have hA2 := hA.set 47 (.bool (x0 == 1))
      have e : (cells (gs l (upto 47))).setIfInBounds 47 (.bool (x0 == 1)) = cells (gs l (upto 48)) := by rw [HX0.out]; exact gs_bool rfl rfl (by decide)
      rw [e] at hA2
      have hS2 := Below.setCell (p := ⟨g, 47, none⟩) hS hn (.bool (x0 == 1))
      clear e f0 z0 hA hS HX0 d0
      generalize World.setCell _ ⟨g, 47, none⟩ (.bool (x0 == 1)) = W at *
      have hA := hA2
      have hS := hS2
      clear hA2 hS2
      obtain ⟨x0, hx0⟩ : ∃ x : Int, x = l.getD 48 0 := ⟨_, rfl⟩
      have d0 := CL1.out _ hS 48 (by decide)
      rw [← hx0] at d0
      have HX0 := Lib.hid hx0
      clear hx0
      have f0 := hA.cell 48
      rw [cells_int _ (by decide) rfl] at f0
      have z0 := hA.thaw 48
      go_upto_region 28 with (fail)
      have hA2 := hA.set 48 (.int .i64 x0)
      have e : (cells (gs l (upto 48))).setIfInBounds 48 (.int .i64 x0) = cells (gs l (upto 49)) := by rw [HX0.out]; exact gs_int rfl rfl (by decide)
      rw [e] at hA2
      have hS2 := Below.setCell (p := ⟨g, 48, none⟩) hS hn (.int .i64 x0)
      clear e f0 z0 hA hS HX0 d0
      generalize World.setCell _ ⟨g, 48, none⟩ (.int .i64 x0) = W at *
      have hA := hA2
      have hS := hS2
      clear hA2 hS2
      obtain ⟨x0, hx0⟩ : ∃ x : Int, x = l.getD 49 0 := ⟨_, rfl⟩
      have d0 := CL1.out _ hS 49 (by decide)
      rw [← hx0] at d0
      have HX0 := Lib.hid hx0
      clear hx0
      have f0 := hA.cell 49
      rw [cells_int _ (by decide) rfl] at f0
      have z0 := hA.thaw 49
      go_upto_region 29 with (fail)
      have hA2 := hA.set 49 (.int .i64 x0)
      have e : (cells (gs l (upto 49))).setIfInBounds 49 (.int .i64 x0) = cells (gs l (upto 50)) := by rw [HX0.out]; exact gs_int rfl rfl (by decide)
      rw [e] at hA2
      have hS2 := Below.setCell (p := ⟨g, 49, none⟩) hS hn (.int .i64 x0)
      clear e f0 z0 hA hS HX0 d0
      generalize World.setCell _ ⟨g, 49, none⟩ (.int .i64 x0) = W at *
      have hA := hA2
      have hS := hS2
      clear hA2 hS2
      obtain ⟨x0, hx0⟩ : ∃ x : Int, x = l.getD 50 0 := ⟨_, rfl⟩
      have d0 := CL1.out _ hS 50 (by decide)
      rw [← hx0] at d0
      have HX0 := Lib.hid hx0
      clear hx0
      have f0 := hA.cell 50
      rw [cells_int _ (by decide) rfl] at f0
      have z0 := hA.thaw 50
      go_upto_region 30 with (fail)
      have hA2 := hA.set 50 (.int .i64 x0)
      have e : (cells (gs l (upto 50))).setIfInBounds 50 (.int .i64 x0) = cells (gs l (upto 51)) := by rw [HX0.out]; exact gs_int rfl rfl (by decide)
      rw [e] at hA2
      have hS2 := Below.setCell (p := ⟨g, 50, none⟩) hS hn (.int .i64 x0)
      clear e f0 z0 hA hS HX0 d0
      generalize World.setCell _ ⟨g, 50, none⟩ (.int .i64 x0) = W at *
      have hA := hA2
      have hS := hS2
      clear hA2 hS2
      obtain ⟨x0, hx0⟩ : ∃ x : Int, x = l.getD 51 0 := ⟨_, rfl⟩
      have d0 := CL1.out _ hS 51 (by decide)
      rw [← hx0] at d0
      have HX0 := Lib.hid hx0
      clear hx0
      have f0 := hA.cell 51
      rw [cells_bool _ (by decide) rfl] at f0
      have z0 := hA.thaw 51
      go_upto_region 31 with (fail)
      have hA2 := hA.set 51 (.bool (x0 == 1))
      have e : (cells (gs l (upto 51))).setIfInBounds 51 (.bool (x0 == 1)) = cells (gs l (upto 52)) := by rw [HX0.out]; exact gs_bool rfl rfl (by decide)
      rw [e] at hA2
      have hS2 := Below.setCell (p := ⟨g, 51, none⟩) hS hn (.bool (x0 == 1))
      clear e f0 z0 hA hS HX0 d0
      generalize World.setCell _ ⟨g, 51, none⟩ (.bool (x0 == 1)) = W at *
      have hA := hA2
      have hS := hS2
      clear hA2 hS2
      obtain ⟨x0, hx0⟩ : ∃ x : Int, x = l.getD 52 0 := ⟨_, rfl⟩
      have d0 := CL1.out _ hS 52 (by decide)
      rw [← hx0] at d0
      have HX0 := Lib.hid hx0
      clear hx0
      have f0 := hA.cell 52
      rw [cells_bool _ (by decide) rfl] at f0
      have z0 := hA.thaw 52
      go_upto_region 32 with (fail)
      have hA2 := hA.set 52 (.bool (x0 == 1))
      have e : (cells (gs l (upto 52))).setIfInBounds 52 (.bool (x0 == 1)) = cells (gs l (upto 53)) := by rw [HX0.out]; exact gs_bool rfl rfl (by decide)
      rw [e] at hA2
      have hS2 := Below.setCell (p := ⟨g, 52, none⟩) hS hn (.bool (x0 == 1))
      clear e f0 z0 hA hS HX0 d0
      generalize World.setCell _ ⟨g, 52, none⟩ (.bool (x0 == 1)) = W at *
      have hA := hA2
      have hS := hS2
      clear hA2 hS2
      obtain ⟨x0, hx0⟩ : ∃ x : Int, x = l.getD 53 0 := ⟨_, rfl⟩
      have d0 := CL1.out _ hS 53 (by decide)
      rw [← hx0] at d0
      have HX0 := Lib.hid hx0
      clear hx0
      have f0 := hA.cell 53
      rw [cells_int _ (by decide) rfl] at f0
      have z0 := hA.thaw 53
      go_upto_region 33 with (fail)
      have hA2 := hA.set 53 (.int .i64 x0)
      have e : (cells (gs l (upto 53))).setIfInBounds 53 (.int .i64 x0) = cells (gs l (upto 54)) := by rw [HX0.out]; exact gs_int rfl rfl (by decide)
      rw [e] at hA2
      have hS2 := Below.setCell (p := ⟨g, 53, none⟩) hS hn (.int .i64 x0)
      clear e f0 z0 hA hS HX0 d0
      generalize World.setCell _ ⟨g, 53, none⟩ (.int .i64 x0) = W at *
      have hA := hA2
      have hS := hS2
      clear hA2 hS2
      obtain ⟨x0, hx0⟩ : ∃ x : Int, x = l.getD 54 0 := ⟨_, rfl⟩
      have d0 := CL1.out _ hS 54 (by decide)
      rw [← hx0] at d0
      have HX0 := Lib.hid hx0
      clear hx0
      have f0 := hA.cell 54
      rw [cells_int _ (by decide) rfl] at f0
      have z0 := hA.thaw 54
      go_upto_region 34 with (fail)
      have hA2 := hA.set 54 (.int .i64 x0)
      have e : (cells (gs l (upto 54))).setIfInBounds 54 (.int .i64 x0) = cells (gs l (upto 55)) := by rw [HX0.out]; exact gs_int rfl rfl (by decide)
      rw [e] at hA2
      have hS2 := Below.setCell (p := ⟨g, 54, none⟩) hS hn (.int .i64 x0)
      clear e f0 z0 hA hS HX0 d0
      generalize World.setCell _ ⟨g, 54, none⟩ (.int .i64 x0) = W at *
      have hA := hA2
      have hS := hS2
      clear hA2 hS2
      rw [gs_full] at hA
      have hA1 := atLowR A0.out lb1 hS
      have CLX := Lib.hid (show ((∀ W, Below w1.heap.size w1 W → W.cell? ⟨b, off + 45, none⟩ = some (.int .i64 (l.getD 45 0))) ∧ (∀ W, Below w1.heap.size w1 W → W.cell? ⟨b, off + 47, none⟩ = some (.int .i64 (l.getD 47 0))) ∧ (∀ W, Below w1.heap.size w1 W → W.cell? ⟨b, off + 51, none⟩ = some (.int .i64 (l.getD 51 0))) ∧ ∀ W, Below w1.heap.size w1 W → W.cell? ⟨b, off + 52, none⟩ = some (.int .i64 (l.getD 52 0))) from ⟨fun W h => CL1.out W h 45 (by decide), fun W h => CL1.out W h 47 (by decide), fun W h => CL1.out W h 51 (by decide), fun W h => CL1.out W h 52 (by decide)⟩)
      clear CL1
      have hbx' := Lib.hid hbx
      clear hbx
      go_upto_region 35 with (first | (refine wpList_alloc_style (by rfl) rfl ?_) | (refine wpList_build_zero (by rfl) rfl ?_) | (refine wpList_load_style (by rfl) _ rfl rfl (by first | assumption | (with_reducible exact At.new _ _)) ?_) | (refine wpList_store_same (by rfl) _ _ rfl rfl rfl (by first | assumption | (with_reducible exact At.new _ _)) ?_) | (refine wpList_store_style (by rfl) _ _ rfl rfl rfl (by first | assumption | (with_reducible exact At.new _ _)) ?_) | (go_at_call 9; (with_reducible refine (rrecvalid_any _ _).mono ?_); rintro e w3 ⟨rfl, hb⟩; replace hS := Below.after2 hS (Nat.le_refl _) hb; replace hA := hA.keep hb; replace hA1 := hA1.keep hb; clear hb))
      have hcl := CLX.out
      obtain ⟨q45, q47, q51, q52⟩ := hcl
      have d45 := q45 _ hS
      have d47 := q47 _ hS
      have d51 := q51 _ hS
      have d52 := q52 _ hS
      have HG := Lib.hid (show Re.got l = if (Re.valid (Re.getS l) && (Re.inn (l.getD 45 0) 0 1 && Re.inn (l.getD 47 0) 0 1 && Re.inn (l.getD 51 0) 0 1 && Re.inn (l.getD 52 0) 0 1)) = true then (Re.getS l, 0) else (Re.zero, 11) from by unfold Re.got; rw [if_neg (by have := H55.out; omega), if_neg (by have := H55.out; omega)]; rfl)
      have HE := Lib.hid (HB1.out.trans (hS.mono (Nat.le_of_lt lb1)))
      clear CLX hS q45 q47 q51 q52
      generalize l.getD 45 0 = x45 at *
      generalize l.getD 47 0 = x47 at *
      generalize l.getD 51 0 = x51 at *
      generalize l.getD 52 0 = x52 at *
      generalize Re.valid (Re.getS l) = vv at *
      cases vv
      · go_wp2_with (first | (refine wpList_alloc_style (by rfl) rfl ?_) | (refine wpList_build_zero (by rfl) rfl ?_) | (refine wpList_load_style (by rfl) _ rfl rfl (by first | assumption | (with_reducible exact At.new _ _)) ?_) | (refine wpList_store_same (by rfl) _ _ rfl rfl rfl (by first | assumption | (with_reducible exact At.new _ _)) ?_) | (refine wpList_store_style (by rfl) _ _ rfl rfl rfl (by first | assumption | (with_reducible exact At.new _ _)) ?_) | first | (go_at_call 16; (with_reducible refine (recin_any _ _ _ _).mono ?_); rintro e w' ⟨rfl, rfl⟩))
        exact bodyPost_ret (results_style Try.results15 _ rfl rfl hA1) rfl ⟨by rw [HG.out]; rfl, by rw [hbx'.out]; exact HE.out⟩
      · skip
        cases e45 : Re.inn x45 0 1
        · rw [e45] at HG
          go_wp2_with (first | (refine wpList_alloc_style (by rfl) rfl ?_) | (refine wpList_build_zero (by rfl) rfl ?_) | (refine wpList_load_style (by rfl) _ rfl rfl (by first | assumption | (with_reducible exact At.new _ _)) ?_) | (refine wpList_store_same (by rfl) _ _ rfl rfl rfl (by first | assumption | (with_reducible exact At.new _ _)) ?_) | (refine wpList_store_style (by rfl) _ _ rfl rfl rfl (by first | assumption | (with_reducible exact At.new _ _)) ?_) | first | (go_at_call 16; (with_reducible refine (recin_any _ _ _ _).mono ?_); rintro e w' ⟨rfl, rfl⟩))
          exact bodyPost_ret (results_style Try.results15 _ rfl rfl hA1) rfl ⟨by rw [HG.out]; rfl, by rw [hbx'.out]; exact HE.out⟩
        · rw [e45] at HG
          cases e47 : Re.inn x47 0 1
          · rw [e47] at HG
            go_wp2_with (first | (refine wpList_alloc_style (by rfl) rfl ?_) | (refine wpList_build_zero (by rfl) rfl ?_) | (refine wpList_load_style (by rfl) _ rfl rfl (by first | assumption | (with_reducible exact At.new _ _)) ?_) | (refine wpList_store_same (by rfl) _ _ rfl rfl rfl (by first | assumption | (with_reducible exact At.new _ _)) ?_) | (refine wpList_store_style (by rfl) _ _ rfl rfl rfl (by first | assumption | (with_reducible exact At.new _ _)) ?_) | first | (go_at_call 16; (with_reducible refine (recin_any _ _ _ _).mono ?_); rintro e w' ⟨rfl, rfl⟩))
            exact bodyPost_ret (results_style Try.results15 _ rfl rfl hA1) rfl ⟨by rw [HG.out]; rfl, by rw [hbx'.out]; exact HE.out⟩
          · rw [e47] at HG
            cases e51 : Re.inn x51 0 1
            · rw [e51] at HG
              go_wp2_with (first | (refine wpList_alloc_style (by rfl) rfl ?_) | (refine wpList_build_zero (by rfl) rfl ?_) | (refine wpList_load_style (by rfl) _ rfl rfl (by first | assumption | (with_reducible exact At.new _ _)) ?_) | (refine wpList_store_same (by rfl) _ _ rfl rfl rfl (by first | assumption | (with_reducible exact At.new _ _)) ?_) | (refine wpList_store_style (by rfl) _ _ rfl rfl rfl (by first | assumption | (with_reducible exact At.new _ _)) ?_) | first | (go_at_call 16; (with_reducible refine (recin_any _ _ _ _).mono ?_); rintro e w' ⟨rfl, rfl⟩))
              exact bodyPost_ret (results_style Try.results15 _ rfl rfl hA1) rfl ⟨by rw [HG.out]; rfl, by rw [hbx'.out]; exact HE.out⟩
            · rw [e51] at HG
              cases e52 : Re.inn x52 0 1
              · rw [e52] at HG
                go_wp2_with (first | (refine wpList_alloc_style (by rfl) rfl ?_) | (refine wpList_build_zero (by rfl) rfl ?_) | (refine wpList_load_style (by rfl) _ rfl rfl (by first | assumption | (with_reducible exact At.new _ _)) ?_) | (refine wpList_store_same (by rfl) _ _ rfl rfl rfl (by first | assumption | (with_reducible exact At.new _ _)) ?_) | (refine wpList_store_style (by rfl) _ _ rfl rfl rfl (by first | assumption | (with_reducible exact At.new _ _)) ?_) | first | (go_at_call 16; (with_reducible refine (recin_any _ _ _ _).mono ?_); rintro e w' ⟨rfl, rfl⟩))
                exact bodyPost_ret (results_style Try.results15 _ rfl rfl hA1) rfl ⟨by rw [HG.out]; rfl, by rw [hbx'.out]; exact HE.out⟩
              · rw [e52] at HG
                go_wp2_with (first | (refine wpList_alloc_style (by rfl) rfl ?_) | (refine wpList_build_zero (by rfl) rfl ?_) | (refine wpList_load_style (by rfl) _ rfl rfl (by first | assumption | (with_reducible exact At.new _ _)) ?_) | (refine wpList_store_same (by rfl) _ _ rfl rfl rfl (by first | assumption | (with_reducible exact At.new _ _)) ?_) | (refine wpList_store_style (by rfl) _ _ rfl rfl rfl (by first | assumption | (with_reducible exact At.new _ _)) ?_) | first | (go_at_call 16; (with_reducible refine (recin_any _ _ _ _).mono ?_); rintro e w' ⟨rfl, rfl⟩))
                exact bodyPost_ret (results_style Try.results15 _ rfl rfl (hA1.setRow _)) rfl ⟨by rw [HG.out]; rfl, by rw [hbx'.out]; exact Below.setRow' HE.out (Nat.le_refl _) _⟩

set_option maxRecDepth 100000 in
theorem rrecget_any (A : Option Addr) (l : List Int) (n c : Nat) (hl : l.length = n) (hc : n ≤ c) (w : World) (hI : Ints w A l) : Calls Try.prog 15 #[.slice A n c] w fun e w' => e = .returned (.tuple #[.agg (cells (Re.got l).1), .int .i64 (Re.got l).2]) ∧ Below w.heap.size w w' := by
  have a1 : At (w.alloc (.cells (cells Re.zero) 36)) w.heap.size (.cells (cells Re.zero) 36) := At.new _ _
  have hm := hI.1
  unfold maxLen at hm
  have HB1 : Hid (Below w.heap.size w (w.alloc (.cells (cells Re.zero) 36))) := Lib.hid (Below.alloc' (Below.refl _ _) _)
  rcases Nat.lt_trichotomy n 55 with h | h | h
  · have hg : Re.got l = (Re.zero, 10) := by unfold Re.got; rw [if_pos (by omega)]
    rw [hg]
    clear hg hI
    go_enter Try.func15, Try.ntmps15
    go_wp2_with (first | (refine wpList_alloc_style (by rfl) rfl ?_) | (refine wpList_build_zero (by rfl) rfl ?_) | (refine wpList_load_style (by rfl) _ rfl rfl (by first | assumption | (with_reducible exact At.new _ _)) ?_) | (refine wpList_store_same (by rfl) _ _ rfl rfl rfl (by first | assumption | (with_reducible exact At.new _ _)) ?_) | (refine wpList_store_style (by rfl) _ _ rfl rfl rfl (by first | assumption | (with_reducible exact At.new _ _)) ?_))
    exact bodyPost_ret (results_style Try.results15 _ rfl rfl a1) rfl ⟨rfl, HB1.out⟩
  · subst h
    obtain ⟨b, off, rfl, hcl⟩ := hI.2 (by omega)
    exact rrecget_full b off c l hl hc w fun k hk => hcl k (by omega)
  · have hg : Re.got l = (Re.zero, 11) := by unfold Re.got; rw [if_neg (by omega), if_pos (by omega)]
    rw [hg]
    clear hg hI
    go_enter Try.func15, Try.ntmps15
    go_wp2_with (first | (refine wpList_alloc_style (by rfl) rfl ?_) | (refine wpList_build_zero (by rfl) rfl ?_) | (refine wpList_load_style (by rfl) _ rfl rfl (by first | assumption | (with_reducible exact At.new _ _)) ?_) | (refine wpList_store_same (by rfl) _ _ rfl rfl rfl (by first | assumption | (with_reducible exact At.new _ _)) ?_) | (refine wpList_store_style (by rfl) _ _ rfl rfl rfl (by first | assumption | (with_reducible exact At.new _ _)) ?_))
    exact bodyPost_ret (results_style Try.results15 _ rfl rfl a1) rfl ⟨rfl, HB1.out⟩

end Go.Proofs.Ytpfkencgjodehaa.Fix
