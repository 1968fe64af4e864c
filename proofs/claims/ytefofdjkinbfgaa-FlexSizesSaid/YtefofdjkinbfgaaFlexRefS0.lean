/- Small laws for the walk of the document's own Sizes of the layer flex. -/
import Derived.Test.YtefofdjkinbfgaaFlexRefB
namespace Go.Proofs.Ytefofdjkinbfgaa.Fix
open Go.ChangeShapes Go.WideShapes Go.ChangeAt Go.RowKit
set_option linter.unusedVariables false

theorem boolZero2 : (Try.prog.info? 4).map (fun i => (i.zero, i.size, i.bytes)) = some (some (.bool false), 1, 1) := by kernel_rfl

theorem ritems_succ {w : World} {base : Nat} {v : Value} {n : Nat} {l : Nat → Fe.It} (h : w.ownsRow base 30 5 v (n + 1) (flatI l (n + 1))) : ∃ g c, v = .slice (some ⟨g, 0, none⟩) (n + 1) c ∧ Items w (some ⟨g, 0, none⟩) l (n + 1) := by
  obtain ⟨A, c, rfl, hI⟩ := ritems_of_own h
  obtain ⟨g, c', e⟩ := ownsRow_succ h
  injection e with e1 e2 e3
  subst e1
  exact ⟨g, c, rfl, hI⟩

theorem At.trans_ {W W2 W3 : World} {b base : Nat} {o : Obj} (h : At W b o) (h2 : Below W.heap.size W W2) (h3 : Below base W2 W3) (hb : b < base) : At W3 b o := (h3.block b hb).trans (h.keep h2)

theorem ownsRow_off {W : World} {base O k : Nat} {e : TypeId} {sz : Nat} {v u : Value} {m : Nat} {xs : List Value} (h : W.ownsRow base e sz v m xs) (hO : O < base) : (W.setCell ⟨O, k, none⟩ u).ownsRow base e sz v m xs := by
  refine h.kept (row := some O) ⟨rfl, rfl, rfl, (KeepsWalks.setCell W _ u).size, fun j _ hj => Below.heap_setCell _ _ _ j (fun e => hj (by rw [e]))⟩ ?_
  rcases h.2 with ⟨rfl, _⟩ | ⟨g, cap, cur, rfl, hg, _⟩
  · exact .inl rfl
  · refine .inr ?_
    simp [Value.ownBlock]
    omega

theorem stRow_iRow (f : Nat → Int) (n : Nat) : stRow f n n = iRow f n := by
  unfold stRow iRow
  congr 1
  apply List.map_congr_left
  intro i hi
  have hi : i < n := by simpa using hi
  simp [hi]

theorem stay_true (c : Fe.It) (z : Int) : Fe.stay true c z = (decide (c.g = 0) || decide (z < c.b)) := by simp [Fe.stay, Fe.fac, Fe.sg]
theorem stay_false (c : Fe.It) (z : Int) : Fe.stay false c z = (decide (c.s = 0) || decide (c.b < z)) := by
  unfold Fe.stay Fe.fac Fe.sg
  congr 1
  simp

/-- One item, laid in a slice of its own. -/
theorem wpList_built {ops : Array Oper} {rest : List Oper} {o : Oper} {a : Act} {Q : Exit → Act → World → Prop} {w : World} (hw : Region.wanted o (yielded ops a.tmps) = true) (x : Operand) (ho : o.op = .buildSlice 24 1 #[(0, x)])
    {y0 y1 y2 y3 y4 : Int} (hx : a.eval x = .agg #[.int .i64 y0, .int .i64 y1, .int .i64 y2, .int .i64 y3, .int .i64 y4])
    (h : wpList Try.prog ops Q rest (a.put o.dst (.slice (some ⟨w.heap.size, 0, none⟩) 1 1)) (w.alloc (.cells #[.int .i64 y0, .int .i64 y1, .int .i64 y2, .int .i64 y3, .int .i64 y4] 30))) : wpList Try.prog ops Q (o :: rest) a w := by
  have hrun : (execOp a.eval o).run Try.prog w = .ok (.value (.slice (some ⟨w.heap.size, 0, none⟩) 1 1)) (w.alloc (.cells #[.int .i64 y0, .int .i64 y1, .int .i64 y2, .int .i64 y3, .int .i64 y4] 30)) := by
    unfold execOp
    simp only [ho]
    generalize a.eval = ev at *
    go_simp
  unfold wpList
  rw [if_pos hw]
  refine .inl ?_
  unfold Oper.wp
  rw [hrun]
  exact h

end Go.Proofs.Ytefofdjkinbfgaa.Fix
