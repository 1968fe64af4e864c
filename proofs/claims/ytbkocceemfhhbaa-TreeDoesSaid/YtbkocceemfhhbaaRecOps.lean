/- Operations on a whole style, one by one: made, built, read, written; what a call hands back from a block. -/
import Derived.Test.YtbkocceemfhhbaaRecSt
import Derived.Test.YtbkocceemfhhbaaFixSum
namespace Go.Proofs.Ytbkocceemfhhbaa.Fix
open Go.ChangeShapes Go.WideShapes Go.ChangeAt Go.RowKit
set_option linter.unusedVariables false
section
variable {ops : Array Oper} {rest : List Oper} {o : Oper} {a : Act} {w w' : World} {Q : Exit → Act → World → Prop}

theorem wpList_value {P : Program} {v : Value} (hw : Region.wanted o (yielded ops a.tmps) = true) (hrun : (execOp a.eval o).run P w = .ok (.value v) w') (h : wpList P ops Q rest (a.put o.dst v) w') : wpList P ops Q (o :: rest) a w := by
  unfold wpList
  rw [if_pos hw]
  refine .inl ?_
  unfold Oper.wp
  rw [hrun]
  exact h

theorem wpList_none {P : Program} (hw : Region.wanted o (yielded ops a.tmps) = true) (hrun : (execOp a.eval o).run P w = .ok .skip w') (h : wpList P ops Q rest (a.put o.dst undef) w') : wpList P ops Q (o :: rest) a w := by
  unfold wpList
  rw [if_pos hw]
  refine .inl ?_
  unfold Oper.wp
  rw [hrun]
  exact h

theorem wpList_alloc_style (hw : Region.wanted o (yielded ops a.tmps) = true) (ho : o.op = .alloc 43) (h : wpList Try.prog ops Q rest (a.put o.dst (.pointer (some ⟨w.heap.size, 0, none⟩))) (w.alloc (.cells (cells Re.zero) 43))) : wpList Try.prog ops Q (o :: rest) a w :=
  wpList_value hw (by unfold execOp; simp only [ho, Sem.run_bind, alloc_style, Result.andThen_ok, Sem.run_pure]) h

theorem wpList_build_zero (hw : Region.wanted o (yielded ops a.tmps) = true) (ho : o.op = .build 43 #[]) (h : wpList Try.prog ops Q rest (a.put o.dst (.agg (cells Re.zero))) w) : wpList Try.prog ops Q (o :: rest) a w :=
  wpList_value hw (by unfold execOp; simp only [ho, Sem.run_bind, List.map_toArray, List.map_nil, build_style, Result.andThen_ok, Sem.run_pure]) h

theorem wpList_load_style (hw : Region.wanted o (yielded ops a.tmps) = true) (x : Operand) (ho : o.op = .load 43 x) {b : Nat} (hx : a.eval x = .pointer (some ⟨b, 0, none⟩)) {s : Re.St} (hs : At w b (.cells (cells s) 43))
    (h : wpList Try.prog ops Q rest (a.put o.dst (.agg (cells s))) w) : wpList Try.prog ops Q (o :: rest) a w :=
  wpList_value hw (by unfold execOp; simp only [ho, hx, Sem.run_bind, load_style hs, Result.andThen_ok, Sem.run_pure]) h

theorem wpList_store_style (hw : Region.wanted o (yielded ops a.tmps) = true) (x y : Operand) (ho : o.op = .store 43 x y) {b : Nat} (hx : a.eval x = .pointer (some ⟨b, 0, none⟩)) {s t : Re.St} (hy : a.eval y = .agg (cells t)) (hs : At w b (.cells (cells s) 43))
    (h : wpList Try.prog ops Q rest (a.put o.dst undef) (w.setRow b (cells t))) : wpList Try.prog ops Q (o :: rest) a w :=
  wpList_none hw (by unfold execOp; simp only [ho, hx, hy, Sem.run_bind, store_style hs, Result.andThen_ok, Sem.run_pure]) h

theorem wpList_store_same (hw : Region.wanted o (yielded ops a.tmps) = true) (x y : Operand) (ho : o.op = .store 43 x y) {b : Nat} (hx : a.eval x = .pointer (some ⟨b, 0, none⟩)) {s : Re.St} (hy : a.eval y = .agg (cells s)) (hs : At w b (.cells (cells s) 43))
    (h : wpList Try.prog ops Q rest (a.put o.dst undef) w) : wpList Try.prog ops Q (o :: rest) a w :=
  wpList_none hw (by unfold execOp; simp only [ho, hx, hy, Sem.run_bind, store_style_same hs, Result.andThen_ok, Sem.run_pure]) h
end

theorem results_style {fn : Func} {p q : Tmp} (h : fn.results = #[.cell p 43, .tmp q]) (tmps : Array Value) {W : World} {b : Nat} {s : Re.St} {v : Value} (hp : tmps.getD p undef = .pointer (some ⟨b, 0, none⟩)) (hq : tmps.getD q undef = v) (ha : At W b (.cells (cells s) 43)) :
    (results fn tmps).run Try.prog W = .ok (.tuple #[.agg (cells s), v]) W := by
  have hp' : tmps[p]?.getD undef = .pointer (some ⟨b, 0, none⟩) := by simpa using hp
  have hq' : tmps[q]?.getD undef = v := by simpa using hq
  simp [results, h, hp', hq', asAddr, loadVar_style ha]

end Go.Proofs.Ytbkocceemfhhbaa.Fix
