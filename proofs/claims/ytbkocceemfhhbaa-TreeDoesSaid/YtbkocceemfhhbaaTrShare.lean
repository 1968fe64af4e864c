/- What the laws of trees share: the text of a loop of acts, rows. -/
import Derived.Test.YtbkocceemfhhbaaTrLaw
import Derived.Test.YtbkocceemfhhbaaRecRef0
namespace Go.Proofs.Ytbkocceemfhhbaa.Fix
open Go.ChangeShapes Go.WideShapes Go.ChangeAt Go.RowKit Go.Deep Go.Joins Go.Shelf
set_option linter.unusedVariables false
set_option linter.unusedSimpArgs false
set_option maxRecDepth 100000

/-- a law's tree, as low as one likes -/
theorem Good.low {W : World} {t n n0 n1 : Nat} {L : Lay} {T : Tr.T} (h : Good W t L T n n0) (hl : n1 ≤ n0) : Good W t L T n n1 := ⟨h.inv, fun b hb => Nat.le_trans hl (h.own b hb), h.fit⟩

/-! the text of a loop of acts, behind go_loopw -/

section
variable {w : World} {t n n0 : Nat} {L : Lay} {T : Tr.T}
/-- how many are in the order -/
theorem gorder_len (h : Good w t L T n n0) : Calls Try.prog 26 #[.pointer (some ⟨t, 0, none⟩)] w fun e w' => (∃ A c, e = .returned (.slice A n c)) ∧ Below w.heap.size w w' := by
  refine (gorder_any h).mono ?_
  rintro e w' ⟨⟨v, rfl, hk⟩, hb⟩
  obtain ⟨A, c, rfl, _⟩ := hk.row.ints
  rw [h.inv.num]
  exact ⟨⟨A, c, rfl⟩, hb⟩
end

/-- the places of a row -/
theorem Kept.cells {W : World} {t : Nat} {L : Lay} {T : Tr.T} {v : Value} {l : List Int} (h : Kept W t L T v l) (h0 : 0 < l.length) : ∃ g c, v = .slice (some ⟨g, 0, none⟩) l.length c ∧ g < W.heap.size ∧ ∀ k, k < l.length → W.cell? ⟨g, k, none⟩ = some (.int .i64 (l.getD k 0)) := by
  rcases h.row.cases with ⟨_, rfl⟩ | ⟨g, c, rfl, hr⟩
  · simp at h0
  · obtain ⟨b, o, e, hc⟩ := hr.ints.2 h0
    injection e with e
    injection e with e1 e2 _
    subst e1 e2
    exact ⟨g, c, rfl, hr.lt, fun k hk => by rw [← hc k hk, Nat.zero_add]⟩

theorem kidsOf_small {T : Tr.T} (H : Tr.WF T) (u : Int) : (kidsOf T u).length ≤ 4096 := by
  unfold kidsOf
  cases e : T u with
  | none => simp
  | some p => exact H.kids_small e

/-- two rows of the same numbers -/
theorem krow_any {w : World} {v v' : Value} {l : List Int} (h : KS w v l) (h' : KS w v' l) (hl : l.length ≤ 100000) : Calls Try.prog 22 #[v, v'] w fun e w' => e = .returned (.bool true) ∧ Below w.heap.size w w' := by
  obtain ⟨A, c, rfl, hI, _⟩ := h.ints
  obtain ⟨A', c', rfl, hI', _⟩ := h'.ints
  exact rowgen_any A A' l l l.length c c' true w hI hI' rfl rfl hl (by simp)
theorem ord_len {W : World} {t n n0 : Nat} {L : Lay} {T : Tr.T} (h : Good W t L T n n0) : (Tr.ord T).length ≤ 100000 := by have := h.inv.wf.ord_small; omega

section
variable {ops : Array Oper} {rest : List Oper} {o : Oper} {a : Act} {w : World} {Q : Exit → Act → World → Prop} {s t : Re.St}
theorem guard_sty (op : BinOp) (x y : Operand) (s t : Re.St) (w : World) : (eqGuard op 43 x y (.agg (cells s)) (.agg (cells t))).run Try.prog w = .ok () w := run_eqGuard_agg (w := w) (P := Try.prog) _ _ _ _ _ _ (by kernel_rfl)
theorem wpList_neq_sty (hw : Region.wanted o (yielded ops a.tmps) = true) (x y : Operand) (ho : o.op = .binOp .neq 43 x y 43) (hx : a.eval x = .agg (cells s)) (hy : a.eval y = .agg (cells t)) (hs : Fits s) (ht : Fits t) {r : Bool} (hr : (!Re.sameB s t) = r)
    (h : wpList Try.prog ops Q rest (a.put o.dst (.bool r)) w) : wpList Try.prog ops Q (o :: rest) a w :=
  wpList_value hw (by unfold execOp; simp only [ho, hx, hy, Sem.run_bind, guard_sty, run_neq_style s t hs ht, Result.andThen_ok, Sem.run_pure, hr]) h
theorem wpList_eql_sty (hw : Region.wanted o (yielded ops a.tmps) = true) (x y : Operand) (ho : o.op = .binOp .eql 43 x y 43) (hx : a.eval x = .agg (cells s)) (hy : a.eval y = .agg (cells t)) (hs : Fits s) (ht : Fits t) {r : Bool} (hr : Re.sameB s t = r)
    (h : wpList Try.prog ops Q rest (a.put o.dst (.bool r)) w) : wpList Try.prog ops Q (o :: rest) a w :=
  wpList_value hw (by unfold execOp; simp only [ho, hx, hy, Sem.run_bind, guard_sty, run_eql_style s t hs ht, Result.andThen_ok, Sem.run_pure, hr]) h
theorem eqs_sty {S : World → Prop} (hw : Region.wanted o (yielded ops a.tmps) = true) (x y : Operand) (ho : o.op = .binOp .eql 43 x y 43) (hx : a.eval x = .agg (cells s)) (hy : a.eval y = .agg (cells t)) (hs : Fits s) (ht : Fits t) {r : Bool} (hr : Re.sameB s t = r) : Drawn.Reads Try.prog ops S o (.bool r) a :=
  .inl ⟨hw, fun w h => by unfold execOp; simp only [ho, hx, hy, Sem.run_bind, guard_sty, run_eql_style s t hs ht, Result.andThen_ok, Sem.run_pure, hr]⟩
theorem same_self (s : Re.St) : Re.sameB s s = true := by simp [Re.sameB]
end

end Go.Proofs.Ytbkocceemfhhbaa.Fix
