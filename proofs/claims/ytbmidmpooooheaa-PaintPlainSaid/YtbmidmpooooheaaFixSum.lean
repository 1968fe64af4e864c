/- The contracts of fix.Sum and of the document's own Sum, over any slice of integers. -/
import Derived.Test.YtbmidmpooooheaaFix
import Derived.Below
import Derived.Deep.QuietTactic
import Derived.BigQuiet
set_option maxRecDepth 100000
namespace Go.Proofs.Ytbmidmpooooheaa.Fix
open Go.ChangeShapes Go.WideShapes Go.ChangeAt Go.RowKit
set_option linter.unusedVariables false

/-- A callee that leaves the world alone, met inside a region that draws its order. -/
theorem quiet_l {P : Program} {f : FuncId} {args : Array Value} {w : World} {n : Nat} {v : Value}
    (h : Calls P f args (w.drewN n) fun e w' => e = .returned v ∧ w.drewN n = w') : Calls P f args (w.drewN n) fun e w'' => e = .returned v ∧ ∃ m, w'' = w.drewN m :=
  h.mono fun _ _ h => ⟨h.1, n, h.2.symm⟩

/-- An append whose run is known, wherever it stands (behind a guard that says yes, too). -/
theorem wpList_append_run {P : Program} {w w' : World} {ops : Array Oper} {rest : List Oper} {o : Oper} {a : Act} {Q : Exit → Act → World → Prop} (hw : Region.wanted o (yielded ops a.tmps) = true) (s x : Operand) (t : TypeId)
    (ho : o.op = .call { callee := .builtin .append, args := #[s, x], argTypes := #[t, t] }) {v u v' : Value} (hs : a.eval s = v) (hx : a.eval x = u)
    (hrun : (Builtin.append_ #[t, t] o.type #[v, u]).run P w = .ok v' w') (h : wpList P ops Q rest (a.put o.dst v') w') : wpList P ops Q (o :: rest) a w := by
  unfold wpList
  rw [if_pos hw]
  refine .inl ?_
  unfold Oper.wp execOp
  simp only [ho, resolve, invoke, builtin, Sem.run_bind, Sem.run_pure, Result.andThen_ok, List.map_toArray, List.map_cons, List.map_nil, hs, hx, hrun]
  exact h

theorem grown_drewN {w w' : World} (h : Grown w w') (n : Nat) : Grown w (w'.drewN n) := h

/-- A slice of integers that can be read: its numbers, one cell each. -/
def Ints (w : World) (A : Option Addr) (zs : List Int) : Prop :=
  zs.length ≤ maxLen ∧ (0 < zs.length → ∃ b off, A = some ⟨b, off, none⟩ ∧ ∀ k, k < zs.length → w.cell? ⟨b, off + k, none⟩ = some (.int .i64 (zs.getD k 0)))

theorem take_snoc_int (zs : List Int) (k : Nat) (h : k < zs.length) : zs.take (k + 1) = zs.take k ++ [zs.getD k 0] := by
  rw [List.take_succ_eq_append_getElem h]; simp [List.getElem?_eq_getElem h]

theorem ints_new (w : World) (l : List Int) (T : TypeId) (hl : l.length ≤ 1000) : Ints (w.alloc (.cells (l.map (Value.int .i64)).toArray T)) (some ⟨w.heap.size, 0, none⟩) l := by
  refine ⟨by unfold maxLen; omega, fun _ => ⟨w.heap.size, 0, rfl, fun k hk => ?_⟩⟩
  rw [cell_of_row _ w.heap.size (0 + k) _ T (0, 0) (heap_alloc_new w _)]
  simp [hk]

theorem ints_new2 (w : World) (o : Obj) (l : List Int) (T : TypeId) (hl : l.length ≤ 1000) : Ints ((w.alloc o).alloc (.cells (l.map (Value.int .i64)).toArray T)) (some ⟨w.heap.size + 1, 0, none⟩) l := by
  have := ints_new (w.alloc o) l T hl
  simpa using this

theorem Ints.keep {w w' : World} {B : Nat} {A : Option Addr} {zs : List Int} (h : Ints w A zs) (hb : Below B w w') (hA : 0 < zs.length → ∀ a, A = some a → a.block < B) : Ints w' A zs := by
  refine ⟨h.1, fun h0 => ?_⟩
  obtain ⟨b, off, rfl, hc⟩ := h.2 h0
  exact ⟨b, off, rfl, fun k hk => (hb.cell (p := ⟨b, off + k, none⟩) (show b < B from hA h0 ⟨b, off, none⟩ rfl)).trans (hc k hk)⟩

/-- What the kit's shell hands the walk of a slice that came in, as a list of its elements: the slice leads to old memory. -/
theorem ints_of_row {w : World} {a : Option Addr} {len cap : Nat} {zs : List Int}
    (h : (a = none ∧ len = 0 ∧ cap = 0 ∧ zs = []) ∨ ∃ x, a = some x ∧ len ≤ cap ∧ cap ≤ maxLen ∧ zs.length = cap ∧ (∀ i, i < zs.length → w.cell? (x.add i) = some (.int .i64 (zs.getD i 0))) ∧ ∀ n ∈ zs, (Lit.int .i64 n).wf = true) :
    ∃ l : List Int, l.length = len ∧ Ints w a l ∧ (0 < len → ∀ x, a = some x → x.block < w.heap.size) ∧ (∀ n ∈ l, (Lit.int .i64 n).wf = true) ∧ (a = none → cap = 0) := by
  rcases h with ⟨rfl, rfl, rfl, rfl⟩ | ⟨x, rfl, hl, hm, hz, hc, hw⟩
  · exact ⟨[], rfl, ⟨by simp, fun h => absurd h (by simp)⟩, fun h => absurd h (by omega), by simp, fun _ => rfl⟩
  · refine ⟨zs.take len, by rw [List.length_take]; omega, ⟨by rw [List.length_take]; omega, fun h0 => ?_⟩, fun h0 y hy => ?_, fun n hn => hw n (List.mem_of_mem_take hn), fun h => by cases h⟩
    · have h0' : 0 < zs.length := by rw [List.length_take] at h0; omega
      obtain ⟨b, off, spot⟩ := x
      have hc0 := hc 0 h0'
      have hspot : spot = none := by simpa [Addr.add] using World.cell?_spot hc0
      subst hspot
      refine ⟨b, off, rfl, fun k hk => ?_⟩
      rw [List.length_take] at hk
      have := hc k (by omega)
      have e : (⟨b, off, none⟩ : Addr).add k = ⟨b, off + k, none⟩ := by
        unfold Addr.add; split
        · subst k; rfl
        · rfl
      rw [e] at this
      rw [this]
      congr 2
      simp [show k < len by omega]
    · injection hy with hy
      subst hy
      have := World.block_lt_of_cell? _ _ (hc 0 (by omega))
      unfold Addr.add at this
      simpa using this

theorem ints_of_own {w : World} {base : Nat} {e : TypeId} {v : Value} {n : Nat} {l : List Int} (h : w.ownsRow base e 1 v n (l.map (Value.int .i64))) (hm : n ≤ maxLen) :
    ∃ A c, v = .slice A l.length c ∧ Ints w A l := by
  have hl : l.length = n := by simpa using h.1
  subst hl
  rcases h.2 with ⟨rfl, h0⟩ | ⟨g, cap, cur, rfl, _, _⟩
  · exact ⟨none, 0, by rw [h0], hm, fun h => absurd h (by omega)⟩
  · refine ⟨_, _, rfl, hm, fun h0 => ⟨g, 0, rfl, fun k hk => ?_⟩⟩
    have := h.cells (g := g) rfl k (.int .i64 (l.getD k 0)) (by simp [List.getElem?_eq_getElem hk])
    have e : (⟨g, 0, none⟩ : Addr).add k = ⟨g, 0 + k, none⟩ := by
      unfold Addr.add; split
      · subst k; rfl
      · rfl
    rw [e] at this
    exact this
end Go.Proofs.Ytbmidmpooooheaa.Fix
