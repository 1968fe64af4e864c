/- A tree of boxes in memory: a block with a map, a block for each box, a row for its kids. -/
import Derived.Test.YtmjnlnnedjmcfaaTrRow
import Derived.Test.YtmjnlnnedjmcfaaTrMap
namespace Go.Proofs.Ytmjnlnnedjmcfaa.Fix
open Go.ChangeShapes Go.WideShapes Go.ChangeAt Go.RowKit
set_option linter.unusedVariables false
set_option maxRecDepth 100000

/-! a style that stands somewhere in a block -/
def StyAt (W : World) (b o : Nat) (s : Re.St) : Prop := ∀ j, j < 55 → W.cell? ⟨b, o + j, none⟩ = some (cell s j)

theorem loadVar_sty {W : World} {b o : Nat} {s : Re.St} (h : StyAt W b o s) : (loadVar 43 ⟨b, o, none⟩).run Try.prog W = .ok (.agg (cells s)) W := by
  have hl := run_loadCells_list (P := Try.prog) W ⟨b, o, none⟩ (cells s).toList (fun j v hj => by
    have hj' : j < 55 := by have := (List.getElem?_eq_some_iff.1 hj).1; simpa [cells_size] using this
    rw [addr_add, h j hj']
    rw [Array.getElem?_toList, cells_get s hj'] at hj
    exact hj)
  rw [Array.length_toList, cells_size] at hl
  have hi : (isAgg 43).run Try.prog W = .ok true W := by kernel_rfl
  have hz : (sizeOf 43).run Try.prog W = .ok 55 W := by kernel_rfl
  simp only [loadVar, Sem.run_bind, hi, hz, hl, Result.andThen_ok, if_true, Sem.run_pure]
theorem load_sty {W : World} {b o : Nat} {s : Re.St} (h : StyAt W b o s) : (Instr.loadAt 43 (.pointer (some ⟨b, o, none⟩))).run Try.prog W = .ok (.agg (cells s)) W := by
  simp only [Instr.loadAt, Instr.sureAddr, Sem.run_bind, Sem.run_pure, Result.andThen_ok, loadVar_sty h]
theorem wpList_load_sty {ops : Array Oper} {rest : List Oper} {o : Oper} {a : Act} {w : World} {Q : Exit → Act → World → Prop} (hw : Region.wanted o (yielded ops a.tmps) = true) (x : Operand) (ho : o.op = .load 43 x) {b k : Nat} (hx : a.eval x = .pointer (some ⟨b, k, none⟩)) {s : Re.St} (hs : StyAt w b k s)
    (h : wpList Try.prog ops Q rest (a.put o.dst (.agg (cells s))) w) : wpList Try.prog ops Q (o :: rest) a w :=
  wpList_value hw (by unfold execOp; simp only [ho, hx, Sem.run_bind, load_sty hs, Result.andThen_ok, Sem.run_pure]) h

/-! a box -/
def bcells (u : Int) (v : Value) (s : Re.St) : Array Value := #[.int .i64 u, v] ++ cells s

theorem bcells_size (u : Int) (v : Value) (s : Re.St) : (bcells u v s).size = 57 := by simp [bcells, cells_size]
theorem bcells_sty (u : Int) (v : Value) (s : Re.St) {j : Nat} (h : j < 55) : (bcells u v s)[2 + j]? = some (cell s j) := by
  unfold bcells
  rw [Array.getElem?_append_right (by simp), show 2 + j - (#[Value.int .i64 u, v] : Array Value).size = j by simp, cells_get s h]
theorem bcells_up (u : Int) (v : Value) (s : Re.St) : (bcells u v s)[0]? = some (.int .i64 u) := by
  unfold bcells
  rw [Array.getElem?_append_left (by simp)]; rfl
theorem bcells_kids (u : Int) (v : Value) (s : Re.St) : (bcells u v s)[1]? = some v := by
  unfold bcells
  rw [Array.getElem?_append_left (by simp)]; rfl
theorem bcells_set_up (u u' : Int) (v : Value) (s : Re.St) : (bcells u v s).setIfInBounds 0 (.int .i64 u') = bcells u' v s := by
  unfold bcells
  rw [Array.setIfInBounds_append_left (by simp)]; rfl
theorem bcells_set_kids (u : Int) (v v' : Value) (s : Re.St) : (bcells u v s).setIfInBounds 1 v' = bcells u v' s := by
  unfold bcells
  rw [Array.setIfInBounds_append_left (by simp)]; rfl

theorem build_box (u : Int) (A : Option Addr) (n c : Nat) (s : Re.St) (W : World) : (Instr.build 69 #[(0, .int .i64 u), (1, .slice A n c), (2, .agg (cells s))]).run Try.prog W = .ok (.agg (bcells u (.slice A n c) s)) W := by kernel_rfl
theorem build_box_up (u : Int) (W : World) : (Instr.build 69 #[(0, .int .i64 u)]).run Try.prog W = .ok (.agg (bcells u (.slice none 0 0) Re.zero)) W := by kernel_rfl
theorem build_box_zero (W : World) : (Instr.build 69 #[]).run Try.prog W = .ok (.agg (bcells 0 (.slice none 0 0) Re.zero)) W := by kernel_rfl
theorem build_tree (b : Nat) (W : World) : (Instr.build 72 #[(0, .map (some b))]).run Try.prog W = .ok (.agg #[.map (some b)]) W := by kernel_rfl

theorem At.uniq {W : World} {b : Nat} {o o' : Obj} (h : At W b o) (k : At W b o') : o = o' := Option.some.inj (h.symm.trans k)
theorem KS.rowAt {W : World} {v : Value} {l : List Int} (h : KS W v l) {g : Nat} (hg : v.ownBlock = some g) : ∃ cur : Array Value, At W g (.cells cur 3) := by
  rcases h.cases with ⟨rfl, _⟩ | ⟨g', c, rfl, cur, h1, _⟩
  · simp [Value.ownBlock] at hg
  · simp [Value.ownBlock] at hg; subst hg; exact ⟨cur, h1⟩
theorem PM.obj {W : World} {b n : Nat} {f : Int → Option Nat} (h : PM W b n f) : ∃ es clock, At W b (.map es clock) := by obtain ⟨D, ⟨es, clock, hb, _⟩, _⟩ := h; exact ⟨es, clock, hb⟩

/-- where a tree lies: its map, each box's block, each box's row of kids -/
structure Lay where
  mb : Nat
  bl : Int → Nat
  sl : Int → Value

/-- the tree T of n boxes lies in block t -/
structure Rep (W : World) (t : Nat) (L : Lay) (T : Tr.T) (n : Nat) : Prop where
  at_ : At W t (.cells #[.map (some L.mb)] 72)
  map : PM W L.mb n (fun z => (T z).map fun _ => L.bl z)
  box : ∀ z nd, T z = some nd → At W (L.bl z) (.cells (bcells nd.up (L.sl z) nd.sty) 69)
  row : ∀ z nd, T z = some nd → KS W (L.sl z) nd.kids
  inj : ∀ y z, T y ≠ none → T z ≠ none → L.bl y = L.bl z → y = z
  apart : ∀ y z g, T y ≠ none → T z ≠ none → (L.sl y).ownBlock = some g → (L.sl z).ownBlock = some g → y = z
  small : ∀ z nd, T z = some nd → 0 ≤ z ∧ z < 4096 ∧ -1 ≤ nd.up ∧ nd.up < 4096 ∧ nd.kids.length ≤ 4096

/-- the blocks of a tree -/
def owned (t : Nat) (L : Lay) (T : Tr.T) (b : Nat) : Prop := b = t ∨ b = L.mb ∨ ∃ z nd, T z = some nd ∧ (b = L.bl z ∨ (L.sl z).ownBlock = some b)

section
variable {W W' : World} {t n : Nat} {L : Lay} {T : Tr.T}

theorem Rep.out {M : Nat → Prop} (h : Rep W t L T n) (hm : ∀ b, owned t L T b → ¬ M b) (k : Out M W W') : Rep W' t L T n where
  at_ := h.at_.out (hm _ (.inl rfl)) k
  map := h.map.out (hm _ (.inr (.inl rfl))) k
  box := fun z nd hz => (h.box z nd hz).out (hm _ (.inr (.inr ⟨z, nd, hz, .inl rfl⟩))) k
  row := fun z nd hz => (h.row z nd hz).out (fun g hg => hm _ (.inr (.inr ⟨z, nd, hz, .inr hg⟩))) k
  inj := h.inj
  apart := h.apart
  small := h.small
theorem Rep.after (h : Rep W t L T n) (hb : Below W.heap.size W W') : Rep W' t L T n := h.out (M := fun _ => False) (fun _ _ q => q) (Out.of_below hb)
theorem Rep.alloc (h : Rep W t L T n) (o : Obj) : Rep (W.alloc o) t L T n := h.after (Below.alloc' (Below.refl _ _) o)
theorem Rep.lt (h : Rep W t L T n) {b : Nat} (hb : owned t L T b) : b < W.heap.size := by
  rcases hb with rfl | rfl | ⟨z, nd, hz, rfl | hg⟩
  · exact h.at_.lt
  · exact h.map.lt
  · exact (h.box z nd hz).lt
  · exact (h.row z nd hz).lt hg

theorem Rep.t_mb (h : Rep W t L T n) : t ≠ L.mb := fun e => by
  obtain ⟨es, clock, h1⟩ := h.map.obj
  have := h.at_.uniq (e ▸ h1); cases this
theorem Rep.bl_t (h : Rep W t L T n) {z : Int} {nd : Tr.Nd} (hz : T z = some nd) : L.bl z ≠ t := fun e => by
  have := (h.box z nd hz).uniq (e ▸ h.at_); injection this with _ e2; exact absurd e2 (by decide)
theorem Rep.bl_mb (h : Rep W t L T n) {z : Int} {nd : Tr.Nd} (hz : T z = some nd) : L.bl z ≠ L.mb := fun e => by
  obtain ⟨es, clock, h1⟩ := h.map.obj
  have := (h.box z nd hz).uniq (e ▸ h1); cases this
theorem Rep.sl_t (h : Rep W t L T n) {z : Int} {nd : Tr.Nd} (hz : T z = some nd) : (L.sl z).ownBlock ≠ some t := fun e => by
  obtain ⟨cur, h1⟩ := (h.row z nd hz).rowAt e
  have := h1.uniq h.at_; injection this with _ e2; exact absurd e2 (by decide)
theorem Rep.sl_mb (h : Rep W t L T n) {z : Int} {nd : Tr.Nd} (hz : T z = some nd) : (L.sl z).ownBlock ≠ some L.mb := fun e => by
  obtain ⟨cur, h1⟩ := (h.row z nd hz).rowAt e
  obtain ⟨es, clock, h2⟩ := h.map.obj
  have := h1.uniq h2; cases this
theorem Rep.sl_bl (h : Rep W t L T n) {z y : Int} {nd yd : Tr.Nd} (hz : T z = some nd) (hy : T y = some yd) : (L.sl z).ownBlock ≠ some (L.bl y) := fun e => by
  obtain ⟨cur, h1⟩ := (h.row z nd hz).rowAt e
  have := h1.uniq (h.box y yd hy); injection this with _ e2; exact absurd e2 (by decide)

theorem Rep.sl_nbl (h : Rep W t L T n) {z y : Int} {nd yd : Tr.Nd} (hz : T z = some nd) (hy : T y = some yd) : ∀ g, (L.sl z).ownBlock = some g → ¬ (fun b => b = L.bl y) g := fun g hg (q : g = L.bl y) => h.sl_bl hz hy (by rw [hg, q])
theorem Rep.sl_nmb (h : Rep W t L T n) {z : Int} {nd : Tr.Nd} (hz : T z = some nd) : ∀ g, (L.sl z).ownBlock = some g → ¬ (fun b => b = L.mb) g := fun g hg (q : g = L.mb) => h.sl_mb hz (by rw [hg, q])

theorem Rep.wf (h : Rep W t L T n) {z : Int} {nd : Tr.Nd} (hz : T z = some nd) : Wf z := by have := h.small z nd hz; rw [wf_iff]; omega
theorem Rep.look (h : Rep W t L T n) {z : Int} (hz : Wf z) : (Instr.lookup 70 (.map (some L.mb)) (.int .i64 z) false).run Try.prog W = .ok (ptr ((T z).map fun _ => L.bl z)) W := h.map.look hz
theorem Rep.look_none (h : Rep W t L T n) {z : Int} (hz : Wf z) (hn : T z = none) : (Instr.lookup 70 (.map (some L.mb)) (.int .i64 z) false).run Try.prog W = .ok (.pointer none) W := by
  have := h.look hz; rw [hn] at this; exact this
theorem Rep.look_some (h : Rep W t L T n) {z : Int} {nd : Tr.Nd} (hn : T z = some nd) : (Instr.lookup 70 (.map (some L.mb)) (.int .i64 z) false).run Try.prog W = .ok (.pointer (some ⟨L.bl z, 0, none⟩)) W := by
  have := h.look (h.wf hn); rw [hn] at this; exact this
theorem Rep.cUp (h : Rep W t L T n) {z : Int} {nd : Tr.Nd} (hz : T z = some nd) : W.cell? ⟨L.bl z, 0, none⟩ = some (.int .i64 nd.up) := by rw [(h.box z nd hz).cell, bcells_up]
theorem Rep.cKids (h : Rep W t L T n) {z : Int} {nd : Tr.Nd} (hz : T z = some nd) : W.cell? ⟨L.bl z, 1, none⟩ = some (L.sl z) := by rw [(h.box z nd hz).cell, bcells_kids]
theorem Rep.sty (h : Rep W t L T n) {z : Int} {nd : Tr.Nd} (hz : T z = some nd) : StyAt W (L.bl z) 2 nd.sty := fun j hj => by rw [(h.box z nd hz).cell, bcells_sty _ _ _ hj]
theorem Rep.cT (h : Rep W t L T n) : W.cell? ⟨t, 0, none⟩ = some (.map (some L.mb)) := by rw [h.at_.cell]; rfl

/-- what lies behind a call that turns a tree: only its own blocks have turned, its blocks are its own or new -/
def Grow (t : Nat) (L L' : Lay) (T T' : Tr.T) (W W' : World) : Prop := Out (owned t L T) W W' ∧ ∀ b, owned t L' T' b → owned t L T b ∨ W.heap.size ≤ b

theorem Grow.refl (t : Nat) (L : Lay) (T : Tr.T) (W : World) : Grow t L L T T W W := ⟨Out.refl _ _, fun _ h => .inl h⟩
theorem Grow.of_below (h : Below W.heap.size W W') : Grow t L L T T W W' := ⟨Out.of_below h, fun _ h => .inl h⟩
theorem Grow.trans {W'' : World} {L' L'' : Lay} {T' T'' : Tr.T} (h : Grow t L L' T T' W W') (k : Grow t L' L'' T' T'' W' W'') : Grow t L L'' T T'' W W'' := by
  refine ⟨⟨h.1.1.trans k.1.1, fun b hb hm => (k.1.2 b (Nat.lt_of_lt_of_le hb h.1.size) fun q => ?_).trans (h.1.2 b hb hm)⟩, fun b hb => ?_⟩
  · rcases h.2 b q with q | q
    · exact hm q
    · omega
  · rcases k.2 b hb with q | q
    · exact h.2 b q
    · exact .inr (Nat.le_trans h.1.size q)

/-- a box's number of the one that it is in -/
theorem Rep.setUp (h : Rep W t L T n) {z u : Int} {nd : Tr.Nd} (hz : T z = some nd) (hu : -1 ≤ u ∧ u < 4096) : Rep (W.setCell ⟨L.bl z, 0, none⟩ (.int .i64 u)) t L (Tr.set T z { nd with up := u }) n ∧ Grow t L L T (Tr.set T z { nd with up := u }) W (W.setCell ⟨L.bl z, 0, none⟩ (.int .i64 u)) := by
  have hO : Out (fun b => b = L.bl z) W (W.setCell ⟨L.bl z, 0, none⟩ (.int .i64 u)) := (Out.refl _ _).set (M := fun b => b = L.bl z) rfl 0 _
  have hnn : ∀ y, (Tr.set T z { nd with up := u } y ≠ none ↔ T y ≠ none) := fun y => by
    by_cases e : y = z
    · subst e; simp [Tr.set_same, hz]
    · rw [Tr.set_other _ _ e]
  refine ⟨⟨h.at_.out (fun e => h.bl_t hz e.symm) hO, (h.map.out (fun e => h.bl_mb hz e.symm) hO).congr fun y _ => ?_, fun y yd hy => ?_, fun y yd hy => ?_, fun x y hx hy => h.inj x y ((hnn x).1 hx) ((hnn y).1 hy), fun x y g hx hy => h.apart x y g ((hnn x).1 hx) ((hnn y).1 hy), fun y yd hy => ?_⟩, hO.mono fun b _ e => .inr (.inr ⟨z, nd, hz, .inl e⟩), fun b hb => .inl ?_⟩
  · by_cases e : y = z
    · subst e; rw [Tr.set_same, hz]; rfl
    · rw [Tr.set_other _ _ e]
  · by_cases e : y = z
    · subst e; rw [Tr.set_same] at hy; cases hy
      have := (h.box y nd hz).set 0 (.int .i64 u)
      rw [bcells_set_up] at this
      exact this
    · rw [Tr.set_other _ _ e] at hy
      exact (h.box y yd hy).off (fun q => e (h.inj y z (by simp [hy]) (by simp [hz]) q)) _ _
  · by_cases e : y = z
    · subst e; rw [Tr.set_same] at hy; cases hy
      exact (h.row y nd hz).out (h.sl_nbl hz hz) hO
    · rw [Tr.set_other _ _ e] at hy
      exact (h.row y yd hy).out (h.sl_nbl hy hz) hO
  · by_cases e : y = z
    · subst e; rw [Tr.set_same] at hy; cases hy
      have := h.small y nd hz
      exact ⟨this.1, this.2.1, hu.1, hu.2, this.2.2.2.2⟩
    · rw [Tr.set_other _ _ e] at hy; exact h.small y yd hy
  · rcases hb with e | e | ⟨y, yd, hy, e⟩
    · exact .inl e
    · exact .inr (.inl e)
    · by_cases e2 : y = z
      · subst e2; exact .inr (.inr ⟨y, nd, hz, e⟩)
      · rw [Tr.set_other _ _ e2] at hy; exact .inr (.inr ⟨y, yd, hy, e⟩)

/-- a box's style -/
theorem Rep.setSty (h : Rep W t L T n) {z : Int} {s : Re.St} {nd : Tr.Nd} (hz : T z = some nd) : Rep (W.setRow (L.bl z) (bcells nd.up (L.sl z) s)) t L (Tr.set T z { nd with sty := s }) n ∧ Grow t L L T (Tr.set T z { nd with sty := s }) W (W.setRow (L.bl z) (bcells nd.up (L.sl z) s)) := by
  have hO : Out (fun b => b = L.bl z) W (W.setRow (L.bl z) (bcells nd.up (L.sl z) s)) := (Out.refl _ _).setRow (M := fun b => b = L.bl z) rfl _
  have hnn : ∀ y, (Tr.set T z { nd with sty := s } y ≠ none ↔ T y ≠ none) := fun y => by
    by_cases e : y = z
    · subst e; simp [Tr.set_same, hz]
    · rw [Tr.set_other _ _ e]
  refine ⟨⟨h.at_.out (fun e => h.bl_t hz e.symm) hO, (h.map.out (fun e => h.bl_mb hz e.symm) hO).congr fun y _ => ?_, fun y yd hy => ?_, fun y yd hy => ?_, fun x y hx hy => h.inj x y ((hnn x).1 hx) ((hnn y).1 hy), fun x y g hx hy => h.apart x y g ((hnn x).1 hx) ((hnn y).1 hy), fun y yd hy => ?_⟩, hO.mono fun b _ e => .inr (.inr ⟨z, nd, hz, .inl e⟩), fun b hb => .inl ?_⟩
  · by_cases e : y = z
    · subst e; rw [Tr.set_same, hz]; rfl
    · rw [Tr.set_other _ _ e]
  · by_cases e : y = z
    · subst e; rw [Tr.set_same] at hy; cases hy
      exact (h.box y nd hz).setRow _
    · rw [Tr.set_other _ _ e] at hy
      exact (h.box y yd hy).offRow (fun q => e (h.inj y z (by simp [hy]) (by simp [hz]) q)) _
  · by_cases e : y = z
    · subst e; rw [Tr.set_same] at hy; cases hy
      exact (h.row y nd hz).out (h.sl_nbl hz hz) hO
    · rw [Tr.set_other _ _ e] at hy
      exact (h.row y yd hy).out (h.sl_nbl hy hz) hO
  · by_cases e : y = z
    · subst e; rw [Tr.set_same] at hy; cases hy
      exact h.small y nd hz
    · rw [Tr.set_other _ _ e] at hy; exact h.small y yd hy
  · rcases hb with e | e | ⟨y, yd, hy, e⟩
    · exact .inl e
    · exact .inr (.inl e)
    · by_cases e2 : y = z
      · subst e2; exact .inr (.inr ⟨y, nd, hz, e⟩)
      · rw [Tr.set_other _ _ e2] at hy; exact .inr (.inr ⟨y, yd, hy, e⟩)

/-- a box's kids: its row has turned, or is a new one -/
theorem Rep.setKids (h : Rep W t L T n) {z : Int} {nd : Tr.Nd} {l : List Int} {v : Value} (hz : T z = some nd) (hO1 : Out (fun b => (L.sl z).ownBlock = some b) W W') (hv : KS W' v l) (hloc : v.ownBlock = (L.sl z).ownBlock ∨ v.ownBlock = none ∨ ∃ b, v.ownBlock = some b ∧ W.heap.size ≤ b) (hl : l.length ≤ 4096) :
    Rep (W'.setCell ⟨L.bl z, 1, none⟩ v) t { L with sl := fun y => if y = z then v else L.sl y } (Tr.set T z { nd with kids := l }) n ∧ Grow t L { L with sl := fun y => if y = z then v else L.sl y } T (Tr.set T z { nd with kids := l }) W (W'.setCell ⟨L.bl z, 1, none⟩ v) := by
  have hO2 : Out (fun b => b = L.bl z) W' (W'.setCell ⟨L.bl z, 1, none⟩ v) := (Out.refl _ _).set (M := fun b => b = L.bl z) rfl 1 _
  have hnn : ∀ y, (Tr.set T z { nd with kids := l } y ≠ none ↔ T y ≠ none) := fun y => by
    by_cases e : y = z
    · subst e; simp [Tr.set_same, hz]
    · rw [Tr.set_other _ _ e]
  have hrow : ∀ y yd, y ≠ z → T y = some yd → ∀ g, (L.sl y).ownBlock = some g → ¬ (L.sl z).ownBlock = some g := fun y yd e hy g hg q => e (h.apart y z g (by simp [hy]) (by simp [hz]) hg q)
  have hvz : v.ownBlock ≠ some (L.bl z) := by
    rcases hloc with e | e | ⟨b, e, hb⟩
    · rw [e]; exact h.sl_bl hz hz
    · rw [e]; simp
    · rw [e]; intro q; injection q with q; have := (h.box z nd hz).lt; omega
  have hO3 : Out (owned t L T) W (W'.setCell ⟨L.bl z, 1, none⟩ v) := by
    refine Out.trans (hO1.mono fun b _ e => .inr (.inr ⟨z, nd, hz, .inr e⟩)) ?_
    exact hO2.mono fun b _ e => .inr (.inr ⟨z, nd, hz, .inl e⟩)
  refine ⟨⟨(h.at_.out (fun e => h.sl_t hz e) hO1).out (fun e => h.bl_t hz e.symm) hO2, ((h.map.out (fun e => h.sl_mb hz e) hO1).out (fun e => h.bl_mb hz e.symm) hO2).congr fun y _ => ?_, fun y yd hy => ?_, fun y yd hy => ?_, fun x y hx hy => h.inj x y ((hnn x).1 hx) ((hnn y).1 hy), fun x y g hx hy => ?_, fun y yd hy => ?_⟩, hO3, fun b hb => ?_⟩
  · by_cases e : y = z
    · subst e; rw [Tr.set_same, hz]; rfl
    · rw [Tr.set_other _ _ e]
  · by_cases e : y = z
    · subst e; rw [Tr.set_same] at hy; cases hy
      have := ((h.box y nd hz).out (fun e => h.sl_bl hz hz e) hO1).set 1 v
      rw [bcells_set_kids] at this
      simp only [if_true]
      exact this
    · rw [Tr.set_other _ _ e] at hy
      simp only [if_neg e]
      exact ((h.box y yd hy).out (fun e => h.sl_bl hz hy e) hO1).off (fun q => e (h.inj y z (by simp [hy]) (by simp [hz]) q)) _ _
  · by_cases e : y = z
    · subst e; rw [Tr.set_same] at hy; cases hy
      simp only [if_true]
      exact hv.out (M := fun b => b = L.bl y) (fun g hg (q : g = L.bl y) => hvz (by rw [hg, q])) hO2
    · rw [Tr.set_other _ _ e] at hy
      simp only [if_neg e]
      exact ((h.row y yd hy).out (hrow y yd e hy) hO1).out (h.sl_nbl hy hz) hO2
  · have new : ∀ y, T y ≠ none → y ≠ z → (L.sl y).ownBlock = some g → v.ownBlock = some g → False := fun y hy e h1 h2 => by
      obtain ⟨yd, hyd⟩ := Option.ne_none_iff_exists'.1 hy
      rcases hloc with q | q | ⟨b, q, hb⟩
      · exact hrow y yd e hyd g h1 (q ▸ h2)
      · rw [q] at h2; cases h2
      · rw [q] at h2; injection h2 with h2; have := (h.row y yd hyd).lt h1; omega
    by_cases e1 : x = z
    · by_cases e2 : y = z
      · intro _ _; rw [e1, e2]
      · intro h1 h2
        simp only [if_pos e1] at h1
        simp only [if_neg e2] at h2
        exact (new y ((hnn y).1 hy) e2 h2 h1).elim
    · by_cases e2 : y = z
      · intro h1 h2
        simp only [if_neg e1] at h1
        simp only [if_pos e2] at h2
        exact (new x ((hnn x).1 hx) e1 h1 h2).elim
      · intro h1 h2
        simp only [if_neg e1] at h1
        simp only [if_neg e2] at h2
        exact h.apart x y g ((hnn x).1 hx) ((hnn y).1 hy) h1 h2
  · by_cases e : y = z
    · subst e; rw [Tr.set_same] at hy; cases hy
      have := h.small y nd hz
      exact ⟨this.1, this.2.1, this.2.2.1, this.2.2.2.1, hl⟩
    · rw [Tr.set_other _ _ e] at hy; exact h.small y yd hy
  · rcases hb with e | e | ⟨y, yd, hy, e⟩
    · exact .inl (.inl e)
    · exact .inl (.inr (.inl e))
    · by_cases e2 : y = z
      · subst e2
        rcases e with e | e
        · exact .inl (.inr (.inr ⟨y, nd, hz, .inl e⟩))
        · simp only [if_true] at e
          rcases hloc with q | q | ⟨c, q, hc⟩
          · exact .inl (.inr (.inr ⟨y, nd, hz, .inr (q ▸ e)⟩))
          · rw [q] at e; cases e
          · rw [q] at e; injection e with e; subst e; exact .inr hc
      · rw [Tr.set_other _ _ e2] at hy
        simp only [if_neg e2] at e
        exact .inl (.inr (.inr ⟨y, yd, hy, e⟩))

/-- a box comes, in a new block -/
theorem Rep.add (h : Rep W t L T n) {z : Int} {b : Nat} {u : Int} {s : Re.St} (hz : T z = none) (hr : 0 ≤ z ∧ z < 4096) (hu : -1 ≤ u ∧ u < 4096) (hb : At W b (.cells (bcells u (.slice none 0 0) s) 69)) (hnew : ¬ owned t L T b) {W' : World} (hO : Out (fun x => x = L.mb) W W') (hm : PM W' L.mb (n + 1) (fset (fun z => (T z).map fun _ => L.bl z) z b)) :
    Rep W' t { L with bl := fun y => if y = z then b else L.bl y, sl := fun y => if y = z then .slice none 0 0 else L.sl y } (Tr.set T z ⟨u, [], s⟩) (n + 1) ∧ Out (owned t L T) W W' ∧ ∀ x, owned t { L with bl := fun y => if y = z then b else L.bl y, sl := fun y => if y = z then .slice none 0 0 else L.sl y } (Tr.set T z ⟨u, [], s⟩) x → owned t L T x ∨ x = b := by
  have hne : ∀ y yd, T y = some yd → y ≠ z := fun y yd hy e => by rw [e, hz] at hy; cases hy
  have hbm : b ≠ L.mb := fun e => hnew (.inr (.inl e))
  have old : ∀ y, y ≠ z → (Tr.set T z ⟨u, [], s⟩ y ≠ none → T y ≠ none) := fun y e => by rw [Tr.set_other _ _ e]; exact id
  refine ⟨⟨h.at_.out (fun e => h.t_mb e) hO, hm.congr fun y _ => ?_, fun y yd hy => ?_, fun y yd hy => ?_, fun x y hx hy => ?_, fun x y g hx hy => ?_, fun y yd hy => ?_⟩, hO.mono fun x _ e => .inr (.inl e), fun x hx => ?_⟩
  · unfold fset
    by_cases e : y = z
    · subst e; simp [Tr.set_same]
    · simp [e, Tr.set_other _ _ e]
  · by_cases e : y = z
    · subst e; rw [Tr.set_same] at hy; cases hy
      simp only [if_true]
      exact hb.out hbm hO
    · rw [Tr.set_other _ _ e] at hy
      simp only [if_neg e]
      exact (h.box y yd hy).out (fun q => h.bl_mb hy q) hO
  · by_cases e : y = z
    · subst e; rw [Tr.set_same] at hy; cases hy
      simp only [if_true]
      exact KS.nil _
    · rw [Tr.set_other _ _ e] at hy
      simp only [if_neg e]
      exact (h.row y yd hy).out (h.sl_nmb hy) hO
  · have new : ∀ y, T y ≠ none → L.bl y ≠ b := fun y hy q => by
      obtain ⟨yd, hyd⟩ := Option.ne_none_iff_exists'.1 hy
      exact hnew (.inr (.inr ⟨y, yd, hyd, .inl q.symm⟩))
    by_cases e1 : x = z
    · by_cases e2 : y = z
      · intro _; rw [e1, e2]
      · intro q; simp only [if_pos e1, if_neg e2] at q; exact (new y (old y e2 hy) q.symm).elim
    · by_cases e2 : y = z
      · intro q; simp only [if_neg e1, if_pos e2] at q; exact (new x (old x e1 hx) q).elim
      · intro q; simp only [if_neg e1, if_neg e2] at q; exact h.inj x y (old x e1 hx) (old y e2 hy) q
  · by_cases e1 : x = z
    · intro q; simp only [if_pos e1] at q; cases q
    · by_cases e2 : y = z
      · intro _ q; simp only [if_pos e2] at q; cases q
      · intro q r; simp only [if_neg e1] at q; simp only [if_neg e2] at r
        exact h.apart x y g (old x e1 hx) (old y e2 hy) q r
  · by_cases e : y = z
    · subst e; rw [Tr.set_same] at hy; cases hy
      exact ⟨hr.1, hr.2, hu.1, hu.2, by simp⟩
    · rw [Tr.set_other _ _ e] at hy; exact h.small y yd hy
  · rcases hx with e | e | ⟨y, yd, hy, e⟩
    · exact .inl (.inl e)
    · exact .inl (.inr (.inl e))
    · by_cases e2 : y = z
      · simp only [if_pos e2] at e
        rcases e with e | e
        · exact .inr e
        · cases e
      · rw [Tr.set_other _ _ e2] at hy
        simp only [if_neg e2] at e
        exact .inl (.inr (.inr ⟨y, yd, hy, e⟩))

/-- a box goes -/
theorem Rep.drop (h : Rep W t L T n) {z : Int} {W' : World} (hO : Out (fun x => x = L.mb) W W') (hm : PM W' L.mb (n - 1) (fdel (fun z => (T z).map fun _ => L.bl z) z)) :
    Rep W' t L (Tr.del T [z]) (n - 1) ∧ Grow t L L T (Tr.del T [z]) W W' := by
  have sub : ∀ y yd, Tr.del T [z] y = some yd → T y = some yd ∧ y ≠ z := fun y yd hy => by
    unfold Tr.del at hy
    by_cases e : y = z
    · simp [e] at hy
    · simp [e] at hy; exact ⟨hy, e⟩
  have nn : ∀ y, Tr.del T [z] y ≠ none → T y ≠ none := fun y hy => by
    obtain ⟨yd, hyd⟩ := Option.ne_none_iff_exists'.1 hy
    rw [(sub y yd hyd).1]; simp
  refine ⟨⟨h.at_.out (fun e => h.t_mb e) hO, hm.congr fun y _ => ?_, fun y yd hy => (h.box y yd (sub y yd hy).1).out (fun q => h.bl_mb (sub y yd hy).1 q) hO, fun y yd hy => (h.row y yd (sub y yd hy).1).out (h.sl_nmb (sub y yd hy).1) hO, fun x y hx hy => h.inj x y (nn x hx) (nn y hy), fun x y g hx hy => h.apart x y g (nn x hx) (nn y hy), fun y yd hy => h.small y yd (sub y yd hy).1⟩, hO.mono fun x _ e => .inr (.inl e), fun x hx => .inl ?_⟩
  · unfold fdel Tr.del
    by_cases e : y = z
    · simp [e]
    · simp [e]
  · rcases hx with e | e | ⟨y, yd, hy, e⟩
    · exact .inl e
    · exact .inr (.inl e)
    · exact .inr (.inr ⟨y, yd, (sub y yd hy).1, e⟩)
end

end Go.Proofs.Ytmjnlnnedjmcfaa.Fix
