/- A style as a value and as a block of 55 places; what a call may change, by its blocks; who answers a walk. -/
import Derived.Test.YtbkocceemfhhbaaFix
import Derived.Test.YtbkocceemfhhbaaMem
import Derived.Test.YtbkocceemfhhbaaRecMath
import Derived.Deep.MidRow
namespace Go.Proofs.Ytbkocceemfhhbaa.Fix
open Go.ChangeShapes Go.WideShapes Go.ChangeAt Go.RowKit
set_option linter.unusedVariables false

/-- the value at place i of a style -/
def cell (t : Re.St) (i : Nat) : Value := if Re.isB i = true then .bool (t.b i) else .int .i64 (t.c i)
/-- a style's cells -/
def cells (t : Re.St) : Array Value := ((List.range 55).map (cell t)).toArray

theorem cells_size (t : Re.St) : (cells t).size = 55 := by simp [cells]
theorem cells_get (t : Re.St) {i : Nat} (h : i < 55) : (cells t)[i]? = some (cell t i) := by simp [cells, h]
theorem cell_int (t : Re.St) {i : Nat} (h : Re.isB i = false) : cell t i = .int .i64 (t.c i) := by simp [cell, h]
theorem cell_bool (t : Re.St) {i : Nat} (h : Re.isB i = true) : cell t i = .bool (t.b i) := by simp [cell, h]
theorem cells_int (t : Re.St) {i : Nat} (h : i < 55) (hb : Re.isB i = false) : (cells t)[i]? = some (.int .i64 (t.c i)) := by rw [cells_get t h, cell_int t hb]
theorem cells_bool (t : Re.St) {i : Nat} (h : i < 55) (hb : Re.isB i = true) : (cells t)[i]? = some (.bool (t.b i)) := by rw [cells_get t h, cell_bool t hb]
theorem cell_one (t : Re.St) (i : Nat) : (cell t i).oneCell' = true := by unfold cell; split <;> rfl
theorem cells_one (t : Re.St) : (cells t).all (·.oneCell') = true := by
  refine Array.all_eq_true_iff_forall_mem.2 fun v hv => ?_
  simp only [cells, List.mem_toArray, List.mem_map] at hv
  obtain ⟨i, _, rfl⟩ := hv
  exact cell_one t i

theorem cells_congr {s t : Re.St} (h : ∀ i, i < 55 → cell s i = cell t i) : cells s = cells t := by
  unfold cells
  congr 1
  exact List.map_congr_left fun i hi => h i (List.mem_range.1 hi)

theorem cells_set {s t : Re.St} {i : Nat} {v : Value} (hv : v = cell t i) (h : ∀ j, j < 55 → j ≠ i → cell s j = cell t j) : (cells s).setIfInBounds i v = cells t := by
  apply Array.ext_getElem?
  intro j
  rw [Array.getElem?_setIfInBounds]
  by_cases hj : j < 55
  · by_cases e : i = j
    · subst e; rw [if_pos rfl, cells_size, if_pos hj, cells_get t hj, hv]
    · rw [if_neg e, cells_get s hj, cells_get t hj, h j hj (fun q => e q.symm)]
  · have e1 : (cells s)[j]? = none := Array.getElem?_eq_none (by rw [cells_size]; omega)
    have e2 : (cells t)[j]? = none := Array.getElem?_eq_none (by rw [cells_size]; omega)
    rw [e1, e2, cells_size]
    by_cases e : i = j
    · rw [if_pos e, if_neg (by omega)]
    · rw [if_neg e]

theorem cell_same {s t : Re.St} (h : Re.same s t) {i : Nat} (hi : i < 55) : cell s i = cell t i := by
  have := h i hi
  unfold cell
  by_cases e : Re.isB i = true
  · rw [if_pos e] at this ⊢; rw [if_pos e, this]
  · rw [if_neg e] at this ⊢; rw [if_neg e, this]
theorem cells_same {s t : Re.St} (h : Re.same s t) : cells s = cells t := cells_congr fun i hi => cell_same h hi

/-- the first k places answered by f -/
def mix (f : Nat → Int → Int) (t : Re.St) (k : Nat) : Re.St := ⟨fun i => if i < k then f i (Re.num t i) else t.c i, fun i => if i < k then f i (Re.num t i) == 1 else t.b i⟩
/-- the numbers of the first k places -/
def ins (t : Re.St) (k : Nat) : List Int := (List.range k).map (Re.num t)

theorem ins_succ (t : Re.St) (k : Nat) : ins t (k + 1) = ins t k ++ [Re.num t k] := by simp [ins, List.range_succ]
theorem ins_len (t : Re.St) (k : Nat) : (ins t k).length = k := by simp [ins]
theorem mix_lt (f : Nat → Int → Int) (t : Re.St) {k i : Nat} (h : i < k) : (mix f t k).c i = f i (Re.num t i) := by simp [mix, h]
theorem mix_ge (f : Nat → Int → Int) (t : Re.St) {k i : Nat} (h : k ≤ i) : (mix f t k).c i = t.c i := by simp [mix, show ¬ i < k by omega]
theorem mix_bge (f : Nat → Int → Int) (t : Re.St) {k i : Nat} (h : k ≤ i) : (mix f t k).b i = t.b i := by simp [mix, show ¬ i < k by omega]
theorem mix_blt (f : Nat → Int → Int) (t : Re.St) {k i : Nat} (h : i < k) : (mix f t k).b i = (f i (Re.num t i) == 1) := by simp [mix, h]
theorem mix_zero (f : Nat → Int → Int) (t : Re.St) : mix f t 0 = t := by simp [mix]

theorem mix_set_int (f : Nat → Int → Int) (t : Re.St) {k : Nat} (hb : Re.isB k = false) : (cells (mix f t k)).setIfInBounds k (.int .i64 (f k (t.c k))) = cells (mix f t (k + 1)) := by
  refine cells_set ?_ fun j _ hj => ?_
  · rw [cell_int _ hb, mix_lt f t (Nat.lt_succ_self k), Re.num_c hb]
  · unfold cell mix
    simp only [show (j < k + 1) = (j < k) by simp; omega]

theorem mix_set_bool (f : Nat → Int → Int) (t : Re.St) {k : Nat} (hb : Re.isB k = true) : (cells (mix f t k)).setIfInBounds k (.bool (f k (Re.num t k) == 1)) = cells (mix f t (k + 1)) := by
  refine cells_set ?_ fun j _ hj => ?_
  · rw [cell_bool _ hb, mix_blt f t (Nat.lt_succ_self k)]
  · unfold cell mix
    simp only [show (j < k + 1) = (j < k) by simp; omega]

/-- what was there stands, but for the blocks of M -/
def Out (M : Nat → Prop) (W W' : World) : Prop := Below 0 W W' ∧ ∀ b, b < W.heap.size → ¬ M b → W'.heap[b]? = W.heap[b]?

theorem Out.refl (M : Nat → Prop) (W : World) : Out M W W := ⟨Below.refl _ _, fun _ _ _ => rfl⟩
theorem Out.size {M : Nat → Prop} {W W' : World} (h : Out M W W') : W.heap.size ≤ W'.heap.size := h.1.size
theorem Out.trans {M : Nat → Prop} {X Y Z : World} (h : Out M X Y) (k : Out M Y Z) : Out M X Z := ⟨h.1.trans k.1, fun b hb hm => (k.2 b (Nat.lt_of_lt_of_le hb h.size) hm).trans (h.2 b hb hm)⟩
theorem Out.mono {M M' : Nat → Prop} {X Y : World} (h : Out M X Y) (hm : ∀ b, b < X.heap.size → M b → M' b) : Out M' X Y := ⟨h.1, fun b hb hn => h.2 b hb fun q => hn (hm b hb q)⟩
theorem Out.of_below {M : Nat → Prop} {X Y : World} (h : Below X.heap.size X Y) : Out M X Y := ⟨h.mono (Nat.zero_le _), fun b hb _ => h.block b hb⟩
theorem Out.below {M : Nat → Prop} {n : Nat} {X Y : World} (h : Out M X Y) (hn : n ≤ X.heap.size) (hm : ∀ b, b < n → ¬ M b) : Below n X Y := ⟨h.1.os, h.1.tape, h.1.output, h.1.size, fun b hb => h.2 b (Nat.lt_of_lt_of_le hb hn) (hm b hb)⟩
theorem Out.set {M : Nat → Prop} {X Y : World} (h : Out M X Y) {b : Nat} (hb : M b) (i : Nat) (v : Value) : Out M X (Y.setCell ⟨b, i, none⟩ v) :=
  ⟨Below.setCell h.1 (by simp) _, fun c hc hm => (Below.heap_setCell Y ⟨b, i, none⟩ v c (fun e => hm (e ▸ hb))).trans (h.2 c hc hm)⟩
theorem At.out {M : Nat → Prop} {X Y : World} {b : Nat} {o : Obj} (h : At X b o) (hm : ¬ M b) (k : Out M X Y) : At Y b o := (k.2 b h.lt hm).trans h

theorem setRow_same {W : World} {b : Nat} {cs : Array Value} {T : TypeId} (h : At W b (.cells cs T)) : W.setRow b cs = W := by
  unfold At at h
  obtain ⟨hlt, he⟩ := Array.getElem?_eq_some_iff.1 h
  cases W with
  | mk heap tape drawn os output =>
    unfold World.setRow
    congr 1
    apply Array.ext
    · simp
    · intro k h1 h2
      simp only [Array.getElem_modify]
      split
      · rename_i hk; subst hk; simp at he; simp [he]
      · rfl

theorem At.setRow {W : World} {b : Nat} {cs : Array Value} {T : TypeId} (h : At W b (.cells cs T)) (cs' : Array Value) : At (W.setRow b cs') b (.cells cs' T) := setRow_heap W b cs cs' T _ h
theorem At.offRow {W : World} {b b' : Nat} {o : Obj} (h : At W b o) (hne : b ≠ b') (cs' : Array Value) : At (W.setRow b' cs') b o := by
  unfold At World.setRow at *
  simp only [Array.getElem?_modify]
  rw [if_neg (fun e => hne e.symm)]
  exact h
theorem Out.setRow {M : Nat → Prop} {X Y : World} (h : Out M X Y) {b : Nat} (hb : M b) (cs : Array Value) : Out M X (Y.setRow b cs) :=
  ⟨⟨h.1.os, h.1.tape, h.1.output, by simpa [World.setRow] using h.1.size, fun _ hb => absurd hb (Nat.not_lt_zero _)⟩, fun c hc hm => by
    have := h.2 c hc hm
    unfold World.setRow
    simp only [Array.getElem?_modify]
    rw [if_neg (by rintro rfl; exact hm hb)]
    exact this⟩

/-! a style as a whole -/
theorem styleSize : (Try.prog.info? 43).map (·.size) = some 55 := by kernel_rfl
theorem load_style {W : World} {b : Nat} {s : Re.St} (h : At W b (.cells (cells s) 43)) : (Instr.loadAt 43 (.pointer (some ⟨b, 0, none⟩))).run Try.prog W = .ok (.agg (cells s)) W := by
  simp only [Instr.loadAt, Instr.sureAddr, Sem.run_bind, Sem.run_pure, Result.andThen_ok, run_loadVar_row W b 43 43 (cells s) (0, 0) _ h Try.underlying43 rfl (by rw [cells_size]; exact styleSize)]
theorem loadVar_style {W : World} {b : Nat} {s : Re.St} (h : At W b (.cells (cells s) 43)) : (loadVar 43 ⟨b, 0, none⟩).run Try.prog W = .ok (.agg (cells s)) W :=
  run_loadVar_row W b 43 43 (cells s) (0, 0) _ h Try.underlying43 rfl (by rw [cells_size]; exact styleSize)
theorem store_style {W : World} {b : Nat} {s t : Re.St} (h : At W b (.cells (cells s) 43)) : (Instr.storeAt 43 (.pointer (some ⟨b, 0, none⟩)) (.agg (cells t))).run Try.prog W = .ok () (W.setRow b (cells t)) := by
  simp only [Instr.storeAt, Instr.sureAddr, Sem.run_bind, Sem.run_pure, Result.andThen_ok, run_storeVar_row W b 43 43 (cells s) (cells t) h (by rw [cells_size]; exact styleSize) (by rw [cells_size, cells_size]) (cells_one t)]
theorem store_style_same {W : World} {b : Nat} {s : Re.St} (h : At W b (.cells (cells s) 43)) : (Instr.storeAt 43 (.pointer (some ⟨b, 0, none⟩)) (.agg (cells s))).run Try.prog W = .ok () W := by
  rw [store_style h, setRow_same h]
theorem build_style (W : World) : (Instr.build 43 #[]).run Try.prog W = .ok (.agg (cells Re.zero)) W := by kernel_rfl
theorem alloc_style (W : World) : (Instr.alloc 43 true (.tuple #[])).run Try.prog W = .ok (.pointer (some ⟨W.heap.size, 0, none⟩)) (W.alloc (.cells (cells Re.zero) 43)) := by kernel_rfl

/-- Who answers: function F, with what it captured; f: its answers; mine: the blocks it may write to; I: what holds behind the numbers asked so far. -/
structure Asks (F : FuncId) (caps : Array Value) (f : Nat → Int → Int) (mine : Nat → Prop) (I : List Int → World → Prop) : Prop where
  keep : ∀ xs W W', I xs W → Below W.heap.size W W' → I xs W'
  set : ∀ xs W b i v, I xs W → ¬ mine b → I xs (W.setCell ⟨b, i, none⟩ v)
  enters : ∀ (x : Int) (w : World), (callFunc F (#[.int .i64 x] ++ caps)).run Try.prog w = .ok (.enter F (#[.int .i64 x] ++ caps)) w
  call : ∀ xs x W, I xs W → xs.length < 55 → Calls Try.prog F (#[.int .i64 x] ++ caps) W fun e W' => e = .returned (.int .i64 (f xs.length x)) ∧ I (xs ++ [x]) W' ∧ Out mine W W'

end Go.Proofs.Ytbkocceemfhhbaa.Fix
