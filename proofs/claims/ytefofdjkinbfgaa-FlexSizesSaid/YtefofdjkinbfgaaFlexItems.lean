/- Items in memory, and stores of whole items (for rowOf of the layer flex). -/
import Derived.Test.YtefofdjkinbfgaaFlexShared
namespace Go.Proofs.Ytefofdjkinbfgaa.Fix
open Go.ChangeShapes Go.WideShapes Go.ChangeAt Go.RowKit Go.Shelf
set_option linter.unusedVariables false
attribute [local go_sem] Oper.semAt_some

/-- A slice of items that can be read: five cells each. -/
def Items (w : World) (A : Option Addr) (l : Nat → Fe.It) (n : Nat) : Prop :=
  0 < n → ∃ b off, A = some ⟨b, off, none⟩ ∧ b < w.heap.size ∧ ∀ k, k < n → w.cell? ⟨b, off + k * 5, none⟩ = some (.int .i64 (l k).b) ∧ w.cell? ⟨b, off + k * 5 + 1, none⟩ = some (.int .i64 (l k).lo) ∧ w.cell? ⟨b, off + k * 5 + 2, none⟩ = some (.int .i64 (l k).hi) ∧ w.cell? ⟨b, off + k * 5 + 3, none⟩ = some (.int .i64 (l k).g) ∧ w.cell? ⟨b, off + k * 5 + 4, none⟩ = some (.int .i64 (l k).s)

theorem Items.after {W w : World} {A : Option Addr} {l : Nat → Fe.It} {n : Nat} (h : Items W A l n) (hb : Below W.heap.size W w) : Items w A l n := fun h0 => by
  obtain ⟨b, off, rfl, hl, hc⟩ := h h0
  refine ⟨b, off, rfl, Nat.lt_of_lt_of_le hl hb.size, fun k hk => ?_⟩
  obtain ⟨c0, c1, c2, c3, c4⟩ := hc k hk
  exact ⟨(hb.cell (p := ⟨b, off + k * 5, none⟩) hl).trans c0, (hb.cell (p := ⟨b, off + k * 5 + 1, none⟩) hl).trans c1, (hb.cell (p := ⟨b, off + k * 5 + 2, none⟩) hl).trans c2, (hb.cell (p := ⟨b, off + k * 5 + 3, none⟩) hl).trans c3, (hb.cell (p := ⟨b, off + k * 5 + 4, none⟩) hl).trans c4⟩

theorem Blk.step {W : World} {I n k j : Nat} {S : Nat → Fe.St} {s : Fe.St} {v : Value} (t : Fe.St) (h : Blk W I n (fun i => if i = k then s else S i)) (hk : k < n) (hj : j < 8) (hv : fld t j = v) (ho : ∀ q, q < 8 → q ≠ j → fld t q = fld s q) :
    Blk (W.setCell ⟨I, k * 8 + j, none⟩ v) I n (fun i => if i = k then t else S i) :=
  h.put hk hj (by simpa using hv) (fun q hq hqn => by simpa using ho q hq hqn) (fun i _ hi => by simp [hi])

theorem Blk.put8 {W : World} {I n k : Nat} {S : Nat → Fe.St} (h : Blk W I n S) (hk : k < n) (b lo hi g s z : Int) :
    Blk ((((((((W.setCell ⟨I, k * 8, none⟩ (.int .i64 b)).setCell ⟨I, k * 8 + 1, none⟩ (.int .i64 lo)).setCell ⟨I, k * 8 + 2, none⟩ (.int .i64 hi)).setCell ⟨I, k * 8 + 3, none⟩ (.int .i64 g)).setCell ⟨I, k * 8 + 4, none⟩ (.int .i64 s)).setCell ⟨I, k * 8 + 5, none⟩ (.int .i64 z)).setCell ⟨I, k * 8 + 6, none⟩ (.int .i64 0)).setCell ⟨I, k * 8 + 7, none⟩ (.bool false)) I n
      (fun i => if i = k then ⟨⟨b, lo, hi, g, s⟩, z, 0, false⟩ else S i) := by
  have h0 : Blk W I n (fun i => if i = k then S k else S i) := h.same fun i _ => by by_cases e : i = k <;> simp [e]
  generalize S k = s0 at h0
  obtain ⟨⟨b0, lo0, hi0, g0, s00⟩, z0, m0, f0⟩ := s0
  have h1 := h0.step (j := 0) (v := .int .i64 b) ⟨⟨b, lo0, hi0, g0, s00⟩, z0, m0, f0⟩ hk (by omega) rfl (by intro q hq hn; unfold fld; (repeat' split) <;> first | rfl | omega)
  have h2 := h1.step (j := 1) (v := .int .i64 lo) ⟨⟨b, lo, hi0, g0, s00⟩, z0, m0, f0⟩ hk (by omega) rfl (by intro q hq hn; unfold fld; (repeat' split) <;> first | rfl | omega)
  have h3 := h2.step (j := 2) (v := .int .i64 hi) ⟨⟨b, lo, hi, g0, s00⟩, z0, m0, f0⟩ hk (by omega) rfl (by intro q hq hn; unfold fld; (repeat' split) <;> first | rfl | omega)
  have h4 := h3.step (j := 3) (v := .int .i64 g) ⟨⟨b, lo, hi, g, s00⟩, z0, m0, f0⟩ hk (by omega) rfl (by intro q hq hn; unfold fld; (repeat' split) <;> first | rfl | omega)
  have h5 := h4.step (j := 4) (v := .int .i64 s) ⟨⟨b, lo, hi, g, s⟩, z0, m0, f0⟩ hk (by omega) rfl (by intro q hq hn; unfold fld; (repeat' split) <;> first | rfl | omega)
  have h6 := h5.step (j := 5) (v := .int .i64 z) ⟨⟨b, lo, hi, g, s⟩, z, m0, f0⟩ hk (by omega) rfl (by intro q hq hn; unfold fld; (repeat' split) <;> first | rfl | omega)
  have h7 := h6.step (j := 6) (v := .int .i64 0) ⟨⟨b, lo, hi, g, s⟩, z, 0, f0⟩ hk (by omega) rfl (by intro q hq hn; unfold fld; (repeat' split) <;> first | rfl | omega)
  exact h7.step (j := 7) (v := .bool false) ⟨⟨b, lo, hi, g, s⟩, z, 0, false⟩ hk (by omega) rfl (by intro q hq hn; unfold fld; (repeat' split) <;> first | rfl | omega)

theorem At.off8 {W : World} {I k c : Nat} {o : Obj} (h : At W c o) (hne : c ≠ I) (b lo hi g s z : Int) : At ((((((((W.setCell ⟨I, k * 8, none⟩ (.int .i64 b)).setCell ⟨I, k * 8 + 1, none⟩ (.int .i64 lo)).setCell ⟨I, k * 8 + 2, none⟩ (.int .i64 hi)).setCell ⟨I, k * 8 + 3, none⟩ (.int .i64 g)).setCell ⟨I, k * 8 + 4, none⟩ (.int .i64 s)).setCell ⟨I, k * 8 + 5, none⟩ (.int .i64 z)).setCell ⟨I, k * 8 + 6, none⟩ (.int .i64 0)).setCell ⟨I, k * 8 + 7, none⟩ (.bool false)) c o :=
  (((((((h.off hne _ _).off hne _ _).off hne _ _).off hne _ _).off hne _ _).off hne _ _).off hne _ _).off hne _ _

theorem RowW.put8 {W : World} {R I n k : Nat} {room : Int} {gr : Bool} {S T : Nat → Fe.St} (h : RowW W R I n room gr (mix S T k)) (hk : k < n) (b lo hi g s z : Int) (hT : T k = ⟨⟨b, lo, hi, g, s⟩, z, 0, false⟩) :
    RowW ((((((((W.setCell ⟨I, k * 8, none⟩ (.int .i64 b)).setCell ⟨I, k * 8 + 1, none⟩ (.int .i64 lo)).setCell ⟨I, k * 8 + 2, none⟩ (.int .i64 hi)).setCell ⟨I, k * 8 + 3, none⟩ (.int .i64 g)).setCell ⟨I, k * 8 + 4, none⟩ (.int .i64 s)).setCell ⟨I, k * 8 + 5, none⟩ (.int .i64 z)).setCell ⟨I, k * 8 + 6, none⟩ (.int .i64 0)).setCell ⟨I, k * 8 + 7, none⟩ (.bool false)) R I n room gr (mix S T (k + 1)) :=
  ⟨At.off8 h.1 h.ne b lo hi g s z, (h.2.put8 hk b lo hi g s z).same fun i _ => by
    by_cases e : i = k
    · subst e; rw [mix_at, hT]; simp
    · rw [mix_off _ _ e]; simp [e]⟩

theorem Below.put8 {N : Nat} {w W : World} {I k : Nat} (h : Below N w W) (hN : N ≤ I) (b lo hi g s z : Int) : Below N w ((((((((W.setCell ⟨I, k * 8, none⟩ (.int .i64 b)).setCell ⟨I, k * 8 + 1, none⟩ (.int .i64 lo)).setCell ⟨I, k * 8 + 2, none⟩ (.int .i64 hi)).setCell ⟨I, k * 8 + 3, none⟩ (.int .i64 g)).setCell ⟨I, k * 8 + 4, none⟩ (.int .i64 s)).setCell ⟨I, k * 8 + 5, none⟩ (.int .i64 z)).setCell ⟨I, k * 8 + 6, none⟩ (.int .i64 0)).setCell ⟨I, k * 8 + 7, none⟩ (.bool false)) :=
  Below.setCell (Below.setCell (Below.setCell (Below.setCell (Below.setCell (Below.setCell (Below.setCell (Below.setCell h hN _) hN _) hN _) hN _) hN _) hN _) hN _) hN _

theorem At.put5 {W : World} {b : Nat} {x y z u v : Value} {T : TypeId} (h : At W b (.cells #[x, y, z, u, v] T)) (x' y' z' u' v' : Value) :
    At (((((W.setCell ⟨b, 0, none⟩ x').setCell ⟨b, 1, none⟩ y').setCell ⟨b, 2, none⟩ z').setCell ⟨b, 3, none⟩ u').setCell ⟨b, 4, none⟩ v') b (.cells #[x', y', z', u', v'] T) := ((((h.set 0 x').set 1 y').set 2 z').set 3 u').set 4 v'

theorem Below.put5 {N : Nat} {w W : World} {b : Nat} (h : Below N w W) (hN : N ≤ b) (x' y' z' u' v' : Value) : Below N w (((((W.setCell ⟨b, 0, none⟩ x').setCell ⟨b, 1, none⟩ y').setCell ⟨b, 2, none⟩ z').setCell ⟨b, 3, none⟩ u').setCell ⟨b, 4, none⟩ v') :=
  Below.setCell (Below.setCell (Below.setCell (Below.setCell (Below.setCell h hN _) hN _) hN _) hN _) hN _

theorem sizedInfo : (Try.prog.info? 56).map (fun i => (i.zero, i.size, i.bytes)) = some (some (.agg #[.int .i64 0, .int .i64 0, .int .i64 0, .int .i64 0, .int .i64 0, .int .i64 0, .int .i64 0, .bool false]), 8, 64) := by kernel_rfl

def zeroSt : Fe.St := ⟨⟨0, 0, 0, 0, 0⟩, 0, 0, false⟩

theorem blk_made (w : World) (n : Nat) : Blk (w.alloc (.cells (madeCells #[.int .i64 0, .int .i64 0, .int .i64 0, .int .i64 0, .int .i64 0, .int .i64 0, .int .i64 0, .bool false] (n * 8)) 56)) w.heap.size n (fun _ => zeroSt) := by
  refine ⟨_, At.new _ _, size_madeCells _ _, fun i j hi hj => ?_⟩
  have e : (i * 8 + j) % 8 = j := by omega
  have hlt : i * 8 + j < n * 8 := by omega
  simp only [madeCells, Array.getElem?_map, Array.getElem?_range, hlt, if_true, Option.map_some, List.size_toArray, List.length_cons, List.length_nil, Nat.reduceAdd, Nat.zero_add, e]
  rcases (show j = 0 ∨ j = 1 ∨ j = 2 ∨ j = 3 ∨ j = 4 ∨ j = 5 ∨ j = 6 ∨ j = 7 by omega) with rfl | rfl | rfl | rfl | rfl | rfl | rfl | rfl <;> rfl

theorem sumz_bd (l : Nat → Fe.It) (k : Nat) : 0 ≤ Fe.sumz l k ∧ Fe.sumz l k ≤ 1048576 * k := by
  induction k with
  | zero => simp [Fe.sumz]
  | succ k ih =>
    have := Fe.clamp_bd (l k) (Fe.cnt (l k)).b
    simp only [Fe.sumz]
    constructor <;> omega

theorem wpListIn_make_struct {F : Fence} {m : Nat} {P : Program} (w : World) {ops : Array Oper} {rest : List Oper} {o : Oper} {a : Act} {Q : Exit → Act → World → Prop} (hro : F.round = none) (hw : Region.wanted o (yielded ops a.tmps) = true)
    (l c : Operand) (t : TypeId) (hop : o.op = Op.makeSlice t l c) {v : Value} {w' : World} (hrun : (Instr.makeSlice t (a.eval l) (a.eval c)).run P w = .ok v w') (hK : wpListIn F m P ops Q rest (a.put o.dst v) w') : wpListIn F m P ops Q (o :: rest) a w := by
  unfold wpListIn
  rw [if_pos hw]
  unfold Oper.wpIn
  refine ⟨fun f hf => ?_, ?_⟩
  · unfold Oper.about at hf
    simp [hop] at hf
  · rw [hro, Oper.semAt_none]
    unfold execOp
    simp only [hop, Sem.run_bind, hrun, Result.andThen_ok, Sem.run_pure]
    exact hK

end Go.Proofs.Ytefofdjkinbfgaa.Fix
