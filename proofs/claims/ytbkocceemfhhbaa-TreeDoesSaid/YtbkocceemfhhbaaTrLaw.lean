/- Trees of boxes: one text of several. -/
import Derived.Test.YtbkocceemfhhbaaTrCalls
import Derived.Test.YtbkocceemfhhbaaRecFrame
import Derived.Deep.Slices
/-! What the frame hands on of a slice of acts; an act, read. -/
namespace Go.Proofs.Ytbkocceemfhhbaa.Fix
open Go.ChangeShapes Go.WideShapes Go.ChangeAt Go.RowKit Go.Deep Go.Joins
set_option linter.unusedVariables false
set_option linter.unusedSimpArgs false
set_option maxRecDepth 100000

/-- an act: which one, its numbers, its style -/
structure Actn where
  k : Int
  a : Int
  b : Int
  c : Int
  s : Re.St
def acells (x : Actn) : Array Value := #[.int .i64 x.k, .int .i64 x.a, .int .i64 x.b, .int .i64 x.c] ++ cells x.s
structure AFits (x : Actn) : Prop where
  k : Wf x.k
  a : Wf x.a
  b : Wf x.b
  c : Wf x.c
  s : Fits x.s

theorem acells_size (x : Actn) : (acells x).size = 59 := by simp [acells, cells_size]
theorem acells_sty (x : Actn) {j : Nat} (h : j < 55) : (acells x)[4 + j]? = some (cell x.s j) := by
  unfold acells
  rw [Array.getElem?_append_right (by simp), show 4 + j - (#[Value.int .i64 x.k, .int .i64 x.a, .int .i64 x.b, .int .i64 x.c] : Array Value).size = j by simp, cells_get x.s h]
theorem acells_int (x : Actn) {j : Nat} (h : j < 4) : (acells x)[j]? = (#[Value.int .i64 x.k, .int .i64 x.a, .int .i64 x.b, .int .i64 x.c] : Array Value)[j]? := by
  unfold acells
  rw [Array.getElem?_append_left (by simpa using h)]

/-- an act stands somewhere in a block -/
def ActAt (W : World) (b o : Nat) (x : Actn) : Prop := ∀ j, j < 59 → W.cell? ⟨b, o + j, none⟩ = (acells x)[j]?

theorem load_act {W : World} {b o : Nat} {x : Actn} (h : ActAt W b o x) : (Instr.loadAt 45 (.pointer (some ⟨b, o, none⟩))).run Try.prog W = .ok (.agg (acells x)) W := by
  have hl := run_loadCells_list (P := Try.prog) W ⟨b, o, none⟩ (acells x).toList (fun j v hj => by
    have hj' : j < 59 := by have := (List.getElem?_eq_some_iff.1 hj).1; simpa [acells_size] using this
    rw [addr_add, h j hj']
    rw [Array.getElem?_toList] at hj
    exact hj)
  rw [Array.length_toList, acells_size] at hl
  have hi : (isAgg 45).run Try.prog W = .ok true W := by kernel_rfl
  have hz : (sizeOf 45).run Try.prog W = .ok 59 W := by kernel_rfl
  simp only [Instr.loadAt, Instr.sureAddr, Sem.run_bind, Sem.run_pure, Result.andThen_ok, loadVar, hi, hz, hl, if_true]
theorem wpList_load_act {ops : Array Oper} {rest : List Oper} {o : Oper} {a : Act} {w : World} {Q : Exit → Act → World → Prop} (hw : Region.wanted o (yielded ops a.tmps) = true) (y : Operand) (ho : o.op = .load 45 y) {b k : Nat} (hy : a.eval y = .pointer (some ⟨b, k, none⟩)) {x : Actn} (hs : ActAt w b k x)
    (h : wpList Try.prog ops Q rest (a.put o.dst (.agg (acells x))) w) : wpList Try.prog ops Q (o :: rest) a w :=
  wpList_value hw (by unfold execOp; simp only [ho, hy, Sem.run_bind, load_act hs, Result.andThen_ok, Sem.run_pure]) h

theorem actCells : Try.prog.cellsOf 45 = 59 := by kernel_rfl

/-- What the frame hands on of a slice of acts. -/
def ARow (w : World) (a : Option Addr) (len cap : Nat) : Prop :=
  (a = none ∧ len = 0 ∧ cap = 0) ∨ ∃ x, a = some x ∧ len ≤ cap ∧ cap ≤ maxLen ∧ ∃ l : Nat → Actn, ∀ i, i < len → AFits (l i) ∧ ∀ j, j < 59 → w.cell? (x.add (i * 59 + j)) = (acells (l i))[j]?

section
variable {H : Type} {enc : TypeId × Value → H} {w : World} {base : Nat} {spare : Nat → Bool} {held : Bool}

/-- An act, read. -/
theorem trod_act {n : Nat} {cs : List Value} {y : DataW H × List MemPlace} (h : DataW.trod enc Try.prog w base spare held n 45 cs = some y) : ∃ x : Actn, cs = (acells x).toList ∧ AFits x := by
  obtain ⟨xs, k, rfl, _, hl, hxl, hf⟩ := DataW.trod_struct Try.underlying45 h
  rw [actCells] at hl
  have ex : ∀ i, i < 5 → ∃ y, xs[i]? = some y := fun i hi => ⟨_, List.getElem?_eq_getElem (by rw [hxl]; exact hi)⟩
  obtain ⟨y0, q0⟩ := ex 0 (by decide)
  obtain ⟨y1, q1⟩ := ex 1 (by decide)
  obtain ⟨y2, q2⟩ := ex 2 (by decide)
  obtain ⟨y3, q3⟩ := ex 3 (by decide)
  obtain ⟨y4, q4⟩ := ex 4 (by decide)
  have g0 : DataW.trod enc Try.prog w base spare held k 3 ((cs.drop 0).take (Try.prog.cellsOf 3)) = some y0 := (hf 0 _ rfl).trans q0
  have g1 : DataW.trod enc Try.prog w base spare held k 3 ((cs.drop 1).take (Try.prog.cellsOf 3)) = some y1 := (hf 1 _ rfl).trans q1
  have g2 : DataW.trod enc Try.prog w base spare held k 3 ((cs.drop 2).take (Try.prog.cellsOf 3)) = some y2 := (hf 2 _ rfl).trans q2
  have g3 : DataW.trod enc Try.prog w base spare held k 3 ((cs.drop 3).take (Try.prog.cellsOf 3)) = some y3 := (hf 3 _ rfl).trans q3
  have g4 : DataW.trod enc Try.prog w base spare held k 43 ((cs.drop 4).take (Try.prog.cellsOf 43)) = some y4 := (hf 4 _ rfl).trans q4
  rw [rc_int] at g0 g1 g2 g3
  rw [rc_api_Style] at g4
  obtain ⟨a0, e0, _, w0⟩ := DataW.trod_int Try.underlying3 g0
  obtain ⟨a1, e1, _, w1⟩ := DataW.trod_int Try.underlying3 g1
  obtain ⟨a2, e2, _, w2⟩ := DataW.trod_int Try.underlying3 g2
  obtain ⟨a3, e3, _, w3⟩ := DataW.trod_int Try.underlying3 g3
  have g5 : DataW.Trod enc Try.prog w base spare held 43 (.agg ((cs.drop 4).take 55).toArray) y4.1 y4.2 := ⟨k, g4⟩
  obtain ⟨s, e4, ws⟩ := open_style g5
  injection e4 with e4
  have e4' : (cs.drop 4).take 55 = (cells s).toList := by rw [← e4]
  refine ⟨⟨a0, a1, a2, a3, s⟩, ?_, ⟨w0, w1, w2, w3, ws⟩⟩
  obtain ⟨v0, v1, v2, v3, r, rfl⟩ : ∃ v0 v1 v2 v3 r, cs = v0 :: v1 :: v2 :: v3 :: r := by
    clear e0 e1 e2 e3 e4 e4' g0 g1 g2 g3 g4 g5 hf h
    rcases cs with _ | ⟨v0, _ | ⟨v1, _ | ⟨v2, _ | ⟨v3, r⟩⟩⟩⟩ <;> first | exact ⟨_, _, _, _, _, rfl⟩ | exact absurd hl (by simp)
  simp at e0 e1 e2 e3 hl
  subst e0 e1 e2 e3
  have hr : (List.drop 4 (Value.int .i64 a0 :: .int .i64 a1 :: .int .i64 a2 :: .int .i64 a3 :: r)).take 55 = r := List.take_of_length_le (by simp; omega)
  rw [hr] at e4'
  simp [acells, e4']

theorem open_acts {n : Nat} {cs : List Value} {x : DataW H × List MemPlace} (h : DataW.trod enc Try.prog w base spare held n 22 cs = some x) :
    ∃ a len cap, cs = [.slice a len cap] ∧ ARow w a len cap := by
  rcases open_slice Try.underlying22 h with ⟨rfl, _⟩ | ⟨a, len, cap, m, k, D, Pl, rfl, hb, hl, hm, hmm, rfl, hx⟩
  · exact ⟨none, 0, 0, rfl, .inl ⟨rfl, rfl, rfl⟩⟩
  · refine ⟨some a, len, cap, rfl, .inr ⟨a, rfl, hl, hm, ?_⟩⟩
    have each : ∀ i, i < len → ∃ q : Actn, AFits q ∧ ∀ j, j < 59 → w.cell? (a.add (i * 59 + j)) = (acells q)[j]? := by
      intro i hi
      have him : i < m := by clear hx; rw [hmm]; split <;> omega
      have h12 := hx i him
      rw [actCells] at h12
      obtain ⟨cs', h1, h2⟩ := h12
      have hcell := (World.cells?_some h1).2.2
      obtain ⟨q, hcs, hq⟩ := trod_act h2
      refine ⟨q, hq, fun j hj => ?_⟩
      have := hcell j hj
      rw [hcs, Array.getElem?_toList] at this
      rw [← this, add_add]
    have : Inhabited Actn := ⟨⟨0, 0, 0, 0, Re.zero⟩⟩
    obtain ⟨q, hq⟩ := choose_lt each
    exact ⟨q, hq⟩
end

theorem ARow.cap {w : World} {a : Option Addr} {len cap : Nat} (h : ARow w a len cap) : len ≤ cap ∧ len ≤ 9223372036854775807 := by
  rcases h with ⟨_, rfl, rfl⟩ | ⟨_, _, h, h2, _⟩
  · omega
  · simp only [maxLen] at h2; omega

/-- the acts of a slice -/
def Acts (w : World) (a : Option Addr) (len : Nat) (l : Nat → Actn) : Prop := 0 < len → ∃ b off, a = some ⟨b, off, none⟩ ∧ b < w.heap.size ∧ ∀ k, k < len → AFits (l k) ∧ ActAt w b (off + k * 59) (l k)

theorem ARow.acts {w : World} {a : Option Addr} {len cap : Nat} (h : ARow w a len cap) : ∃ l, Acts w a len l := by
  rcases h with ⟨rfl, rfl, rfl⟩ | ⟨x, rfl, _, _, l, hc⟩
  · exact ⟨fun _ => ⟨0, 0, 0, 0, Re.zero⟩, fun h => absurd h (by omega)⟩
  · refine ⟨l, fun h0 => ?_⟩
    obtain ⟨b, off, spot⟩ := x
    have c0 := (hc 0 h0).2 0 (by omega)
    rw [acells_int _ (by omega)] at c0
    have hspot : spot = none := by
      have := World.cell?_spot c0
      simpa [Addr.add] using this
    subst hspot
    have hb := World.block_lt_of_cell? _ _ c0
    refine ⟨b, off, rfl, by unfold Addr.add at hb; simpa using hb, fun k hk => ⟨(hc k hk).1, fun j hj => ?_⟩⟩
    have e := (hc k hk).2 j hj
    simp only [addr_add, ← Nat.add_assoc] at e
    exact e

theorem Acts.after {W W' : World} {a : Option Addr} {n : Nat} {l : Nat → Actn} (h : Acts W a n l) (hb : Below W.heap.size W W') : Acts W' a n l := fun h0 => by
  obtain ⟨b, off, e, hl, hc⟩ := h h0
  have hsz := hb.size
  refine ⟨b, off, e, by omega, fun k hk => ⟨(hc k hk).1, fun j hj => ?_⟩⟩
  rw [← (hc k hk).2 j hj]
  exact hb.cell (p := ⟨b, off + k * 59 + j, none⟩) hl

/-- the styles of a tree fit -/
def FitsT (T : Tr.T) : Prop := ∀ z nd, T z = some nd → Fits nd.sty
theorem fits_zero : Fits Re.zero := fun i _ _ => (by kernel_rfl)

end Go.Proofs.Ytbkocceemfhhbaa.Fix

/-! An act, done by a tree: the contract of do. -/
namespace Go.Proofs.Ytbkocceemfhhbaa.Fix
open Go.ChangeShapes Go.WideShapes Go.ChangeAt Go.RowKit Go.Deep Go.Joins Go.Shelf
set_option linter.unusedVariables false
set_option linter.unusedSimpArgs false
set_option maxRecDepth 100000

/-! styles stay -/
def StyLe (T' T : Tr.T) : Prop := ∀ z nd, T' z = some nd → nd.sty = Re.zero ∨ ∃ q, T z = some q ∧ q.sty = nd.sty
theorem StyLe.refl (T : Tr.T) : StyLe T T := fun z nd h => .inr ⟨nd, h, rfl⟩
theorem StyLe.trans {T T' T'' : Tr.T} (h : StyLe T'' T') (k : StyLe T' T) : StyLe T'' T := fun z nd hz => by
  rcases h z nd hz with e | ⟨q, hq, e⟩
  · exact .inl e
  · rw [← e]; exact k z q hq
theorem StyLe.set {T : Tr.T} {x : Int} {p nd : Tr.Nd} (hx : T x = some p) (he : nd.sty = p.sty) : StyLe (Tr.set T x nd) T := fun z q hz => by
  by_cases e : z = x
  · subst e; rw [Tr.set_same] at hz; cases hz; exact .inr ⟨p, hx, he.symm⟩
  · rw [Tr.set_other _ _ e] at hz; exact .inr ⟨q, hz, rfl⟩
theorem StyLe.leave (T : Tr.T) (x : Int) : StyLe (Tr.leave T x) T := by
  unfold Tr.leave
  split
  · exact StyLe.refl _
  · split
    · exact StyLe.refl _
    · rename_i p hp; exact StyLe.set hp rfl
theorem StyLe.enter (T : Tr.T) (x u : Int) (i : Nat) : StyLe (Tr.enter T x u i) T := by
  unfold Tr.enter
  split
  · rename_i p nd hu hx
    have h1 : StyLe (Tr.set T u { p with kids := Tr.wi p.kids i x }) T := StyLe.set hu rfl
    intro z q hz
    by_cases e : z = x
    · subst e; rw [Tr.set_same] at hz; cases hz; exact .inr ⟨nd, hx, rfl⟩
    · rw [Tr.set_other _ _ e] at hz; exact h1 z q hz
  · exact StyLe.refl _
theorem StyLe.del (T : Tr.T) (l : List Int) : StyLe (Tr.del T l) T := fun z q hz => by
  unfold Tr.del at hz
  split at hz
  · cases hz
  · exact .inr ⟨q, hz, rfl⟩
theorem StyLe.addR (T : Tr.T) (u a : Int) : StyLe (Tr.addR T u a) T := by
  unfold Tr.addR
  split
  · unfold Tr.addT
    refine (StyLe.enter _ _ _ _).trans fun z q hz => ?_
    by_cases e : z = Tr.free T
    · subst e; rw [Tr.set_same] at hz; cases hz; exact .inl rfl
    · rw [Tr.set_other _ _ e] at hz; exact .inr ⟨q, hz, rfl⟩
  · exact StyLe.refl _
theorem StyLe.remR (T : Tr.T) (x : Int) : StyLe (Tr.remR T x) T := by
  unfold Tr.remR
  split
  · exact (StyLe.del _ _).trans (StyLe.leave _ _)
  · exact StyLe.refl _
theorem StyLe.movR (T : Tr.T) (x u a : Int) : StyLe (Tr.movR T x u a) T := by
  unfold Tr.movR
  split
  · exact (StyLe.enter _ _ _ _).trans (StyLe.leave _ _)
  · exact StyLe.refl _
theorem FitsT.le {T T' : Tr.T} (h : FitsT T) (k : StyLe T' T) : FitsT T' := fun z nd hz => by
  rcases k z nd hz with e | ⟨q, hq, e⟩
  · rw [e]; exact fits_zero
  · rw [← e]; exact h z q hq
theorem FitsT.setT {T : Tr.T} (h : FitsT T) (z : Int) {s : Re.St} (hs : Fits s) : FitsT (setT T z s) := by
  unfold Fix.setT
  split
  · unfold Tr.styT
    split
    · exact h
    · intro y nd hy
      by_cases e : y = z
      · subst e; rw [Tr.set_same] at hy; cases hy; exact hs
      · rw [Tr.set_other _ _ e] at hy; exact h y nd hy
  · exact h

theorem setT_alike (T : Tr.T) (z : Int) (s : Re.St) : Tr.Alike T (setT T z s) := by
  unfold Fix.setT
  split
  · exact Tr.alike_sty T z s
  · exact fun _ => rfl
theorem alike_sub {t s : Tr.T} (H : Tr.WF t) (h : Tr.Alike t s) {x : Int} {nd : Tr.Nd} (hx : t x = some nd) : Tr.sub s 64 x = Tr.sub t 64 x ∧ Tr.hgt s 64 x = Tr.hgt t 64 x :=
  ((H.fit64 hx).congr fun y _ nd hy => by obtain ⟨nd', h1, _, h2⟩ := h.some hy; exact ⟨nd', h1, h2⟩).2
theorem alike_ord {t s : Tr.T} (H : Tr.WF t) (h : Tr.Alike t s) : Tr.ord s = Tr.ord t := by
  obtain ⟨nd, h1, _⟩ := H.root
  exact (alike_sub H h h1).1
theorem Inv.set {W W' : World} {t n : Nat} {L : Lay} {T : Tr.T} (h : Inv W t L T n) {z : Int} {s : Re.St} (hr : Rep W' t L (setT T z s) n) : Inv W' t L (setT T z s) n :=
  ⟨hr, h.wf.alike (setT_alike T z s), by rw [alike_ord h.wf (setT_alike T z s)]; exact h.num⟩

/-- a tree that a law has made -/
structure Good (W : World) (t : Nat) (L : Lay) (T : Tr.T) (n n0 : Nat) : Prop where
  inv : Inv W t L T n
  own : ∀ b, owned t L T b → n0 ≤ b
  fit : FitsT T
theorem Good.step {W W' : World} {t n n' n0 : Nat} {L L' : Lay} {T T' : Tr.T} (h : Good W t L T n n0) (hi : Inv W' t L' T' n') (hg : Grow t L L' T T' W W') (hf : FitsT T') (h0 : n0 ≤ W.heap.size) : Good W' t L' T' n' n0 ∧ Below n0 W W' :=
  ⟨⟨hi, fun b hb => (hg.2 b hb).elim (h.own b) fun q => Nat.le_trans h0 q, hf⟩, hg.1.below h0 fun b hb q => absurd (h.own b q) (by omega)⟩
theorem Good.after {W W' : World} {t n n0 : Nat} {L : Lay} {T : Tr.T} (h : Good W t L T n n0) (hb : Below W.heap.size W W') : Good W' t L T n n0 := ⟨⟨h.inv.rep.after hb, h.inv.wf, h.inv.num⟩, h.own, h.fit⟩
theorem Inv.after {W W' : World} {t n : Nat} {L : Lay} {T : Tr.T} (h : Inv W t L T n) (hb : Below W.heap.size W W') : Inv W' t L T n := ⟨h.rep.after hb, h.wf, h.num⟩
theorem Good.new {W W' : World} {t : Nat} {L : Lay} (h : Inv W' t L T0 1) (hb : ∀ b, owned t L T0 b → W.heap.size ≤ b) : Good W' t L T0 1 W.heap.size := ⟨h, hb, fun z nd hz => by
  unfold T0 at hz
  split at hz
  · cases hz; exact fits_zero
  · cases hz⟩

/-- what an act does -/
noncomputable def doT (T : Tr.T) (x : Actn) : Tr.T := if x.k.tmod 5 = 2 then Tr.remR T x.a else if x.k.tmod 5 = 3 then Tr.movR T x.a x.b x.c else if x.k.tmod 5 = 4 then setT T x.a x.s else Tr.addR T x.a x.b

set_option maxHeartbeats 4000000 in
theorem do_any {w : World} {t n n0 : Nat} {L : Lay} {T : Tr.T} (h : Good w t L T n n0) (hn : n < 4096) (h0 : n0 ≤ w.heap.size) {x : Actn} (hx : AFits x) : Calls Try.prog 28 #[.pointer (some ⟨t, 0, none⟩), .agg (acells x)] w fun e w' => (∃ v, e = .returned v) ∧ ∃ L' n', Good w' t L' (doT T x) n' n0 ∧ n' ≤ n + 1 ∧ Below n0 w w' := by
  have hA : At (w.alloc (.cells (acells x) 45)) w.heap.size (.cells (acells x) 45) := At.new _ _
  have hB : Below w.heap.size w (w.alloc (.cells (acells x) 45)) := Below.alloc' (Below.refl _ _) _
  have h1 := h.after hB
  have hs : StyAt (w.alloc (.cells (acells x) 45)) w.heap.size 4 x.s := fun j hj => by rw [hA.cell, acells_sty x hj]
  have c0 : (w.alloc (.cells (acells x) 45)).cell? ⟨w.heap.size, 0, none⟩ = some (.int .i64 x.k) := by rw [hA.cell, acells_int x (by omega)]; rfl
  have c1 : (w.alloc (.cells (acells x) 45)).cell? ⟨w.heap.size, 1, none⟩ = some (.int .i64 x.a) := by rw [hA.cell, acells_int x (by omega)]; rfl
  have c2 : (w.alloc (.cells (acells x) 45)).cell? ⟨w.heap.size, 2, none⟩ = some (.int .i64 x.b) := by rw [hA.cell, acells_int x (by omega)]; rfl
  have c3 : (w.alloc (.cells (acells x) 45)).cell? ⟨w.heap.size, 3, none⟩ = some (.int .i64 x.c) := by rw [hA.cell, acells_int x (by omega)]; rfl
  have hB0 := hB.mono h0
  have hs1 : n0 ≤ (w.alloc (.cells (acells x) 45)).heap.size := by simp; omega
  have HS := Lib.hid hs
  clear h hB hA hs
  have kR := tremove_any h1.inv hx.a
  have kM := tmove_any h1.inv (a := x.c) hx.a hx.b
  have kA := tadd_any h1.inv hn (a := x.b) hx.a
  have kS := tset_any h1.inv.rep hx.a x.s
  have HG := Lib.hid h1
  have HX := Lib.hid hx
  clear h1 hx
  go_enter Try.func28, Try.ntmps28
  go_upto_region 1 with (fail)
  generalize w.alloc (.cells (acells x) 45) = w1 at *
  by_cases e2 : x.k.tmod 5 = 2
  · have hd : Hid (doT T x = Tr.remR T x.a) := Lib.hid (by unfold doT; rw [if_pos e2])
    go_wp2_with (go_at_call 30; (with_reducible refine kR.mono ?_); rintro e w' ⟨rfl, L', n', hi, hl, hg⟩)
    refine bodyPost_end (results_none rfl _ _ _) rfl ?_
    rw [hd.out]
    obtain ⟨g1, g2⟩ := HG.out.step hi hg (HG.out.fit.le (StyLe.remR _ _)) hs1
    exact ⟨⟨_, rfl⟩, L', n', g1, by omega, hB0.trans g2⟩
  by_cases e3 : x.k.tmod 5 = 3
  · have hd : Hid (doT T x = Tr.movR T x.a x.b x.c) := Lib.hid (by unfold doT; rw [if_neg e2, if_pos e3])
    go_wp2_with (go_at_call 31; (with_reducible refine kM.mono ?_); rintro e w' ⟨rfl, L', hi, hg⟩)
    refine bodyPost_end (results_none rfl _ _ _) rfl ?_
    rw [hd.out]
    obtain ⟨g1, g2⟩ := HG.out.step hi hg (HG.out.fit.le (StyLe.movR _ _ _ _)) hs1
    exact ⟨⟨_, rfl⟩, L', n, g1, by omega, hB0.trans g2⟩
  by_cases e4 : x.k.tmod 5 = 4
  · have hd : Hid (doT T x = setT T x.a x.s) := Lib.hid (by unfold doT; rw [if_neg e2, if_neg e3, if_pos e4])
    go_wp2_with (first | (refine wpList_load_sty (by rfl) _ rfl rfl HS.out ?_) | (go_at_call 33; (with_reducible refine kS.mono ?_); rintro e w' ⟨rfl, hi, hg⟩))
    refine bodyPost_end (results_none rfl _ _ _) rfl ?_
    rw [hd.out]
    obtain ⟨g1, g2⟩ := HG.out.step (HG.out.inv.set hi) hg (HG.out.fit.setT _ HX.out.s) hs1
    exact ⟨⟨_, rfl⟩, L, n, g1, by omega, hB0.trans g2⟩
  have hd : Hid (doT T x = Tr.addR T x.a x.b) := Lib.hid (by unfold doT; rw [if_neg e2, if_neg e3, if_neg e4])
  go_wp2_with (go_at_call 32; (with_reducible refine kA.mono ?_); rintro e w' ⟨rfl, L', n', hi, hl, hg⟩)
  refine bodyPost_end (results_none rfl _ _ _) rfl ?_
  rw [hd.out]
  obtain ⟨g1, g2⟩ := HG.out.step hi hg (HG.out.fit.le (StyLe.addR _ _ _)) hs1
  exact ⟨⟨_, rfl⟩, L', n', g1, hl, hB0.trans g2⟩

end Go.Proofs.Ytbkocceemfhhbaa.Fix

/-! The calls of a tree that a law has made; the document's example. -/
namespace Go.Proofs.Ytbkocceemfhhbaa.Fix
open Go.ChangeShapes Go.WideShapes Go.ChangeAt Go.RowKit Go.Deep Go.Joins Go.Shelf
set_option linter.unusedVariables false
set_option linter.unusedSimpArgs false
set_option maxRecDepth 100000

section
variable {w : World} {t n n0 : Nat} {L : Lay} {T : Tr.T}
theorem gadd_any (h : Good w t L T n n0) (hn : n < 4096) (h0 : n0 ≤ w.heap.size) {u a : Int} (hu : Wf u) : Calls Try.prog 32 #[.pointer (some ⟨t, 0, none⟩), .int .i64 u, .int .i64 a] w fun e w' => e = .returned (.tuple #[.int .i64 (Tr.addI T u a), .int .i64 (Tr.addE T u a)]) ∧ ∃ L' n', Good w' t L' (Tr.addR T u a) n' n0 ∧ n' ≤ n + 1 ∧ Grow t L L' T (Tr.addR T u a) w w' ∧ Below n0 w w' := by
  refine (tadd_any h.inv hn hu).mono ?_
  rintro e w' ⟨rfl, L', n', hi, hl, hg⟩
  obtain ⟨g1, g2⟩ := h.step hi hg (h.fit.le (StyLe.addR _ _ _)) h0
  exact ⟨rfl, L', n', g1, hl, hg, g2⟩
theorem gmove_any (h : Good w t L T n n0) (h0 : n0 ≤ w.heap.size) {x u a : Int} (hx : Wf x) (hu : Wf u) : Calls Try.prog 31 #[.pointer (some ⟨t, 0, none⟩), .int .i64 x, .int .i64 u, .int .i64 a] w fun e w' => e = .returned (.int .i64 (Tr.movE T x u a)) ∧ ∃ L', Good w' t L' (Tr.movR T x u a) n n0 ∧ Grow t L L' T (Tr.movR T x u a) w w' ∧ Below n0 w w' := by
  refine (tmove_any h.inv hx hu).mono ?_
  rintro e w' ⟨rfl, L', hi, hg⟩
  obtain ⟨g1, g2⟩ := h.step hi hg (h.fit.le (StyLe.movR _ _ _ _)) h0
  exact ⟨rfl, L', g1, hg, g2⟩
theorem gremove_any (h : Good w t L T n n0) (h0 : n0 ≤ w.heap.size) {x : Int} (hx : Wf x) : Calls Try.prog 30 #[.pointer (some ⟨t, 0, none⟩), .int .i64 x] w fun e w' => e = .returned (.tuple #[.int .i64 (Tr.remI T x), .int .i64 (Tr.remE T x)]) ∧ ∃ L' n', Good w' t L' (Tr.remR T x) n' n0 ∧ n' ≤ n ∧ Grow t L L' T (Tr.remR T x) w w' ∧ Below n0 w w' := by
  refine (tremove_any h.inv hx).mono ?_
  rintro e w' ⟨rfl, L', n', hi, hl, hg⟩
  obtain ⟨g1, g2⟩ := h.step hi hg (h.fit.le (StyLe.remR _ _)) h0
  exact ⟨rfl, L', n', g1, hl, hg, g2⟩
theorem gset_any (h : Good w t L T n n0) (h0 : n0 ≤ w.heap.size) {x : Int} (hx : Wf x) {s : Re.St} (hs : Fits s) : Calls Try.prog 33 #[.pointer (some ⟨t, 0, none⟩), .int .i64 x, .agg (cells s)] w fun e w' => e = .returned (.int .i64 (setE T x s)) ∧ Good w' t L (setT T x s) n n0 ∧ Grow t L L T (setT T x s) w w' ∧ Below n0 w w' := by
  refine (tset_any h.inv.rep hx s).mono ?_
  rintro e w' ⟨rfl, hr, hg⟩
  obtain ⟨g1, g2⟩ := h.step (h.inv.set hr) hg (h.fit.setT _ hs) h0
  exact ⟨rfl, g1, hg, g2⟩
theorem gnew_any (w : World) : Calls Try.prog 11 #[] w fun e w' => (∃ t, e = .returned (.pointer (some ⟨t, 0, none⟩)) ∧ ∃ L, Good w' t L T0 1 w.heap.size) ∧ Below w.heap.size w w' := by
  refine (tnew_any w).mono ?_
  rintro e w' ⟨⟨t, rfl, L, hr, ho⟩, hb⟩
  refine ⟨⟨t, rfl, L, Good.new ⟨hr, ?_, ?_⟩ ho⟩, hb⟩
  · have hT : T0 0 = some ⟨-1, [], Re.zero⟩ := rfl
    have hz : ∀ x nd, T0 x = some nd → x = 0 ∧ nd = ⟨-1, [], Re.zero⟩ := fun x nd h => by
      unfold T0 at h
      split at h
      · cases h; exact ⟨by assumption, rfl⟩
      · cases h
    refine ⟨⟨_, hT, rfl⟩, fun x nd h => ?_, fun x nd h h0 => absurd (hz x nd h).1 h0, fun u p x h hx => ?_, fun u p h => ?_, fun x nd h => ?_⟩
    · rw [(hz x nd h).1]; omega
    · rw [(hz u p h).2] at hx; cases hx
    · rw [(hz u p h).2]; exact List.nodup_nil
    · rw [(hz x nd h).1]; exact ⟨0, by omega, .root hT⟩
  · decide +kernel
/-- all boxes, in their order -/
theorem gorder_any (h : Good w t L T n n0) : Calls Try.prog 26 #[.pointer (some ⟨t, 0, none⟩)] w fun e w' => (∃ v, e = .returned v ∧ Kept w' t L T v (Tr.ord T)) ∧ Below w.heap.size w w' := by
  refine (torder_any h.inv.rep h.inv.wf.fit0 (by have := h.inv.wf.ord_small; omega)).mono ?_
  rintro e w' ⟨⟨v, rfl, ho⟩, hb⟩
  exact ⟨⟨v, rfl, Kept.new h.inv.rep ho (Nat.le_refl _)⟩, hb⟩
/-- which boxes are in one -/
def kidsOf (T : Tr.T) (z : Int) : List Int := (T z).elim [] (·.kids)
def styOf (T : Tr.T) (z : Int) : Re.St := (T z).elim Re.zero (·.sty)
theorem gkids_any (h : Good w t L T n n0) {z : Int} (hz : Wf z) : Calls Try.prog 23 #[.pointer (some ⟨t, 0, none⟩), .int .i64 z] w fun e w' => (∃ v, e = .returned v ∧ Kept w' t L T v (kidsOf T z)) ∧ Below w.heap.size w w' := by
  refine (tkids_any h.inv.rep hz).mono ?_
  rintro e w' ⟨⟨v, rfl, ho⟩, hb⟩
  exact ⟨⟨v, rfl, Kept.new h.inv.rep ho (Nat.le_refl _)⟩, hb⟩
theorem gdepth_any (h : Good w t L T n n0) {z : Int} (hz : Wf z) : Calls Try.prog 18 #[.pointer (some ⟨t, 0, none⟩), .int .i64 z] w fun e w' => e = .returned (.int .i64 (Tr.dep T z)) ∧ w' = w := by
  cases hT : T z with
  | none => rw [Tr.dep_none hT]; exact tdepth_none h.inv.rep hz hT
  | some nd =>
    obtain ⟨d, h1, h2, h3⟩ := h.inv.wf.dep_some hT
    rw [h3]
    exact tdepth_some h.inv.rep (fun _ q => h.inv.wf.root_up q) h2 (by omega)
theorem dep_wf {T : Tr.T} (H : Tr.WF T) (z : Int) : -1 ≤ Tr.dep T z ∧ Tr.dep T z ≤ 63 := by
  cases hT : T z with
  | none => rw [Tr.dep_none hT]; omega
  | some nd => obtain ⟨d, h1, h2, h3⟩ := H.dep_some hT; omega
theorem up_wf {T : Tr.T} (H : Tr.WF T) (z : Int) : -1 ≤ upOf T z ∧ upOf T z < 4096 := by
  unfold upOf
  cases hT : T z with
  | none => simp
  | some nd =>
    simp only
    by_cases h0 : z = 0
    · rw [h0] at hT; rw [H.root_up hT]; omega
    · obtain ⟨p, hp, _⟩ := H.up z nd hT h0
      have := H.range _ _ hp
      omega
theorem style_wf {T : Tr.T} (h : FitsT T) (z : Int) : Fits (styOf T z) := by
  unfold styOf
  cases hT : T z with
  | none => exact fits_zero
  | some nd => exact h z nd hT
end

end Go.Proofs.Ytbkocceemfhhbaa.Fix

/-! The document's example of trees. -/
namespace Go.Proofs.Ytbkocceemfhhbaa.Fix
open Go.ChangeShapes Go.WideShapes Go.ChangeAt Go.RowKit Go.Deep Go.Joins Go.Shelf
set_option linter.unusedVariables false
set_option linter.unusedSimpArgs false
set_option maxRecDepth 100000

def sGap : Re.St := ⟨fun i => if i = 46 then 3 else 0, fun _ => false⟩
def A1 : Tr.T := Tr.addT T0 1 0 0
def A2 : Tr.T := Tr.addT A1 2 0 1
def A3 : Tr.T := Tr.movT A2 1 2 0
def A4 : Tr.T := Tr.styT A3 1 sGap

theorem isSome_ne {t : Tr.T} {z : Int} (h : (t z).isSome = true) : t z ≠ none := fun e => by rw [e] at h; cases h
theorem isSome_none {t : Tr.T} {z : Int} (h : (t z).isSome = false) : t z = none := by cases e : t z with
  | none => rfl
  | some _ => rw [e] at h; cases h
theorem ex_f1 : Tr.free T0 = 1 := Tr.free_eq ⟨by decide, isSome_none (by decide +kernel), fun y h0 h1 => by
  obtain rfl : y = 0 := by omega
  exact isSome_ne (by decide +kernel)⟩
theorem ex_e1 : Tr.addE T0 0 0 = 0 := by decide +kernel
theorem ex_i1 : Tr.addI T0 0 0 = 1 := by unfold Tr.addI; rw [ex_e1, if_pos rfl, ex_f1]
theorem ex_t1 : Tr.addR T0 0 0 = A1 := by unfold Tr.addR; rw [ex_e1, if_pos rfl, ex_f1]; rfl
theorem ex_e2 : Tr.addE A1 0 1 = 0 := by decide +kernel
theorem ex_f2 : Tr.free A1 = 2 := Tr.free_eq ⟨by decide, isSome_none (by decide +kernel), fun y h0 h1 => by
  obtain rfl | rfl : y = 0 ∨ y = 1 := by omega
  · exact isSome_ne (by decide +kernel)
  · exact isSome_ne (by decide +kernel)⟩
theorem ex_i2 : Tr.addI A1 0 1 = 2 := by unfold Tr.addI; rw [ex_e2, if_pos rfl, ex_f2]
theorem ex_t2 : Tr.addR A1 0 1 = A2 := by unfold Tr.addR; rw [ex_e2, if_pos rfl, ex_f2]; rfl
theorem ex_e3 : Tr.movE A2 1 2 0 = 0 := by decide +kernel
theorem ex_t3 : Tr.movR A2 1 2 0 = A3 := by unfold Tr.movR; rw [ex_e3, if_pos rfl]; rfl
theorem ex_e4 : Tr.movE A3 2 1 0 = 3 := by decide +kernel
theorem ex_t4 : Tr.movR A3 2 1 0 = A3 := by unfold Tr.movR; rw [ex_e4, if_neg (by decide)]
theorem ex_e5 : setE A3 1 sGap = 0 := by decide +kernel
theorem ex_t5 : setT A3 1 sGap = A4 := by unfold setT; rw [ex_e5, if_pos rfl]; rfl
theorem ex_o : Tr.ord A4 = [0, 2, 1] := by decide +kernel
theorem ex_d : Tr.dep A4 1 = 2 := by decide +kernel
theorem ex_u : upOf A4 1 = 2 := by decide +kernel
theorem ex_s : styOf A4 1 = sGap := by rfl
theorem ex_h : (A4 2).isSome = true := by decide +kernel
theorem ex_k : kidsOf A4 2 = [1] := by decide +kernel
theorem ex_fit : Fits sGap := fun i _ _ => by
  show (Lit.int .i64 (if i = 46 then 3 else 0)).wf = true
  split <;> decide +kernel
theorem build_gap (W : World) : (Instr.build 43 #[(19, .int .i64 3)]).run Try.prog W = .ok (.agg (cells sGap)) W := by kernel_rfl

section
variable {w : World} {t n n0 : Nat} {L : Lay}
theorem w_add1 (h : Good w t L T0 n n0) (hn : n < 4096) (h0 : n0 ≤ w.heap.size) : Calls Try.prog 32 #[.pointer (some ⟨t, 0, none⟩), .int .i64 0, .int .i64 0] w fun e w' => e = .returned (.tuple #[.int .i64 1, .int .i64 0]) ∧ ∃ L' n', Good w' t L' A1 n' n0 ∧ n' ≤ n + 1 ∧ Below n0 w w' := by
  have := gadd_any h hn h0 (u := 0) (a := 0) ((wf_iff _).2 (by omega))
  rw [ex_i1, ex_e1, ex_t1] at this
  exact this.mono fun e w' ⟨h1, L', n', h2, h3, _, h4⟩ => ⟨h1, L', n', h2, h3, h4⟩
theorem w_add2 (h : Good w t L A1 n n0) (hn : n < 4096) (h0 : n0 ≤ w.heap.size) : Calls Try.prog 32 #[.pointer (some ⟨t, 0, none⟩), .int .i64 0, .int .i64 1] w fun e w' => e = .returned (.tuple #[.int .i64 2, .int .i64 0]) ∧ ∃ L' n', Good w' t L' A2 n' n0 ∧ n' ≤ n + 1 ∧ Below n0 w w' := by
  have := gadd_any h hn h0 (u := 0) (a := 1) ((wf_iff _).2 (by omega))
  rw [ex_i2, ex_e2, ex_t2] at this
  exact this.mono fun e w' ⟨h1, L', n', h2, h3, _, h4⟩ => ⟨h1, L', n', h2, h3, h4⟩
theorem w_mov1 (h : Good w t L A2 n n0) (h0 : n0 ≤ w.heap.size) : Calls Try.prog 31 #[.pointer (some ⟨t, 0, none⟩), .int .i64 1, .int .i64 2, .int .i64 0] w fun e w' => e = .returned (.int .i64 0) ∧ ∃ L', Good w' t L' A3 n n0 ∧ Below n0 w w' := by
  have := gmove_any h h0 (x := 1) (u := 2) (a := 0) ((wf_iff _).2 (by omega)) ((wf_iff _).2 (by omega))
  rw [ex_e3, ex_t3] at this
  exact this.mono fun e w' ⟨h1, L', h2, _, h4⟩ => ⟨h1, L', h2, h4⟩
theorem w_mov2 (h : Good w t L A3 n n0) (h0 : n0 ≤ w.heap.size) : Calls Try.prog 31 #[.pointer (some ⟨t, 0, none⟩), .int .i64 2, .int .i64 1, .int .i64 0] w fun e w' => e = .returned (.int .i64 3) ∧ ∃ L', Good w' t L' A3 n n0 ∧ Below n0 w w' := by
  have := gmove_any h h0 (x := 2) (u := 1) (a := 0) ((wf_iff _).2 (by omega)) ((wf_iff _).2 (by omega))
  rw [ex_e4, ex_t4] at this
  exact this.mono fun e w' ⟨h1, L', h2, _, h4⟩ => ⟨h1, L', h2, h4⟩
theorem w_set (h : Good w t L A3 n n0) (h0 : n0 ≤ w.heap.size) : Calls Try.prog 33 #[.pointer (some ⟨t, 0, none⟩), .int .i64 1, .agg (cells sGap)] w fun e w' => e = .returned (.int .i64 0) ∧ ∃ L', Good w' t L' A4 n n0 ∧ Below n0 w w' := by
  have := gset_any h h0 (x := 1) ((wf_iff _).2 (by omega)) ex_fit
  rw [ex_e5, ex_t5] at this
  exact this.mono fun e w' ⟨h1, h2, _, h4⟩ => ⟨h1, L, h2, h4⟩
theorem w_order (h : Good w t L A4 n n0) : Calls Try.prog 26 #[.pointer (some ⟨t, 0, none⟩)] w fun e w' => (∃ b o c, e = .returned (.slice (some ⟨b, o, none⟩) 3 c) ∧ b < w'.heap.size ∧ w'.cell? ⟨b, o + 1, none⟩ = some (.int .i64 2)) ∧ Below w.heap.size w w' := by
  have := gorder_any h
  rw [ex_o] at this
  refine this.mono ?_
  rintro e w' ⟨⟨v, rfl, hk⟩, hb⟩
  obtain ⟨A, c, rfl, hI, _⟩ := hk.row.ints
  obtain ⟨b, o, rfl, lb, hc⟩ := hI.at_ (k := 1) (by simp)
  exact ⟨⟨b, o, c, rfl, lb, hc⟩, hb⟩
theorem w_kids (h : Good w t L A4 n n0) : Calls Try.prog 23 #[.pointer (some ⟨t, 0, none⟩), .int .i64 2] w fun e w' => (∃ A c, e = .returned (.slice A 1 c)) ∧ Below w.heap.size w w' := by
  have := gkids_any h (z := 2) ((wf_iff _).2 (by omega))
  rw [ex_k] at this
  refine this.mono ?_
  rintro e w' ⟨⟨v, rfl, hk⟩, hb⟩
  obtain ⟨A, c, rfl, _⟩ := hk.row.ints
  exact ⟨⟨A, c, rfl⟩, hb⟩
theorem w_depth (h : Good w t L A4 n n0) : Calls Try.prog 18 #[.pointer (some ⟨t, 0, none⟩), .int .i64 1] w fun e w' => e = .returned (.int .i64 2) ∧ w' = w := by
  have := gdepth_any h (z := 1) ((wf_iff _).2 (by omega))
  rwa [ex_d] at this
theorem w_up (h : Good w t L A4 n n0) : Calls Try.prog 16 #[.pointer (some ⟨t, 0, none⟩), .int .i64 1] w fun e w' => e = .returned (.int .i64 2) ∧ w = w' := by
  have := tup_any h.inv.rep (z := 1) ((wf_iff _).2 (by omega))
  rwa [ex_u] at this
theorem w_style (h : Good w t L A4 n n0) : Calls Try.prog 20 #[.pointer (some ⟨t, 0, none⟩), .int .i64 1] w fun e w' => e = .returned (.agg (cells sGap)) ∧ Below w.heap.size w w' := tstyle_any h.inv.rep (z := 1) ((wf_iff _).2 (by omega))
theorem w_len (h : Good w t L A4 n n0) : Calls Try.prog 27 #[.pointer (some ⟨t, 0, none⟩)] w fun e w' => e = .returned (.int .i64 3) ∧ w = w' := by
  have := tlen_any h.inv.rep
  have hn : n = 3 := by have := h.inv.num; rw [ex_o] at this; exact this.symm
  subst hn
  exact this
theorem w_has (h : Inv w t L A4 n) : Calls Try.prog 14 #[.pointer (some ⟨t, 0, none⟩), .int .i64 2] w fun e w' => e = .returned (.bool true) ∧ w = w' := by
  have := thas_any h.rep (z := 2) ((wf_iff _).2 (by omega))
  rwa [ex_h] at this
end
theorem wpList_gap {ops : Array Oper} {rest : List Oper} {o : Oper} {a : Act} {w : World} {Q : Exit → Act → World → Prop} (hw : Region.wanted o (yielded ops a.tmps) = true) (x : Operand) (ho : o.op = .field 43 x 19) {s : Re.St} (hx : a.eval x = .agg (cells s))
    (h : wpList Try.prog ops Q rest (a.put o.dst (.int .i64 (s.c 46))) w) : wpList Try.prog ops Q (o :: rest) a w := by
  have hr : (Instr.field 43 (.agg (cells s)) 19).run Try.prog w = .ok (.int .i64 (s.c 46)) w := by kernel_rfl
  exact wpList_value hw (by unfold execOp; simp only [ho, hx, Sem.run_bind, hr, Result.andThen_ok, Sem.run_pure]) h

set_option maxHeartbeats 8000000 in
theorem trworks_any (w : World) : Calls Try.prog 10 #[] w fun e w' => e = .returned (.bool true) ∧ Below w.heap.size w w' := by
  go_enter Try.func10, Try.ntmps10
  go_upto_region 10 with (first | (go_at_call 11; (with_reducible refine (gnew_any w).mono ?_); rintro e w1 ⟨⟨t, rfl, L0, g0⟩, hb0⟩; have hs0 := hb0.size; have G0 := Lib.hid g0; clear g0) | (go_at_call 32; (with_reducible refine (w_add2 G1.out hn1 hs1).mono ?_); rintro e w3 ⟨rfl, L2, n2, g2, hl2, hb2⟩; have G2 := Lib.hid g2; have hs2 := Nat.le_trans hs1 hb2.size; clear g2) | (go_at_call 32; (with_reducible refine (w_add1 G0.out (by omega) hs0).mono ?_); rintro e w2 ⟨rfl, L1, n1, g1, hl1, hb1⟩; have G1 := Lib.hid g1; have hs1 := Nat.le_trans hs0 hb1.size; have hn1 : n1 < 4096 := (by omega); clear g1) | (go_at_call 31; (with_reducible refine (w_mov2 G3.out hs3).mono ?_); rintro e w5 ⟨rfl, L4, g4, hb4⟩; have G4 := Lib.hid g4; have hs4 := Nat.le_trans hs3 hb4.size; clear g4) | (go_at_call 31; (with_reducible refine (w_mov1 G2.out hs2).mono ?_); rintro e w4 ⟨rfl, L3, g3, hb3⟩; have G3 := Lib.hid g3; have hs3 := Nat.le_trans hs2 hb3.size; clear g3) | (refine wpList_build (by rfl) 43 _ rfl #[(19, .int .i64 3)] (by simp only [List.map_toArray, List.map_cons, List.map_nil]; rfl) (build_gap _) ?_) | (go_at_call 33; (with_reducible refine (w_set G4.out hs4).mono ?_); rintro e w6 ⟨rfl, L5, g5, hb5⟩; have G5 := Lib.hid g5; have hs5 := Nat.le_trans hs4 hb5.size; clear g5) | (go_at_call 26; (with_reducible refine (w_order G5.out).mono ?_); rintro e w7 ⟨⟨b7, o7, c7, rfl, lb7, hc7⟩, hb6⟩))
  have G6 := Lib.hid (G5.out.after hb6)
  have hs6 := Nat.le_trans hs5 hb6.size
  have HB := Lib.hid (hb0.trans (hb1.trans (hb2.trans (hb3.trans (hb4.trans (hb5.trans (hb6.mono hs5)))))))
  clear hb0 hb1 hb2 hb3 hb4 hb5 hb6 G0 G1 G2 G3 G4 G5 hs0 hs1 hs2 hs3 hs4 hs5
  go_upto_region 11 with (go_at_call 29; (with_reducible refine (tclone_any G6.out.inv).mono ?_); rintro e w8 ⟨⟨t2, rfl, L7, i7, o7'⟩, hb7⟩)
  have G7 := Lib.hid (G6.out.after hb7)
  have I7 := Lib.hid i7
  have hc8 := (hb7.cell (p := ⟨b7, o7 + 1, none⟩) lb7).trans hc7
  have lb8 := Nat.lt_of_lt_of_le lb7 hb7.size
  have HB7 := Lib.hid (HB.out.trans (hb7.mono hs6))
  clear i7 o7' hb7 hc7 HB G6 lb7 hs6
  go_wp2_with (first | (go_at_call 18; (with_reducible refine (w_depth G7.out).mono ?_); rintro e w' ⟨rfl, rfl⟩) | (go_at_call 16; (with_reducible refine (w_up G7.out).mono ?_); rintro e w' ⟨rfl, rfl⟩) | (go_at_call 20; (with_reducible refine (w_style G7.out).mono ?_); rintro e w9 ⟨rfl, hb8⟩; have G8 := Lib.hid (G7.out.after hb8); have I8 := Lib.hid (I7.out.after hb8)) | (refine wpList_gap (by rfl) _ rfl rfl ?_) | (go_at_call 27; (with_reducible refine (w_len G8.out).mono ?_); rintro e w' ⟨rfl, rfl⟩) | (go_at_call 14; (with_reducible refine (w_has I8.out).mono ?_); rintro e w' ⟨rfl, rfl⟩) | (go_at_call 23; (with_reducible refine (w_kids G8.out).mono ?_); rintro e w10 ⟨⟨A9, c9, rfl⟩, hb9⟩))
  go_ret
  exact ⟨rfl, HB7.out.trans ((hb8.trans (hb9.mono hb8.size)).mono HB7.out.size)⟩

end Go.Proofs.Ytbkocceemfhhbaa.Fix

/-! Moved, and moved back; nothing of a program. -/
namespace Go.Proofs.Ytbkocceemfhhbaa.Fix
set_option linter.unusedVariables false
set_option linter.unusedSectionVars false

section
variable {T : Tr.T} (H : Tr.WF T) {x u : Int} {nd p : Tr.Nd} (hx : T x = some nd) (h0 : x ≠ 0) (hu : T u = some p) (hun : u ∉ Tr.sub T 64 x)
include H hx h0 hu hun

theorem mov_dp (i : Nat) {y : Int} {m : Nat} (h : Tr.Dp T y m) : y ∉ Tr.sub T 64 x → Tr.Dp (Tr.movT T x u i) y m := by
  have A := fun y => H.mov_at hx h0 hu hun i y
  induction h with
  | root h =>
    intro _
    have e := A 0
    rw [h] at e
    exact .root e
  | @step z zd n h hz _ ih =>
    intro hn
    have hzx : z ≠ x := fun e => hn (H.is_in hx h0 e)
    have e := A z
    rw [h] at e
    simp only [Option.map_some, if_neg hzx] at e
    exact .step e hz (ih (H.out_up hx h hn hz))
end

theorem kids_up {T : Tr.T} (H : Tr.WF T) {x : Int} {nd : Tr.Nd} (hx : T x = some nd) (h0 : x ≠ 0) : x ∈ kidsOf T (upOf T x) := by
  obtain ⟨q, hq, hm⟩ := H.up x nd hx h0
  have e : upOf T x = nd.up := by unfold upOf; rw [hx]
  rw [e]; unfold kidsOf; rw [hq]; exact hm

/-- what holds of a box that was moved -/
structure Moved (T T' : Tr.T) (x u a f : Int) (pl : Nat) : Prop where
  up : upOf T' x = u
  at_ : ∃ n : Nat, a = n ∧ n < (kidsOf T' u).length ∧ (kidsOf T' u).getD n 0 = x
  ok : Tr.movE T' x f pl = 0
  back : Tr.movR T' x f pl = T
theorem moved {T : Tr.T} (H : Tr.WF T) {x u a : Int} (h : Tr.movE T x u a = 0) {pl : Nat} (hpl : (kidsOf T (upOf T x))[pl]? = some x) : Moved T (Tr.movR T x u a) x u a (upOf T x) pl := by
  have hR : Tr.movR T x u a = Tr.movT T x u a.toNat := by unfold Tr.movR; rw [h, if_pos rfl]
  have W := (H.movR x u a).1
  obtain ⟨nd, p, hx, hu, h0, hun, ha, hal, hd⟩ := Tr.movE_zero h
  rw [hR] at W ⊢
  have A := fun y => H.mov_at hx h0 hu hun a.toNat y
  obtain ⟨q, hq, hqm⟩ := H.up x nd hx h0
  have eup : upOf T x = nd.up := by unfold upOf; rw [hx]
  rw [eup] at hpl ⊢
  have ekq : kidsOf T nd.up = q.kids := by unfold kidsOf; rw [hq]; rfl
  rw [ekq] at hpl
  have hxu : x ≠ u := fun e => hun (H.is_in hx h0 e.symm)
  have hxn : x ≠ nd.up := fun e => H.up_out hx h0 (H.is_in hx h0 e.symm)
  have hku : (if u = nd.up then Tr.wo p.kids x else p.kids) = Tr.wo p.kids x := by
    by_cases e : u = nd.up
    · rw [if_pos e]
    · rw [if_neg e, Tr.wo_not (fun hm => e (H.x_kid hx h0 hu hm))]
  have Au : Tr.movT T x u a.toNat u = some { p with kids := Tr.wi (Tr.wo p.kids x) a.toNat x } := by
    rw [A, hu]
    simp only [Option.map_some, if_neg (Ne.symm hxu), if_true, hku]
  have Ax : Tr.movT T x u a.toNat x = some { nd with up := u } := by
    rw [A, hx]
    simp only [Option.map_some, if_true, if_neg hxu, if_neg hxn]
  have hlen := Tr.length_wi (Tr.wo p.kids x) a.toNat x
  have hn1 : nd.up ∉ Tr.sub (Tr.movT T x u a.toNat) 64 x := by rw [(H.mov_sub hx h0 hu hun a.toNat).1]; exact H.up_out hx h0
  have hpll : pl < q.kids.length := (List.getElem?_eq_some_iff.1 hpl).1
  have hwq := Tr.length_wo (H.nodup _ _ hq) hqm
  have hz : Tr.movE (Tr.movT T x u a.toNat) x nd.up pl = 0 := by
    obtain ⟨d, hd1, hd2, hd3⟩ := H.dep_some hq
    have hdx : Tr.Dp T x (d + 1) := .step hx h0 hd2
    obtain ⟨z, hz1, hz2⟩ := H.hgt_mem (H.fit64 hx) hdx
    have hb := H.dp63 hz2
    have hdp := mov_dp H hx h0 hu hun a.toNat hd2 (H.up_out hx h0)
    have hde := W.dep_of hdp
    obtain ⟨p', hp'⟩ := hdp.live
    have hkp : Tr.wo p'.kids x = Tr.wo q.kids x := by
      have e := A nd.up
      rw [hq, hp'] at e
      simp only [Option.map_some, if_true, if_neg (Ne.symm hxn)] at e
      injection e with e
      rw [e]
      simp only
      have hno : x ∉ Tr.wo q.kids x := fun hm => (Tr.mem_wo.1 hm).2 rfl
      by_cases e2 : nd.up = u
      · rw [if_pos e2, Tr.wo_wi hno]
      · rw [if_neg e2, Tr.wo_not hno]
    unfold Tr.movE
    rw [Ax, hp']
    simp only
    rw [if_neg h0, if_neg hn1, hkp, if_neg (by omega), hde, (H.mov_sub hx h0 hu hun a.toNat).2, if_neg (by omega)]
  refine ⟨by unfold upOf; rw [Ax], ?_, hz, ?_⟩
  · have ek : kidsOf (Tr.movT T x u a.toNat) u = Tr.wi (Tr.wo p.kids x) a.toNat x := by unfold kidsOf; rw [Au]; rfl
    refine ⟨a.toNat, by omega, by rw [ek, hlen]; omega, ?_⟩
    rw [ek]
    have hl : ((Tr.wo p.kids x).take a.toNat).length = a.toNat := by rw [List.length_take]; omega
    unfold Tr.wi
    rw [List.getD, List.getElem?_append_right (by omega), hl]
    simp
  · unfold Tr.movR
    rw [hz, if_pos rfl]
    have e := H.mov_back hx h0 hu hun hq hpl W
    rwa [show ((pl : Int).toNat) = pl by omega]

end Go.Proofs.Ytbkocceemfhhbaa.Fix
