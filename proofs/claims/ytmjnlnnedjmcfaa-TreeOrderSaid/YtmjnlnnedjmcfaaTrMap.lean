/- A map from numbers to blocks (pointers to them), as a function. -/
import Derived.Test.YtmjnlnnedjmcfaaRecSt
import Derived.Maps.OwnSet
import Derived.Maps.RangeWalk
namespace Go.Proofs.Ytmjnlnnedjmcfaa.Fix
open Go.ChangeShapes Go.WideShapes Go.ChangeAt Go.RowKit
set_option linter.unusedVariables false
set_option maxRecDepth 100000

def ptr : Option Nat → Value
  | none => .pointer none
  | some b => .pointer (some ⟨b, 0, none⟩)
def ptD : Option Nat → DataW Nat
  | none => .nil
  | some b => .held b
/-- how a pointer reads -/
def ptR : Value → Option (DataW Nat × List MemPlace)
  | .pointer none => some (.nil, [])
  | .pointer (some a) => if a = ⟨a.block, 0, none⟩ then some (.held a.block, []) else none
  | _ => none

theorem ptR_ptr (o : Option Nat) : ptR (ptr o) = some (ptD o, []) := by cases o <;> simp [ptr, ptR, ptD]
theorem ptR_inv {v : Value} {o : Option Nat} {ps : List MemPlace} (h : ptR v = some (ptD o, ps)) : v = ptr o := by
  cases v with
  | pointer p =>
    cases p with
    | none => cases o <;> simp [ptR, ptD] at h; rfl
    | some a =>
      simp only [ptR] at h
      split at h
      · rename_i ha
        cases o <;> simp [ptD] at h
        rw [ha, h.1]; rfl
      · cases h
  | _ => simp [ptR] at h
theorem ptR_some {v : Value} {y : DataW Nat × List MemPlace} (h : ptR v = some y) : ∃ o, v = ptr o ∧ y = (ptD o, []) := by
  cases v with
  | pointer p =>
    cases p with
    | none => simp [ptR] at h; exact ⟨none, rfl, h.symm⟩
    | some a =>
      simp only [ptR] at h
      split at h
      · rename_i ha
        injection h with h
        exact ⟨some a.block, by rw [ha]; rfl, h.symm⟩
      · cases h
  | _ => simp [ptR] at h
theorem ptD_inj {o o' : Option Nat} (h : ptD o = ptD o') : o = o' := by cases o <;> cases o' <;> simp [ptD] at h <;> simp [h]

theorem keyLaw : Maps.Keyed Try.prog 3 := Maps.int_keyed Try.underlying3
def Wf (z : Int) : Prop := (Lit.int .i64 z).wf = true
theorem wf_iff (z : Int) : Wf z ↔ -9223372036854775808 ≤ z ∧ z ≤ 9223372036854775807 := by
  unfold Wf
  constructor
  · intro h; exact bounds_i64 h
  · intro h; exact WalkArith.wf_i64 h
theorem key_int {z : Int} (h : Wf z) : keyOf Try.prog 3 (.int .i64 z) = some (.int .i64 z) := Maps.keyOf_int_mk Try.underlying3 h
theorem keyLit (z : Int) : WideAt.IsKeyLit (.int .i64 z) := trivial
theorem key_ne {y z : Int} (h : y ≠ z) : Lit.int .i64 y ≠ Lit.int .i64 z := fun e => by injection e with _ e; exact h e

/-- block b is a map of n numbers that leads to the blocks f -/
def PM (W : World) (b n : Nat) (f : Int → Option Nat) : Prop :=
  ∃ D : DataW Nat, W.ownsMap Try.prog 3 ptR b n D ∧ Maps.size D = n ∧ ∀ z, Wf z → D.atKey (.int .i64 z) .nil = ptD (f z) ∧ Maps.has D (.int .i64 z) = (f z).isSome

theorem ownsMap_tight {P : Program} {k : TypeId} {R : Value → Option (DataW Nat × List MemPlace)} {W : World} {b n : Nat} {D : DataW Nat} (h : W.ownsMap P k R b n D) : W.ownsMap P k R b (Maps.size D) D := by
  obtain ⟨es, clock, hb, F, hs, rfl⟩ := h
  exact ⟨es, clock, hb, F, by simp [Maps.size, length_sorted], rfl⟩

theorem PM.lt {W : World} {b n : Nat} {f : Int → Option Nat} (h : PM W b n f) : b < W.heap.size := by obtain ⟨D, h, _⟩ := h; exact h.lt
theorem PM.out {M : Nat → Prop} {W W' : World} {b n : Nat} {f : Int → Option Nat} (h : PM W b n f) (hm : ¬ M b) (k : Out M W W') : PM W' b n f := by
  have hl := h.lt
  obtain ⟨D, ⟨es, clock, hb, r⟩, r2⟩ := h
  exact ⟨D, ⟨es, clock, (k.2 b hl hm).trans hb, r⟩, r2⟩
theorem PM.congr {W : World} {b n : Nat} {f g : Int → Option Nat} (h : PM W b n f) (e : ∀ z, Wf z → f z = g z) : PM W b n g := by
  obtain ⟨D, h1, h2, h3⟩ := h
  exact ⟨D, h1, h2, fun z hz => by rw [← e z hz]; exact h3 z hz⟩

theorem PM.look {W : World} {b n : Nat} {f : Int → Option Nat} (h : PM W b n f) {z : Int} (hz : Wf z) : (Instr.lookup 70 (.map (some b)) (.int .i64 z) false).run Try.prog W = .ok (ptr (f z)) W := by
  obtain ⟨D, h1, _, h3⟩ := h
  obtain ⟨v, ps, hr, hv⟩ := h1.lookup (z := ptr none) (zd := .nil) (zp := []) keyLaw Try.underlying70 (by kernel_rfl) (ptR_ptr none) (key_int hz)
  rw [(h3 z hz).1] at hv
  rw [hr, ptR_inv hv]

theorem PM.len {W : World} {b n : Nat} {f : Int → Option Nat} (h : PM W b n f) (ty : TypeId) : (Builtin.len_ #[70] ty #[.map (some b)]).run Try.prog W = .ok (.int .i64 (n : Int)) W := by
  obtain ⟨D, h1, h2, h3⟩ := h
  rw [h1.len Try.underlying70 ty, h2]

/-- the map with one more -/
def fset (f : Int → Option Nat) (z : Int) (b : Nat) : Int → Option Nat := fun y => if y = z then some b else f y
def fdel (f : Int → Option Nat) (z : Int) : Int → Option Nat := fun y => if y = z then none else f y

theorem Out.turned {W W' : World} {b : Nat} (h : W.mapTurned W' b) : Out (fun x => x = b) W W' := by
  have hg := h.grown
  exact ⟨⟨hg.os, hg.tape, hg.output, hg.size, fun _ hb => absurd hb (Nat.not_lt_zero _)⟩, fun x hx hm => hg.block x hx (fun e => hm (by injection e))⟩

theorem PM.store {W : World} {b n : Nat} {f : Int → Option Nat} (h : PM W b n f) (hn : n < maxLen) {z : Int} (hz : Wf z) (hf : f z = none) (c : Nat) :
    ∃ W', (Instr.mapUpdate 70 (.map (some b)) (.int .i64 z) (.pointer (some ⟨c, 0, none⟩))).run Try.prog W = .ok () W' ∧ PM W' b (n + 1) (fset f z c) ∧ Out (fun x => x = b) W W' := by
  obtain ⟨D, h1, h2, h3⟩ := h
  obtain ⟨W', hr, ho, ht⟩ := h1.store keyLaw Try.underlying70 hn (key_int hz) (ptR_ptr (some c))
  have hsz : Maps.size (D.put (.int .i64 z) (ptD (some c))) = n + 1 := by
    rw [Maps.size_put (h1.tidy keyLaw), (h3 z hz).2, hf, h2]; rfl
  refine ⟨W', hr, ⟨_, hsz ▸ ownsMap_tight ho, hsz, fun y hy => ?_⟩, Out.turned ht⟩
  unfold fset
  by_cases e : y = z
  · subst e
    rw [if_pos rfl, Maps.atKey_put_same h1.isMap (keyLit y), Maps.has_put_same h1.isMap (keyLit y)]
    exact ⟨rfl, rfl⟩
  · rw [if_neg e, Maps.atKey_put_other (key_ne e), Maps.has_put_other (key_ne e)]
    exact h3 y hy

theorem PM.drop {W : World} {b n : Nat} {f : Int → Option Nat} (h : PM W b n f) {z : Int} (hz : Wf z) (hf : (f z).isSome = true) (ty : TypeId) :
    ∃ W', (Builtin.delete_ #[70, 3] ty #[.map (some b), .int .i64 z]).run Try.prog W = .ok (.tuple #[]) W' ∧ PM W' b (n - 1) (fdel f z) ∧ Out (fun x => x = b) W W' ∧ 1 ≤ n := by
  obtain ⟨D, h1, h2, h3⟩ := h
  obtain ⟨W', hr, ho, ht⟩ := h1.drop keyLaw Try.underlying70 (key_int hz) ty
  have hs := Maps.size_del (k := .int .i64 z) (h1.tidy keyLaw)
  rw [(h3 z hz).2, hf, h2] at hs
  have hsz : Maps.size (D.del (.int .i64 z)) = n - 1 := by simp at hs; omega
  refine ⟨W', hr, ⟨_, hsz ▸ ownsMap_tight ho, hsz, fun y hy => ?_⟩, Out.turned ht, by simp at hs; omega⟩
  unfold fdel
  by_cases e : y = z
  · subst e
    rw [if_pos rfl, Maps.atKey_del_same, Maps.has_del_same]
    exact ⟨rfl, rfl⟩
  · rw [if_neg e, Maps.atKey_del_other (key_ne e), Maps.has_del_other (key_ne e)]
    exact h3 y hy

theorem PM.made (W : World) : PM (W.alloc (.map #[] 0)) W.heap.size 0 (fun _ => none) :=
  ⟨.map [], World.ownsMap_made _ _ _ _, rfl, fun z hz => ⟨rfl, rfl⟩⟩

end Go.Proofs.Ytmjnlnnedjmcfaa.Fix
