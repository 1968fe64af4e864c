/- What was learnt of memory with layers 13 to 15, by itself: what a call may write to, rows of one's own, maps as functions, ranges over a function by owned blocks. Written by genpaown.py. -/
import Derived.Test.YtbmidmpooooheaaMarStackR
import Derived.Test.YtbmidmpooooheaaDrawnGen
import Derived.Test.YtbmidmpooooheaaCut
import Derived.Test.YtbmidmpooooheaaFlexIter
import Derived.Maps.OwnSet
import Derived.Maps.RangeWalk
import Derived.Maps.OwnIn
import Derived.Shelf.Abstract
namespace Go.Proofs.Ytbmidmpooooheaa.Fix
open Go.ChangeShapes Go.WideShapes Go.ChangeAt Go.RowKit
set_option linter.unusedVariables false
set_option linter.unusedSimpArgs false
set_option maxRecDepth 100000

/-- what was there stands, but for the blocks of M -/
def Out (M : Nat → Prop) (W W' : World) : Prop := Below 0 W W' ∧ ∀ b, b < W.heap.size → ¬ M b → W'.heap[b]? = W.heap[b]?

theorem Out.refl (M : Nat → Prop) (W : World) : Out M W W := ⟨Below.refl _ _, fun _ _ _ => rfl⟩
theorem Out.size {M : Nat → Prop} {W W' : World} (h : Out M W W') : W.heap.size ≤ W'.heap.size := h.1.size
theorem Out.trans {M : Nat → Prop} {X Y Z : World} (h : Out M X Y) (k : Out M Y Z) : Out M X Z := ⟨h.1.trans k.1, fun b hb hm => (k.2 b (Nat.lt_of_lt_of_le hb h.size) hm).trans (h.2 b hb hm)⟩
theorem Out.mono {M M' : Nat → Prop} {X Y : World} (h : Out M X Y) (hm : ∀ b, b < X.heap.size → M b → M' b) : Out M' X Y := ⟨h.1, fun b hb hn => h.2 b hb fun q => hn (hm b hb q)⟩
theorem Out.of_below {M : Nat → Prop} {X Y : World} (h : Below X.heap.size X Y) : Out M X Y := ⟨h.mono (Nat.zero_le _), fun b hb _ => h.block b hb⟩
theorem Out.below {M : Nat → Prop} {n : Nat} {X Y : World} (h : Out M X Y) (hn : n ≤ X.heap.size) (hm : ∀ b, b < n → ¬ M b) : Below n X Y := ⟨h.1.os, h.1.tape, h.1.output, h.1.size, fun b hb => h.2 b (Nat.lt_of_lt_of_le hb hn) (hm b hb)⟩
theorem Out.set {M : Nat → Prop} {X Y : World} (h : Out M X Y) {b : Nat} (hb : M b) (i : Nat) (v : Value) : Out M X (Y.setCell ⟨b, i, none⟩ v) :=
  ⟨Below.setCell h.1 (by simp) _, fun c hc hm => (Below.heap_setCell Y ⟨b, i, none⟩ v c (fun e => hm (e ▸ hb))).trans (h.2 c hc hm)⟩
theorem At.out {M : Nat → Prop} {X Y : World} {b : Nat} {o : Obj} (h : At X b o) (hm : ¬ M b) (k : Out M X Y) : At Y b o := (k.2 b h.lt hm).trans h

theorem Out.trans' {M M' : Nat → Prop} {X Y Z : World} (h : Out M X Y) (k : Out M' Y Z) (hm : ∀ b, b < X.heap.size → M' b → M b) : Out M X Z := ⟨h.1.trans k.1, fun b hb hn => (k.2 b (Nat.lt_of_lt_of_le hb h.size) (fun q => hn (hm b hb q))).trans (h.2 b hb hn)⟩

theorem At.drew {W : World} {b : Nat} {o : Obj} (h : At W b o) : At W.drew b o := h
theorem Out.drew {M : Nat → Prop} {X Y : World} (h : Out M X Y) : Out M X Y.drew := ⟨h.1.drew, h.2⟩

theorem Out.grown {M : Nat → Prop} {X Y : World} {row : Option Nat} (h : X.grownBy Y row) (hr : ∀ b, row = some b → M b) : Out M X Y :=
  ⟨⟨h.os, h.tape, h.output, h.size, fun _ hb => absurd hb (Nat.not_lt_zero _)⟩, fun b hb hm => h.block b hb (fun e => hm (hr b e.symm))⟩

theorem Out.turned {W W' : World} {b : Nat} (h : W.mapTurned W' b) : Out (fun x => x = b) W W' := by
  have hg := h.grown
  exact ⟨⟨hg.os, hg.tape, hg.output, hg.size, fun _ hb => absurd hb (Nat.not_lt_zero _)⟩, fun x hx hm => hg.block x hx (fun e => hm (by injection e))⟩

theorem Out.cell {M : Nat → Prop} {W W' : World} (h : Out M W W') {b : Nat} (o : Nat) (hb : b < W.heap.size) (hm : ¬ M b) : W'.cell? ⟨b, o, none⟩ = W.cell? ⟨b, o, none⟩ := by
  have e := h.2 b hb hm
  unfold World.cell?
  rw [e]
theorem Out.froz {M : Nat → Prop} {W W' : World} (h : Out M W W') {b : Nat} (o : Nat) (hb : b < W.heap.size) (hm : ¬ M b) : W'.frozen? ⟨b, o, none⟩ = W.frozen? ⟨b, o, none⟩ := by
  have e := h.2 b hb hm
  unfold World.frozen?
  rw [e]

/-- v is a row of the numbers l, in a block of its own -/
def KS (W : World) (v : Value) (l : List Int) : Prop := W.ownsRow 0 3 1 v l.length (l.map (Value.int .i64))

/-- block g is a row of c places that begins with the numbers l -/
def Rw (W : World) (g c : Nat) (l : List Int) : Prop := ∃ cur : Array Value, At W g (.cells cur 3) ∧ cur.size = c ∧ l.length ≤ c ∧ c ≤ maxLen ∧ cur.toList.take l.length = l.map (Value.int .i64)

theorem KS.nil (W : World) : KS W (.slice none 0 0) [] := World.ownsRow_nil _ _ _ _
theorem KS.cases {W : World} {v : Value} {l : List Int} (h : KS W v l) : (v = .slice none 0 0 ∧ l = []) ∨ ∃ g c, v = .slice (some ⟨g, 0, none⟩) l.length c ∧ Rw W g c l := by
  rcases h.2 with ⟨rfl, h0⟩ | ⟨g, cap, cur, rfl, _, hg, h1, h2, h3, h4⟩
  · exact .inl ⟨rfl, List.eq_nil_of_length_eq_zero h0⟩
  · exact .inr ⟨g, cap, rfl, cur, hg, by simpa using h3, h1, h2, by simpa using h4⟩
theorem Rw.ks {W : World} {g c : Nat} {l : List Int} (h : Rw W g c l) : KS W (.slice (some ⟨g, 0, none⟩) l.length c) l := by
  obtain ⟨cur, h1, h2, h3, h4, h5⟩ := h
  exact ⟨by simp, .inr ⟨g, c, cur, rfl, Nat.zero_le _, h1, h3, h4, by simpa using h2, by simpa using h5⟩⟩
theorem Rw.lt {W : World} {g c : Nat} {l : List Int} (h : Rw W g c l) : g < W.heap.size := by obtain ⟨cur, h1, _⟩ := h; exact h1.lt
theorem Rw.out {M : Nat → Prop} {W W' : World} {g c : Nat} {l : List Int} (h : Rw W g c l) (hm : ¬ M g) (k : Out M W W') : Rw W' g c l := by
  obtain ⟨cur, h1, r⟩ := h
  exact ⟨cur, h1.out hm k, r⟩
theorem KS.lt {W : World} {v : Value} {l : List Int} (h : KS W v l) {g : Nat} (hg : v.ownBlock = some g) : g < W.heap.size := (World.ownsRow.lt h g hg).2
theorem KS.out {M : Nat → Prop} {W W' : World} {v : Value} {l : List Int} (h : KS W v l) (hm : ∀ g, v.ownBlock = some g → ¬ M g) (k : Out M W W') : KS W' v l := by
  rcases h.cases with ⟨rfl, rfl⟩ | ⟨g, c, rfl, hr⟩
  · exact KS.nil _
  · exact (hr.out (hm g rfl) k).ks
theorem KS.after {W W' : World} {v : Value} {l : List Int} (h : KS W v l) (hb : Below W.heap.size W W') : KS W' v l := h.out (M := fun _ => False) (fun _ _ q => q) (Out.of_below hb)
theorem Rw.ints {W : World} {g c : Nat} {l : List Int} (h : Rw W g c l) : Ints W (some ⟨g, 0, none⟩) l := by
  obtain ⟨cur, h1, h2, h3, h4, h5⟩ := h
  refine ⟨by omega, fun h0 => ⟨g, 0, rfl, fun k hk => ?_⟩⟩
  rw [h1.cell, Nat.zero_add]
  have : (cur.toList.take l.length)[k]? = (l.map (Value.int .i64))[k]? := by rw [h5]
  rw [List.getElem?_take, if_pos hk] at this
  simpa [List.getElem?_eq_getElem hk] using this
theorem KS.ints {W : World} {v : Value} {l : List Int} (h : KS W v l) : ∃ A c, v = .slice A l.length c ∧ Ints W A l ∧ l.length ≤ c ∧ c ≤ maxLen ∧ (A = none → c = 0) := by
  rcases h.cases with ⟨rfl, rfl⟩ | ⟨g, c, rfl, hr⟩
  · exact ⟨none, 0, rfl, ⟨by simp, fun h => absurd h (by simp)⟩, by simp, by simp [maxLen], fun _ => rfl⟩
  · have hr' := hr
    obtain ⟨cur, h1, h2, h3, h4, h5⟩ := hr
    exact ⟨_, c, rfl, hr'.ints, h3, h4, fun h => by cases h⟩

/-- an append in a region that draws, its run known -/
theorem exec_append {P : Program} {w w' : World} {o : Oper} {a : Act} (s x : Operand) (t tn : TypeId) (ho : o.op = .call { callee := .builtin .append, args := #[s, x], argTypes := #[t, tn] }) {v u v' : Value} (hs : a.eval s = v) (hx : a.eval x = u)
    (hrun : (Builtin.append_ #[t, tn] o.type #[v, u]).run P w = .ok v' w') : (execOp a.eval o).run P w = .ok (.value v') w' := by
  unfold execOp
  simp only [ho, resolve, invoke, builtin, Sem.run_bind, Sem.run_pure, Result.andThen_ok, List.map_toArray, List.map_cons, List.map_nil, hs, hx, hrun]

/-- a value reads as itself -/
def hR : Value → Option (DataW Value × List MemPlace) := fun v => some (.held v, [])
/-- block b is a map of n keys that leads to the values g -/
def GM (k : TypeId) (W : World) (b n : Nat) (g : Lit → Option Value) : Prop :=
  ∃ D : DataW Value, W.ownsMap Try.prog k hR b n D ∧ Maps.size D = n ∧ ∀ l, WideAt.IsKeyLit l → (∀ z, D.atKey l (.held z) = .held ((g l).getD z)) ∧ Maps.has D l = (g l).isSome

section
variable {k t e : TypeId} {W W' : World} {b n : Nat} {g : Lit → Option Value}
theorem GM.lt (h : GM k W b n g) : b < W.heap.size := by obtain ⟨D, h, _⟩ := h; exact h.lt
theorem GM.obj (h : GM k W b n g) : ∃ es clock, At W b (.map es clock) := by obtain ⟨D, ⟨es, clock, hb, _⟩, _⟩ := h; exact ⟨es, clock, hb⟩
theorem GM.out {M : Nat → Prop} (h : GM k W b n g) (hm : ¬ M b) (q : Out M W W') : GM k W' b n g := by
  have hl := h.lt
  obtain ⟨D, ⟨es, clock, hb, r⟩, r2⟩ := h
  exact ⟨D, ⟨es, clock, (q.2 b hl hm).trans hb, r⟩, r2⟩
theorem GM.keep (h : GM k W b n g) (hb : Below W.heap.size W W') : GM k W' b n g := h.out (M := fun _ => False) (fun q => q) (Out.of_below hb)
theorem GM.congr {g' : Lit → Option Value} (h : GM k W b n g) (q : ∀ l, WideAt.IsKeyLit l → g l = g' l) : GM k W b n g' := by
  obtain ⟨D, h1, h2, h3⟩ := h
  exact ⟨D, h1, h2, fun l hl => by rw [← q l hl]; exact h3 l hl⟩
theorem GM.look (h : GM k W b n g) (K : Maps.Keyed Try.prog k) (ht : Try.prog.underlying t = some (.map k e)) {z : Value} (hz : (zeroValue e).run Try.prog W = .ok z W) {key : Value} {kl : Lit} (hkey : keyOf Try.prog k key = some kl) :
    (Instr.lookup t (.map (some b)) key false).run Try.prog W = .ok ((g kl).getD z) W := by
  obtain ⟨D, h1, _, h3⟩ := h
  obtain ⟨v, ps, hr, hv⟩ := h1.lookup (z := z) (zd := .held z) (zp := []) K ht hz rfl hkey
  rw [(h3 kl (K.key hkey)).1 z] at hv
  simp only [hR, Option.some.injEq, Prod.mk.injEq, DataW.held.injEq] at hv
  rw [hr, hv.1]
theorem GM.look_ok (h : GM k W b n g) (K : Maps.Keyed Try.prog k) (ht : Try.prog.underlying t = some (.map k e)) {z : Value} (hz : (zeroValue e).run Try.prog W = .ok z W) {key : Value} {kl : Lit} (hkey : keyOf Try.prog k key = some kl) :
    (Instr.lookup t (.map (some b)) key true).run Try.prog W = .ok (.tuple #[(g kl).getD z, .bool (g kl).isSome]) W := by
  obtain ⟨D, h1, _, h3⟩ := h
  obtain ⟨v, ps, hr, hv⟩ := h1.look_ok (z := z) (zd := .held z) (zp := []) K ht hz rfl hkey
  rw [(h3 kl (K.key hkey)).1 z] at hv
  simp only [hR, Option.some.injEq, Prod.mk.injEq, DataW.held.injEq] at hv
  rw [hr, hv.1, (h3 kl (K.key hkey)).2]
theorem GM.len (h : GM k W b n g) (ht : Try.prog.underlying t = some (.map k e)) (ty : TypeId) : (Builtin.len_ #[t] ty #[.map (some b)]).run Try.prog W = .ok (.int .i64 (n : Int)) W := by
  obtain ⟨D, h1, h2, _⟩ := h
  rw [h1.len ht ty, h2]
noncomputable def gset (g : Lit → Option Value) (l : Lit) (v : Value) : Lit → Option Value := fun y => @ite (Option Value) (y = l) (Classical.propDecidable _) (some v) (g y)
theorem gset_same (g : Lit → Option Value) (l : Lit) (v : Value) : gset g l v l = some v := if_pos rfl
theorem gset_off {g : Lit → Option Value} {l y : Lit} {v : Value} (h : y ≠ l) : gset g l v y = g y := if_neg h
theorem tightG {P : Program} {k : TypeId} {R : Value → Option (DataW Value × List MemPlace)} {W : World} {b n : Nat} {D : DataW Value} (h : W.ownsMap P k R b n D) : W.ownsMap P k R b (Maps.size D) D := by
  obtain ⟨es, clock, hb, F, hs, rfl⟩ := h
  exact ⟨es, clock, hb, F, by simp [Maps.size, length_sorted], rfl⟩
theorem GM.store (h : GM k W b n g) (K : Maps.Keyed Try.prog k) (ht : Try.prog.underlying t = some (.map k e)) (hn : n < maxLen) {key v : Value} {kl : Lit} (hkey : keyOf Try.prog k key = some kl) (hf : g kl = none) :
    ∃ W', (Instr.mapUpdate t (.map (some b)) key v).run Try.prog W = .ok () W' ∧ GM k W' b (n + 1) (gset g kl v) ∧ Out (fun x => x = b) W W' := by
  obtain ⟨D, h1, h2, h3⟩ := h
  obtain ⟨W', hr, ho, ht⟩ := h1.store K ht hn hkey (val := v) rfl
  have hsz : Maps.size (D.put kl (.held v)) = n + 1 := by
    rw [Maps.size_put (h1.tidy K), (h3 kl (K.key hkey)).2, hf, h2]; rfl
  refine ⟨W', hr, ⟨_, hsz ▸ tightG ho, hsz, fun y hy => ?_⟩, Out.turned ht⟩
  by_cases e : y = kl
  · subst e
    rw [gset_same]
    exact ⟨fun z => by rw [Maps.atKey_put_same h1.isMap (K.key hkey)]; rfl, by rw [Maps.has_put_same h1.isMap (K.key hkey)]; rfl⟩
  · rw [gset_off e]
    exact ⟨fun z => by rw [Maps.atKey_put_other e]; exact (h3 y hy).1 z, by rw [Maps.has_put_other e]; exact (h3 y hy).2⟩
theorem GM.made (k : TypeId) (W : World) : GM k (W.alloc (.map #[] 0)) W.heap.size 0 (fun _ => none) :=
  ⟨.map [], World.ownsMap_made _ _ _ _, rfl, fun l hl => ⟨fun z => rfl, rfl⟩⟩
end

theorem GM.put {k t e : TypeId} {W : World} {b n : Nat} {g : Lit → Option Value} (h : GM k W b n g) (K : Maps.Keyed Try.prog k) (ht : Try.prog.underlying t = some (.map k e)) (hn : n < maxLen) {key v : Value} {kl : Lit} (hkey : keyOf Try.prog k key = some kl) :
    ∃ W' n', n' ≤ n + 1 ∧ (Instr.mapUpdate t (.map (some b)) key v).run Try.prog W = .ok () W' ∧ GM k W' b n' (gset g kl v) ∧ Out (fun x => x = b) W W' := by
  obtain ⟨D, h1, h2, h3⟩ := h
  obtain ⟨W', hr, ho, ht⟩ := h1.store K ht hn hkey (val := v) rfl
  have hle := ho.size_le
  refine ⟨W', Maps.size (D.put kl (.held v)), hle, hr, ⟨_, tightG ho, rfl, fun y hy => ?_⟩, Out.turned ht⟩
  by_cases e : y = kl
  · subst e
    rw [gset_same]
    exact ⟨fun z => by rw [Maps.atKey_put_same h1.isMap (K.key hkey)]; rfl, by rw [Maps.has_put_same h1.isMap (K.key hkey)]; rfl⟩
  · rw [gset_off e]
    exact ⟨fun z => by rw [Maps.atKey_put_other e]; exact (h3 y hy).1 z, by rw [Maps.has_put_other e]; exact (h3 y hy).2⟩

/-- what holds as long as its own blocks stand -/
def Stab (K : Nat → (Nat → Prop) → World → Prop) : Prop := ∀ (i : Nat) (S M : Nat → Prop) (W W' : World), K i S W → Out M W W' → (∀ b, S b → ¬ M b) → K i S W'
def StabX (K : (Nat → Prop) → World → Prop) : Prop := ∀ (S M : Nat → Prop) (W W' : World), K S W → Out M W W' → (∀ b, S b → ¬ M b) → K S W'

/-- only the blocks of S have turned; S' are these, and new ones -/
def Went (S S' : Nat → Prop) (W W' : World) : Prop := Out S W W' ∧ ∀ b, S' b → S b ∨ (W.heap.size ≤ b ∧ b < W'.heap.size)

theorem Went.refl (S : Nat → Prop) (W : World) : Went S S W W := ⟨Out.refl _ _, fun _ h => .inl h⟩
theorem Went.trans {S S' S'' : Nat → Prop} {W W' W'' : World} (h : Went S S' W W') (k : Went S' S'' W' W'') : Went S S'' W W'' := by
  have h1 := h.1.size
  have h2 := k.1.size
  refine ⟨⟨h.1.1.trans k.1.1, fun b hb hm => (k.1.2 b (Nat.lt_of_lt_of_le hb h1) fun q => ?_).trans (h.1.2 b hb hm)⟩, fun b hb => ?_⟩
  · rcases h.2 b q with q | q
    · exact hm q
    · omega
  · rcases k.2 b hb with q | q
    · rcases h.2 b q with q | q
      · exact .inl q
      · exact .inr ⟨q.1, by omega⟩
    · exact .inr ⟨by omega, q.2⟩
theorem Went.of_below {S : Nat → Prop} {W W' : World} (h : Below W.heap.size W W') : Went S S W W' := ⟨Out.of_below h, fun _ h => .inl h⟩

def YPost (J : Nat → (Nat → Prop) → World → Prop) (Jx : (Nat → Prop) → World → Prop) (i : Nat) (S : Nat → Prop) (W : World) (e : Ending) (W' : World) : Prop :=
  ∃ S', Went S S' W W' ∧ ((e = .returned (.bool true) ∧ J (i + 1) S' W') ∨ (e = .returned (.bool false) ∧ Jx S' W'))
def IPost (J : Nat → (Nat → Prop) → World → Prop) (Jx : (Nat → Prop) → World → Prop) (N : Nat) (S : Nat → Prop) (W : World) (e : Ending) (W' : World) : Prop :=
  (∃ v, e = .returned v) ∧ ∃ S', Went S S' W W' ∧ (J N S' W' ∨ Jx S' W')
/-- how a round may be left -/
def roundOwn (K : Nat → (Nat → Prop) → World → Prop) (Kx : (Nat → Prop) → World → Prop) (i : Nat) (S : Nat → Prop) (W : World) : Exit → Act → World → Prop
  | .normal, _, W' => ∃ S', Went S S' W W' ∧ K (i + 1) S' W'
  | .ret, _, W' => ∃ S', Went S S' W W' ∧ Kx S' W'
  | _, _, _ => False

theorem Out.putObj (W : World) (r : Nat) (o : Obj) : Out (fun b => b = r) W (W.putObj r o) := Out.grown (grownBy_putObj' W r o) fun b e => by injection e with e; exact e.symm

theorem range_own {P : Program} {n : Nat} {g : Operand} {ps : Array Tmp} {assign body : Code} {Q : Exit → Act → World → Prop} {a : Act} {w : World}
    {gf : FuncId} {first lb : Array Value} (hg : a.eval g = .func (.func gf) first lb) (eg : ∀ args w, (callFunc gf args).run P w = .ok (.enter gf args) w)
    (N : Nat) (xs : Nat → Array Value) (hps : ∀ i, (xs i).size = ps.size) (K : Nat → (Nat → Prop) → World → Prop) (Kx : (Nat → Prop) → World → Prop)
    (hK : Stab K) (hKx : StabX Kx) (S0 : Nat → Prop) (hS0 : ∀ b, S0 b → b < w.heap.size) (h0 : K 0 S0 w)
    (hit : ∀ (lp : Nat) (J : Nat → (Nat → Prop) → World → Prop) (Jx : (Nat → Prop) → World → Prop) (S1 : Nat → Prop) (W1 : World), Below w.heap.size w W1 → (∀ b, S1 b → (S0 b ∨ w.heap.size ≤ b) ∧ b < W1.heap.size) → Stab J → StabX Jx →
      (∀ m i S W, i < N → J i S W → YieldAt Fence.wide m P lp (xs i) W (YPost J Jx i S W)) → J 0 S1 W1 →
      CallsIn Fence.wide (n - 1) P gf (first ++ #[.func (.yield lp) #[] #[]] ++ lb) W1 (IPost J Jx N S1 W1))
    (upd : Nat → Array Value → Array Value)
    (hassign : ∀ (l m i : Nat) (W : World) (G : Act → World → Prop), i < N → G { tmps := upd i a.tmps, defers := [] } W →
      assign.wpIn (Fence.wide.inRound l) m P (Exit.then G (fun _ _ _ => False)) { tmps := (ps.zip (xs i)).foldl (fun t (p, v) => t.setIfInBounds p v) a.tmps, defers := [] } W)
    (hbody : ∀ (l m i : Nat) (S : Nat → Prop) (W : World), i < N → K i S W → body.wpIn (Fence.wide.inRound l) m P (roundOwn K Kx i S W) { tmps := upd i a.tmps, defers := [] } W)
    (hdone : ∀ (D : Nat) (S : Nat → Prop) (W : World), w.heap.size ≤ D → Went S0 S w W → ¬ S D → K N S W → W.heap[D]? = some (.deferred (some [])) → Q .normal { a with defers := { target := .collected D, args := #[] } :: a.defers } W)
    (hstop : ∀ (D : Nat) (S : Nat → Prop) (W : World), w.heap.size ≤ D → Went S0 S w W → ¬ S D → Kx S W → W.heap[D]? = some (.deferred (some [])) → Code.ret.wpIn Fence.wide n P Q { a with defers := { target := .collected D, args := #[] } :: a.defers } W) :
    (Code.rangeFunc g ps assign body).wpIn Fence.wide n P Q a w := by
  refine wpIn_rangeFunc fun fn _ => ?_
  let L : LoopState → Option Code → Loop := fun s p => { state := s, pending := p, fn := fn, tmps := a.tmps, params := ps, assign := assign, body := body, defers := w.heap.size }
  have hH : Held ((w.alloc (.deferred (some []))).alloc (.loop (L .ready none))) w.heap.size (L .ready none) := by
    have e := At.new (w.alloc (.deferred (some []))) (.loop (L .ready none))
    rw [World.size_alloc] at e
    exact ⟨e, (At.new w (.deferred (some []))).alloc _⟩
  have hsz : ((w.alloc (.deferred (some []))).alloc (.loop (L .ready none))).heap.size = w.heap.size + 2 := by simp
  have hbl : Below w.heap.size w ((w.alloc (.deferred (some []))).alloc (.loop (L .ready none))) := Below.alloc' (Below.alloc' (Below.refl _ _) _) _
  generalize hW : (w.alloc (.deferred (some []))).alloc (.loop (L .ready none)) = W1 at hH hsz hbl
  -- what the rounds keep, and the two blocks of the statement
  let B2 : (Nat → Prop) → (Nat → Prop) → Prop := fun S S1 => (∀ b, S b ↔ S1 b ∨ b = w.heap.size ∨ b = w.heap.size + 1) ∧ (∀ b, S1 b → b ≠ w.heap.size ∧ b ≠ w.heap.size + 1)
  let J : Nat → (Nat → Prop) → World → Prop := fun i S W => ∃ S1, B2 S S1 ∧ K i S1 W ∧ Held W w.heap.size (L .ready none)
  let Jx : (Nat → Prop) → World → Prop := fun S W => ∃ S1, B2 S S1 ∧ Kx S1 W ∧ Held W w.heap.size (L .done (some .ret))
  have hHeld : ∀ (S S1 M : Nat → Prop) (W W' : World) (r : Loop), B2 S S1 → Held W w.heap.size r → Out M W W' → (∀ b, S b → ¬ M b) → Held W' w.heap.size r := fun S S1 M W W' r hB hh ho hm =>
    ⟨(show At W _ _ from hh.1).out (hm _ ((hB.1 _).2 (.inr (.inr rfl)))) ho, (show At W _ _ from hh.2).out (hm _ ((hB.1 _).2 (.inr (.inl rfl)))) ho⟩
  have hJ : Stab J := fun i S M W W' ⟨S1, hB, hk, hh⟩ ho hm => ⟨S1, hB, hK i S1 M W W' hk ho (fun b hb => hm b ((hB.1 b).2 (.inl hb))), hHeld S S1 M W W' _ hB hh ho hm⟩
  have hJx : StabX Jx := fun S M W W' ⟨S1, hB, hk, hh⟩ ho hm => ⟨S1, hB, hKx S1 M W W' hk ho (fun b hb => hm b ((hB.1 b).2 (.inl hb))), hHeld S S1 M W W' _ hB hh ho hm⟩
  -- from what the statement's blocks are part of to what was there
  have hWent : ∀ (S S1 : Nat → Prop) (W W' : World), B2 S S1 → Went (fun b => S0 b ∨ b = w.heap.size ∨ b = w.heap.size + 1) S W1 W' → Out (fun b => b = w.heap.size + 1) W' W → Went S0 S1 w W := fun S S1 W W' hB hw ho => by
    have e1 := hbl.size
    have e2 := hw.1.size
    have e3 := ho.size
    refine ⟨⟨(Below.mono hbl (Nat.zero_le _)).trans (hw.1.1.trans ho.1), fun b hb hm => ?_⟩, fun b hb => ?_⟩
    · rw [ho.2 b (by omega) (by simp; omega), hw.1.2 b (by omega) (fun q => q.elim hm (by omega)), hbl.block b hb]
    · have hb2 := hB.2 b hb
      rcases hw.2 b ((hB.1 b).2 (.inl hb)) with (q | q | q) | q
      · exact .inl q
      · exact absurd q hb2.1
      · exact absurd q hb2.2
      · exact .inr ⟨by omega, by omega⟩
  have hB0 : B2 (fun b => S0 b ∨ b = w.heap.size ∨ b = w.heap.size + 1) S0 := ⟨fun b => Iff.rfl, fun b hb => by have := hS0 b hb; omega⟩
  refine ⟨w.heap.size + 1, [{ target := .collected w.heap.size, args := #[] }], W1, { target := .fn (.func gf) lb, args := first ++ #[.func (.yield (w.heap.size + 1)) #[] #[]] }, W1, gf,
    first ++ #[.func (.yield (w.heap.size + 1)) #[] #[]] ++ lb, W1, ?_, ?_, fun _ _ => trivial, ?_, fun hd => (by simp [Fence.wide] at hd), ?_⟩
  · rw [← hW]; exact run_enterLoop_outer fn _ _ _ _
  · simp only [resolve, hg]
    simp [go_sem]
  · simp [invoke, go_sem, eg]
  refine (hit (w.heap.size + 1) J Jx (fun b => S0 b ∨ b = w.heap.size ∨ b = w.heap.size + 1) W1 hbl (fun b hb => ?s1) hJ hJx ?round ⟨S0, hB0, hK 0 S0 (fun _ => False) w W1 h0 (Out.of_below hbl) (fun _ _ q => q), hH⟩).mono ?behind
  case s1 =>
    rcases hb with hb | hb | hb
    · have := hS0 b hb; exact ⟨.inl hb, by omega⟩
    · exact ⟨.inr (by omega), by omega⟩
    · exact ⟨.inr (by omega), by omega⟩
  case round =>
    rintro m i S W hi ⟨S1, hB, hk, hh⟩
    refine ⟨fn, _, assign, body, run_yield hh.1 (hps i), roundIn_of_wpIn trivial (hassign _ _ i W _ hi ⟨_, run_beginRound hh.1 rfl, ?_⟩)⟩
    have hb := hh.turn (L .busy none)
    have ho := Out.putObj W (w.heap.size + 1) (.loop (L .busy none))
    have hk1 := hK i S1 _ _ _ hk ho (fun b hb q => (hB.2 b hb).2 q)
    have hlt1 : w.heap.size + 1 < W.heap.size := (Array.getElem?_eq_some_iff.1 hh.1).1
    refine wpIn_mono (hbody _ _ i S1 _ hi hk1) ?_
    intro e _ W3 hp
    have hszp : (W.putObj (w.heap.size + 1) (.loop (L .busy none))).heap.size = W.heap.size := by simp
    have fin : ∀ (S' : Nat → Prop) (s : LoopState) (p : Option Code), Went S1 S' (W.putObj (w.heap.size + 1) (.loop (L .busy none))) W3 →
        Held W3 w.heap.size (L .busy none) ∧ B2 (fun b => S' b ∨ b = w.heap.size ∨ b = w.heap.size + 1) S' ∧ Went S (fun b => S' b ∨ b = w.heap.size ∨ b = w.heap.size + 1) W (W3.putObj (w.heap.size + 1) (.loop (L s p))) := fun S' s p hw => by
      have hz := hw.1.size
      refine ⟨⟨(show At _ _ _ from hb.1).out (fun q => (hB.2 _ q).2 rfl) hw.1, (show At _ _ _ from hb.2).out (fun q => (hB.2 _ q).1 rfl) hw.1⟩, ⟨fun b => Iff.rfl, fun b hb => ?_⟩, ?_, fun b hb => ?_⟩
      · rcases hw.2 b hb with q | q
        · exact hB.2 b q
        · omega
      · have o1 : Out S W (W.putObj (w.heap.size + 1) (.loop (L .busy none))) := ho.mono fun b _ e => by subst e; exact (hB.1 _).2 (.inr (.inr rfl))
        have o2 : Out S (W.putObj (w.heap.size + 1) (.loop (L .busy none))) W3 := hw.1.mono fun b _ e => (hB.1 b).2 (.inl e)
        have o3 : Out S W3 (W3.putObj (w.heap.size + 1) (.loop (L s p))) := (Out.putObj W3 (w.heap.size + 1) (.loop (L s p))).mono fun b _ e => by subst e; exact (hB.1 _).2 (.inr (.inr rfl))
        exact (o1.trans o2).trans o3
      · rcases hb with hb | hb
        · rcases hw.2 b hb with q | q
          · exact .inl ((hB.1 b).2 (.inl q))
          · exact .inr ⟨by omega, by simp; omega⟩
        · exact .inl ((hB.1 b).2 (.inr hb))
    cases e with
    | normal =>
      obtain ⟨S', hw, hk3⟩ := hp
      obtain ⟨h3, hb3, hw3⟩ := fin S' .ready none hw
      exact ⟨_, _, run_endRound none h3.1, _, hw3, .inl ⟨rfl, S', hb3, hK _ _ _ _ _ hk3 (Out.putObj W3 _ _) (fun b hb q => (hb3.2 b hb).2 q), h3.turn _⟩⟩
    | ret =>
      obtain ⟨S', hw, hk3⟩ := hp
      obtain ⟨h3, hb3, hw3⟩ := fin S' .done (some .ret) hw
      exact ⟨_, _, run_endRound (some .ret) h3.1, _, hw3, .inr ⟨rfl, S', hb3, hKx _ _ _ _ hk3 (Out.putObj W3 _ _) (fun b hb q => (hb3.2 b hb).2 q), h3.turn _⟩⟩
    | exit _ => exact hp.elim
    | goto _ => exact hp.elim
    | panic _ => exact hp.elim
    | outgrown => exact hp.elim
  case behind =>
    rintro e W2 ⟨⟨v, rfl⟩, S, hw, ⟨S1, hB, hk, hh⟩ | ⟨S1, hB, hk, hh⟩⟩
    · have ho := Out.putObj W2 (w.heap.size + 1) (.loop (L .exhausted none))
      exact ⟨none, _, run_endLoop hh.1 (by simp [L]), hdone _ S1 _ (Nat.le_refl _) (hWent S S1 _ W2 hB hw (Out.putObj W2 _ _)) (fun q => (hB.2 _ q).1 rfl) (hK _ _ _ _ _ hk (Out.putObj W2 _ _) (fun b hb q => (hB.2 b hb).2 q)) (hh.turn _).2⟩
    · exact ⟨some .ret, _, run_endLoop hh.1 (by simp [L]), hstop _ S1 _ (Nat.le_refl _) (hWent S S1 _ W2 hB hw (Out.putObj W2 _ _)) (fun q => (hB.2 _ q).1 rfl) (hKx _ _ _ _ hk (Out.putObj W2 _ _) (fun b hb q => (hB.2 b hb).2 q)) (hh.turn _).2⟩

/-- the marks that ranges have left among what is put off -/
def marks (Ds : List Nat) : List Deferred := Ds.map fun D => { target := .collected D, args := #[] }

theorem leaves_marks {F : Fence} {n : Nat} {P : Program} {fn : Func} {tmps : Array Value} {R : Ending → World → Prop} : ∀ (Ds : List Nat) (W : World), Ds.Nodup → (∀ D ∈ Ds, W.heap[D]? = some (.deferred (some []))) → (∀ W', Out (fun b => b ∈ Ds) W W' → LeavesIn F n P fn tmps R [] .returning W') → LeavesInM F n P fn tmps R (marks Ds) .returning W
  | [], W, _, _, h => h W (Out.refl _ _)
  | D :: Ds, W, hn, hd, h => by
    refine ⟨by simp, .inl ⟨D, _, rfl, run_takeDeferred (hd D List.mem_cons_self), leaves_marks Ds _ (List.nodup_cons.1 hn).2 (fun E hE => ?_) fun W' ho => h W' ?_⟩⟩
    · have hne : E ≠ D := fun e => (List.nodup_cons.1 hn).1 (e ▸ hE)
      exact (show At W E _ from hd E (List.mem_cons_of_mem _ hE)).out (M := fun b => b = D) hne (Out.putObj W D _)
    · exact ((Out.putObj W D _).mono fun b _ (e : b = D) => by subst e; exact List.mem_cons_self).trans (ho.mono fun b _ e => List.mem_cons_of_mem _ e)

theorem ownsRow_out {M : Nat → Prop} {W W' : World} {base : Nat} {e : TypeId} {size : Nat} {v : Value} {n : Nat} {xs : List Value} (h : W.ownsRow base e size v n xs) (hm : ∀ g, v.ownBlock = some g → ¬ M g) (k : Out M W W') : W'.ownsRow base e size v n xs := by
  refine ⟨h.1, ?_⟩
  rcases h.2 with q | ⟨g, cap, cur, rfl, hb, hg, r⟩
  · exact .inl q
  · exact .inr ⟨g, cap, cur, rfl, hb, (show At W g _ from hg).out (hm g rfl) k, r⟩

theorem rowBase {W : World} {base base' : Nat} {e : TypeId} {size : Nat} {v : Value} {k : Nat} {xs : List Value} (h : W.ownsRow base e size v k xs) (hb : base' ≤ base) : W.ownsRow base' e size v k xs := by
  refine ⟨h.1, ?_⟩
  rcases h.2 with q | ⟨g, cap, cur, q1, q2, r⟩
  · exact .inl q
  · exact .inr ⟨g, cap, cur, q1, Nat.le_trans hb q2, r⟩

theorem Went.with_ {S S' S2 : Nat → Prop} {W W' W5 W6 : World} {yb : Nat} (h : Went S S' W W') (hy : W.heap.size ≤ yb ∧ yb < W'.heap.size) (hb : Below W'.heap.size W' W5) (k : Went (fun b => S' b ∨ b = yb) S2 W5 W6) : Went S S2 W W6 := by
  have e1 := h.1.size
  have e2 := hb.size
  have e3 := k.1.size
  refine ⟨⟨h.1.1.trans ((hb.mono (Nat.zero_le _)).trans k.1.1), fun b hlt hm => ?_⟩, fun b hs => ?_⟩
  · rw [k.1.2 b (by omega) (fun q => ?_), hb.block b (by omega), h.1.2 b hlt hm]
    rcases q with q | q
    · rcases h.2 b q with q | q
      · exact hm q
      · omega
    · omega
  · rcases k.2 b hs with (q | q) | q
    · rcases h.2 b q with q | q
      · exact .inl q
      · exact .inr (by omega)
    · exact .inr (by omega)
    · exact .inr (by omega)
theorem Went.sub {S S' S2 : Nat → Prop} {W W' : World} (h : Went S S' W W') (k : ∀ b, S2 b → S' b) : Went S S2 W W' := ⟨h.1, fun b hb => h.2 b (k b hb)⟩
theorem Went.more {S S' M : Nat → Prop} {W W' W'' : World} (h : Went S S' W W') (k : Out M W' W'') (hm : ∀ b, M b → W.heap.size ≤ b) : Went S S' W W'' := by
  have e1 := h.1.size
  have e2 := k.size
  refine ⟨⟨h.1.1.trans k.1, fun b hb hn => ?_⟩, fun b hb => (h.2 b hb).imp_right fun q => ⟨q.1, by omega⟩⟩
  rw [k.2 b (by omega) (fun q => by have := hm b q; omega), h.1.2 b hb hn]
theorem KS.ints_of {W : World} {A : Option Addr} {n c : Nat} {l : List Int} (h : KS W (.slice A n c) l) : Ints W A l ∧ l.length = n := by
  obtain ⟨A', c', e, hI, _⟩ := h.ints
  injection e with e1 e2 e3
  subst e1
  exact ⟨hI, e2.symm⟩

theorem keyLaw : Maps.Keyed Try.prog 3 := Maps.int_keyed Try.underlying3
def Wf (z : Int) : Prop := (Lit.int .i64 z).wf = true
theorem wf_iff (z : Int) : Wf z ↔ -9223372036854775808 ≤ z ∧ z ≤ 9223372036854775807 := by
  unfold Wf
  constructor
  · intro h; exact bounds_i64 h
  · intro h; exact WalkArith.wf_i64 h
theorem key_int {z : Int} (h : Wf z) : keyOf Try.prog 3 (.int .i64 z) = some (.int .i64 z) := Maps.keyOf_int_mk Try.underlying3 h
theorem keyLit (z : Int) : WideAt.IsKeyLit (.int .i64 z) := trivial
theorem key_ne {y z : Int} (h : y ≠ z) : Lit.int .i64 y ≠ Lit.int .i64 z := fun e => by injection e with _ e; exact h e

theorem ranges_outH {H : Type} {M : Nat → Prop} {W W' : World} {P : Program} {R : Value → Option (DataW H × List MemPlace)} {k : TypeId} {b r n : Nat} {D : DataW H} {left : Lit → Bool} {cnt : Nat} (h : W.ranges P k R b r n D left cnt) (hb : ¬ M b) (hr : ¬ M r) (ho : Out M W W') : W'.ranges P k R b r n D left cnt := by
  have h1 := h.owns.lt
  have h2 := h.lt
  obtain ⟨es, clock, since, seen, c0, e1, F, hs, hD, e2, rest⟩ := h
  exact ⟨es, clock, since, seen, c0, (ho.2 b h1 hb).trans e1, F, hs, hD, (ho.2 r h2 hr).trans e2, rest⟩

end Go.Proofs.Ytbmidmpooooheaa.Fix
