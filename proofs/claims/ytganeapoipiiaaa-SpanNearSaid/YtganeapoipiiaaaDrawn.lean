/- A region that draws its order of evaluation, walked in the order of its text: where each of its operations, in every world that keeps a condition S, comes to one value and keeps S, and no two that may change places look at each other's slots, every order comes to one and the same frame. Operations whose guard says no are passed over. -/
import Derived.Orders
import Derived.WalkKit
import Derived.Below
namespace Go.Proofs.Ytganeapoipiiaaa.Drawn
open Go
section
variable {P : Program} {ops : Array Oper} {Q : Exit → Act → World → Prop} {md : Region.Mode} {S : World → Prop}

/-- The operation's run comes to v, and keeps S: by itself, or by a call. -/
def Ends (P : Program) (S : World → Prop) (v : Value) : Result Next → Prop
  | .ok (.value u) w' => u = v ∧ S w'
  | .ok (.enter f args) w' => Calls P f args w' fun e w'' => e = .returned v ∧ S w''
  | _ => False

/-- In state a, in every world that keeps S, operation o leaves v in its slot, and keeps S; or its guard says no. -/
def Det (P : Program) (ops : Array Oper) (S : World → Prop) (o : Oper) (v : Value) (a : Act) : Prop :=
  (Region.wanted o (yielded ops a.tmps) = true ∧ ∀ w, S w → Ends P S v ((execOp a.eval o).run P w)) ∨
  (Region.wanted o (yielded ops a.tmps) = false ∧ v = undef)

theorem Det.of_same {o : Oper} {v : Value} {a a' : Act} (hy : Det P ops S o v a) (he : execOp a'.eval o = execOp a.eval o)
    (hw : Region.wanted o (yielded ops a'.tmps) = Region.wanted o (yielded ops a.tmps)) : Det P ops S o v a' := by
  unfold Det at *
  rw [he, hw]
  exact hy

theorem Det.wpOp {i : Nat} {o : Oper} {v : Value} {a : Act} (hi : ops[i]? = some o) (hy : Det P ops S o v a)
    {K : Act → World → Prop} {w : World} (hS : S w) (h : ∀ w', S w' → K (a.put o.dst v) w') : wpOp P ops Q i K a w := by
  unfold Go.wpOp
  simp only [hi]
  rcases hy with ⟨hw, hv⟩ | ⟨hw, rfl⟩
  · simp only [hw, if_true]
    refine .inl ?_
    unfold Oper.wp
    have h1 := hv w hS
    generalize (execOp a.eval o).run P w = r at *
    cases r with
    | ok n w' =>
      cases n <;> simp only [Ends] at h1 <;> simp only [Oper.upon]
      case value u => obtain ⟨rfl, hs⟩ := h1; exact h _ hs
      case enter f args => exact Calls.mono h1 fun e w'' ⟨he, hs⟩ => by subst he; exact h _ hs
    | halt x w' => exact h1.elim
  · simp only [hw, Bool.false_eq_true, if_false]; exact h _ hS

/-- Whatever order is picked from here on, each operation comes to one value. -/
def DetAny (P : Program) (md : Region.Mode) (ops : Array Oper) (Q : Exit → Act → World → Prop) (S : World → Prop) : Nat → Array Bool → Act → Prop
  | 0, listed, a => Region.ready md ops listed = [] ∧ ∀ w, S w → Q .normal a w
  | fuel + 1, listed, a =>
    (Region.ready md ops listed = [] → ∀ w, S w → Q .normal a w) ∧
    ∀ i ∈ Region.ready md ops listed, ∃ o v, ops[i]? = some o ∧ Det P ops S o v a ∧ DetAny P md ops Q S fuel (listed.setIfInBounds i true) (a.put o.dst v)

theorem DetAny.any : ∀ (fuel : Nat) (listed : Array Bool) (a : Act), DetAny P md ops Q S fuel listed a → ∀ w, S w → wpAny P md ops Q fuel listed a w
  | 0, _, _, h => fun w hS => ⟨h.1, h.2 w hS⟩
  | fuel + 1, _, _, h => fun w hS => ⟨fun hr => h.1 hr w hS, fun i hi => by
      obtain ⟨o, v, ho, hd, hn⟩ := h.2 i hi
      exact hd.wpOp ho hS fun w' hS' => DetAny.any fuel _ _ hn w' hS'⟩

theorem det_first {i : Nat} {oi : Oper} {v : Value} (hi : ops[i]? = some oi) (hsel : ∀ (j : Nat) (o : Oper) cs b, ops[j]? = some o → o.op ≠ .select cs b) :
    ∀ (fuel : Nat) (listed : Array Bool) (a : Act),
      (∀ j oj, ops[j]? = some oj → j ≠ i → listed.getD j true = false → (∀ e ∈ oj.after, Region.binds md e = true → e.on ≠ i) → oi.apart ops oj = true) →
      i ∈ Region.ready md ops listed → Det P ops S oi v a →
      DetAny P md ops Q S fuel (listed.setIfInBounds i true) (a.put oi.dst v) → DetAny P md ops Q S (fuel + 1) listed a := by
  intro fuel
  induction fuel with
  | zero =>
    intro listed a _ hr hy H
    refine ⟨fun h => (by rw [h] at hr; cases hr), fun j hj => ?_⟩
    by_cases hji : j = i
    · subst hji; exact ⟨oi, v, hi, hy, H⟩
    · have := ready_mono hj hji
      rw [H.1] at this
      cases this
  | succ fuel ih =>
    intro listed a hfree hr hy H
    refine ⟨fun h => (by rw [h] at hr; cases hr), fun j hj => ?_⟩
    by_cases hji : j = i
    · subst hji; exact ⟨oi, v, hi, hy, H⟩
    · obtain ⟨oj', u, hoj', hyj, hn⟩ := H.2 j (ready_mono hj hji)
      obtain ⟨hjun, oj, hoj, hall⟩ := mem_ready.1 hj
      have heq : oj' = oj := by rw [hoj'] at hoj; exact Option.some.inj hoj
      subst heq
      have hnot : ∀ e ∈ oj'.after, Region.binds md e = true → e.on ≠ i := fun e he hb heq => by
        have h1 := hall e he hb
        have h0 := (mem_ready.1 hr).1
        rw [heq] at h1
        rcases Nat.lt_or_ge i listed.size with h' | h'
        · simp [h'] at h0 h1; rw [h0] at h1; cases h1
        · simp [Array.getElem?_eq_none h'] at h1
      obtain ⟨a1, a2, a3⟩ := Oper.apart_spec (hfree j oj' hoj hji hjun hnot)
      have hyj0 : Det P ops S oj' u a := hyj.of_same (execOp_put oj' (fun cs b => hsel j oj' cs b hoj) a oi.dst v a1).symm (wanted_put oj' a oi.dst v a1).symm
      have hyi1 : Det P ops S oi v (a.put oj'.dst u) := hy.of_same (execOp_put oi (fun cs b => hsel i oi cs b hi) a oj'.dst u a3) (wanted_put oi a oj'.dst u a3)
      refine ⟨oj', u, hoj, hyj0, ih (listed.setIfInBounds j true) (a.put oj'.dst u) ?_ (ready_mono hr (Ne.symm hji)) hyi1 ?_⟩
      · intro k ok hk hki hun hno
        refine hfree k ok hk hki ?_ hno
        by_cases hjk : j = k
        · subst hjk; exact hjun
        · rw [getD_set_ne true hjk] at hun; exact hun
      · rw [Array.setIfInBounds_comm _ _ hji, ← Act.put_comm a v u a2]
        exact hn

/-- In the order of the text each operation may come up, and is apart from all that are left and don't wait for it. -/
def textOk (md : Region.Mode) (ops : Array Oper) : Nat → Nat → Array Bool → Bool
  | 0, _, listed => (Region.ready md ops listed).isEmpty
  | fuel + 1, i, listed => Region.free md ops listed i && (Region.ready md ops listed).contains i && textOk md ops fuel (i + 1) (listed.setIfInBounds i true)

/-- What is left of a region, in the order of its text. -/
def DetSeq (P : Program) (ops : Array Oper) (Q : Exit → Act → World → Prop) (S : World → Prop) : List Oper → Act → Prop
  | [], a => ∀ w, S w → Q .normal a w
  | o :: os, a => ∃ v, Det P ops S o v a ∧ DetSeq P ops Q S os (a.put o.dst v)

theorem seq_any (hs : Region.noSelect ops = true) : ∀ (os : List Oper) (i : Nat) (listed : Array Bool) (a : Act), ops.toList.drop i = os → textOk md ops os.length i listed = true →
    DetSeq P ops Q S os a → DetAny P md ops Q S os.length listed a
  | [], i, listed, a, _, hk, h => by
      simp only [List.length_nil, textOk, List.isEmpty_iff] at hk
      exact ⟨hk, h⟩
  | o :: os, i, listed, a, hd, hk, ⟨v, hy, hn⟩ => by
      simp only [List.length_cons, textOk, Bool.and_eq_true] at hk
      obtain ⟨⟨hf, hr⟩, hk⟩ := hk
      have hlt : i < ops.toList.length := by
        rcases Nat.lt_or_ge i ops.toList.length with h' | h'
        · exact h'
        · rw [List.drop_eq_nil_of_le h'] at hd; cases hd
      rw [List.drop_eq_getElem_cons hlt] at hd
      have ho : ops[i]? = some o := by
        have := (List.cons.inj hd).1
        rw [← this]; simp at hlt ⊢
      refine det_first ho (Region.noSelect_spec hs) os.length listed a (Region.free_spec ho hf) (by simpa using hr) hy ?_
      exact seq_any hs os (i + 1) _ _ (List.cons.inj hd).2 hk hn

/-- The beginning: in a program whose regions are drawn in whatever order. -/
theorem wp_region_text {id : Nat} {l : List Oper} {a : Act} {w : World} (S : World → Prop) (hm : P.follows .mixedOrders = true) (hs : Region.noSelect l.toArray = true)
    (hk : textOk .any l.toArray l.length 0 (Array.replicate l.length false) = true) (hS : S w.drew) (h : DetSeq P l.toArray Q S l a) : (Code.region id l.toArray true).wp P Q a w :=
  wp_region_any hm (DetAny.any _ _ _ (by
    have := seq_any (md := .any) (Q := Q) hs l 0 (Array.replicate l.length false) a (by simp) hk h
    simpa using this) _ hS)

/-- The same, S being: below the heap of a world W0 all is as it was there. -/
theorem wp_region_from {id : Nat} {l : List Oper} {a : Act} {W0 w : World} (h0 : RowKit.Below W0.heap.size W0 w) (hm : P.follows .mixedOrders = true) (hs : Region.noSelect l.toArray = true)
    (hk : textOk .any l.toArray l.length 0 (Array.replicate l.length false) = true) (h : DetSeq P l.toArray Q (fun w' => RowKit.Below W0.heap.size W0 w') l a) : (Code.region id l.toArray true).wp P Q a w :=
  wp_region_text _ hm hs hk h0.drew h

theorem seq_skip {o : Oper} {os : List Oper} {a : Act} (hw : Region.wanted o (yielded ops a.tmps) = false) (h : DetSeq P ops Q S os (a.put o.dst undef)) : DetSeq P ops Q S (o :: os) a :=
  ⟨undef, .inr ⟨hw, rfl⟩, h⟩

theorem seq_value {o : Oper} {os : List Oper} {a : Act} {v : Value} (hw : Region.wanted o (yielded ops a.tmps) = true) (hv : ∀ w, S w → (execOp a.eval o).run P w = .ok (.value v) w)
    (h : DetSeq P ops Q S os (a.put o.dst v)) : DetSeq P ops Q S (o :: os) a :=
  ⟨v, .inl ⟨hw, fun w hS => by rw [hv w hS]; exact ⟨rfl, hS⟩⟩, h⟩

theorem seq_call {o : Oper} {os : List Oper} {a : Act} {v : Value} {f : FuncId} {args : Array Value} (hw : Region.wanted o (yielded ops a.tmps) = true)
    (hv : ∀ w, S w → (execOp a.eval o).run P w = .ok (.enter f args) w) (hc : ∀ w, S w → Calls P f args w fun e w'' => e = .returned v ∧ S w'')
    (h : DetSeq P ops Q S os (a.put o.dst v)) : DetSeq P ops Q S (o :: os) a :=
  ⟨v, .inl ⟨hw, fun w hS => by rw [hv w hS]; exact hc w hS⟩, h⟩

theorem seq_end {a : Act} (h : ∀ w, S w → Q .normal a w) : DetSeq P ops Q S [] a := h
end
end Go.Proofs.Ytganeapoipiiaaa.Drawn
