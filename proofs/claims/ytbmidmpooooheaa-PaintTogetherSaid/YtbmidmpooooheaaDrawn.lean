/- A region that draws its order of evaluation, walked in the order of its text: where each of its operations, in every world that keeps a condition S, comes to one value and keeps S, and no two that may change places look at each other's slots, every order comes to one and the same frame. Operations whose guard says no are passed over. The law stands on the library's own of Derived.Orders (ready_mono, mem_ready, execOp_put, wanted_put, Act.put_comm), and its induction is that of 'wpAny_first' there. -/
import Derived.Orders
import Derived.WalkKit
import Derived.Below
set_option maxRecDepth 100000
namespace Go.Proofs.Ytbmidmpooooheaa.Drawn
open Go
section
variable {P : Program} {ops : Array Oper} {Q : Exit → Act → World → Prop} {md : Region.Mode} {S : World → Prop}

/-- The operation's run comes to v, and keeps S: by itself, or by a call. -/
def Ends (P : Program) (S : World → Prop) (v : Value) : Result Next → Prop
  | .ok (.value u) w' => u = v ∧ S w'
  | .ok (.enter f args) w' => Calls P f args w' fun e w'' => e = .returned v ∧ S w''
  | _ => False

/-- In state a, in every world that keeps S, operation o leaves v in its slot, and keeps S; or its guard says no. -/
def Det (P : Program) (ops : Array Oper) (S : World → Prop) (o : Oper) (v : Value) (a : Act) : Prop :=
  (Region.wanted o (yielded ops a.tmps) = true ∧ ∀ w, S w → Ends P S v ((execOp a.eval o).run P w)) ∨
  (Region.wanted o (yielded ops a.tmps) = false ∧ v = undef)

theorem Det.of_same {o : Oper} {v : Value} {a a' : Act} (hy : Det P ops S o v a) (he : execOp a'.eval o = execOp a.eval o)
    (hw : Region.wanted o (yielded ops a'.tmps) = Region.wanted o (yielded ops a.tmps)) : Det P ops S o v a' := by
  unfold Det at *
  rw [he, hw]
  exact hy

theorem Det.wpOp {i : Nat} {o : Oper} {v : Value} {a : Act} (hi : ops[i]? = some o) (hy : Det P ops S o v a)
    {K : Act → World → Prop} {w : World} (hS : S w) (h : ∀ w', S w' → K (a.put o.dst v) w') : wpOp P ops Q i K a w := by
  unfold Go.wpOp
  simp only [hi]
  rcases hy with ⟨hw, hv⟩ | ⟨hw, rfl⟩
  · simp only [hw, if_true]
    refine .inl ?_
    unfold Oper.wp
    have h1 := hv w hS
    generalize (execOp a.eval o).run P w = r at *
    cases r with
    | ok n w' =>
      cases n <;> simp only [Ends] at h1 <;> simp only [Oper.upon]
      case value u => obtain ⟨rfl, hs⟩ := h1; exact h _ hs
      case enter f args => exact Calls.mono h1 fun e w'' ⟨he, hs⟩ => by subst he; exact h _ hs
    | halt x w' => exact h1.elim
  · simp only [hw, Bool.false_eq_true, if_false]; exact h _ hS

/-- Whatever order is picked from here on, each of the first m operations comes to one value; behind them all (the others wait for them) B holds of what has come up and of the frame. -/
def DetAny (P : Program) (md : Region.Mode) (ops : Array Oper) (S : World → Prop) (m : Nat) (B : Array Bool → Act → Prop) : Nat → Array Bool → Act → Prop
  | 0, listed, a => (∀ k, k < m → listed.getD k true = true) ∧ B listed a
  | fuel + 1, listed, a =>
    Region.ready md ops listed ≠ [] ∧
    ∀ i ∈ Region.ready md ops listed, ∃ o v, ops[i]? = some o ∧ Det P ops S o v a ∧ DetAny P md ops S m B fuel (listed.setIfInBounds i true) (a.put o.dst v)

theorem DetAny.any {m tf : Nat} : ∀ (fuel : Nat) (listed : Array Bool) (a : Act), DetAny P md ops S m (fun listed a => ∀ w, S w → wpAny P md ops Q tf listed a w) fuel listed a → ∀ w, S w → wpAny P md ops Q (tf + fuel) listed a w
  | 0, _, _, h => h.2
  | fuel + 1, _, _, h => fun w hS => ⟨fun hr => absurd hr h.1, fun i hi => by
      obtain ⟨o, v, ho, hd, hn⟩ := h.2 i hi
      exact hd.wpOp ho hS fun w' hS' => DetAny.any fuel _ _ hn w' hS'⟩

/-- Each operation from number m on waits for each ahead of m. -/
def tailWaits (md : Region.Mode) (ops : Array Oper) (m : Nat) : Bool :=
  (List.range ops.size).all fun j => decide (j < m) || (List.range m).all fun k => match ops[j]? with
    | some o => o.after.any fun e => Region.binds md e && e.on == k
    | none => true

theorem tailWaits_spec {m : Nat} (h : tailWaits md ops m = true) {j k : Nat} {o : Oper} (ho : ops[j]? = some o) (hj : m ≤ j) (hk : k < m) : ∃ e ∈ o.after, Region.binds md e = true ∧ e.on = k := by
  unfold tailWaits at h
  rw [List.all_eq_true] at h
  have h1 := h j (List.mem_range.2 (Array.getElem?_eq_some_iff.1 ho).1)
  have hd : decide (j < m) = false := by simpa using hj
  rw [hd, Bool.false_or, List.all_eq_true] at h1
  have h2 := h1 k (List.mem_range.2 hk)
  simp only [ho] at h2
  obtain ⟨e, he, hb⟩ := Array.any_eq_true'.1 h2
  simp only [Bool.and_eq_true, beq_iff_eq] at hb
  exact ⟨e, he, hb.1, hb.2⟩

theorem not_listed {i : Nat} {listed : Array Bool} (h0 : listed.getD i true = false) (h1 : listed.getD i false = true) : False := by
  rcases Nat.lt_or_ge i listed.size with h' | h'
  · simp [h'] at h0 h1; rw [h0] at h1; cases h1
  · simp [Array.getElem?_eq_none h'] at h1

/-- Whoever has not come up, and does not wait for number i, is apart from it. -/
def Clear (md : Region.Mode) (ops : Array Oper) (listed : Array Bool) (i : Nat) (oi : Oper) : Prop :=
  ∀ j oj, ops[j]? = some oj → j ≠ i → listed.getD j true = false → (∃ e ∈ oj.after, Region.binds md e = true ∧ e.on = i) ∨ oi.apart ops oj = true

theorem Clear.set {listed : Array Bool} {i : Nat} {oi : Oper} (h : Clear md ops listed i oi) (j : Nat) : Clear md ops (listed.setIfInBounds j true) i oi := fun k ok hk hki hun =>
  h k ok hk hki (by
    by_cases hjk : j = k
    · subst hjk
      rcases Nat.lt_or_ge j listed.size with h' | h'
      · simp [h'] at hun
      · simp at hun
    · rwa [getD_set_ne true hjk] at hun)

/-- One that may come up waits for no one that has not come up. -/
theorem waits_not {i j : Nat} {listed : Array Bool} {oj : Oper} (hi : i ∈ Region.ready md ops listed) (hj : j ∈ Region.ready md ops listed) (ho : ops[j]? = some oj) (h : ∃ e ∈ oj.after, Region.binds md e = true ∧ e.on = i) : False := by
  obtain ⟨e, he, hb, rfl⟩ := h
  obtain ⟨_, o, ho', hall⟩ := mem_ready.1 hj
  obtain rfl : oj = o := Option.some.inj (ho.symm.trans ho')
  exact not_listed (mem_ready.1 hi).1 (hall e he hb)

theorem det_first {m : Nat} {B : Array Bool → Act → Prop} (ht : tailWaits md ops m = true) {i : Nat} {oi : Oper} {v : Value} (him : i < m) (hi : ops[i]? = some oi) (hsel : ∀ (j : Nat) (o : Oper) cs b, ops[j]? = some o → o.op ≠ .select cs b)
    (fuel : Nat) (listed : Array Bool) (a : Act) (hc : Clear md ops listed i oi) (hr : i ∈ Region.ready md ops listed) (hy : Det P ops S oi v a)
    (H : DetAny P md ops S m B fuel (listed.setIfInBounds i true) (a.put oi.dst v)) : DetAny P md ops S m B (fuel + 1) listed a := by
  induction fuel generalizing listed a with
  | zero =>
    refine ⟨List.ne_nil_of_mem hr, fun j hj => ?_⟩
    rcases Nat.decEq j i with hji | rfl
    · exfalso
      obtain ⟨hun, oj, ho, _⟩ := mem_ready.1 hj
      by_cases hjm : j < m
      · have := H.1 j hjm
        rw [getD_set_ne true (Ne.symm hji), hun] at this
        cases this
      · exact waits_not hr hj ho (tailWaits_spec ht ho (by omega) him)
    · exact ⟨oi, v, hi, hy, H⟩
  | succ fuel ih =>
    refine ⟨List.ne_nil_of_mem hr, fun j hj => ?_⟩
    rcases Nat.decEq j i with hji | rfl
    · obtain ⟨oj, u, ho, hyj, hn⟩ := H.2 j (ready_mono hj hji)
      obtain ⟨a1, a2, a3⟩ := Oper.apart_spec ((hc j oj ho hji (mem_ready.1 hj).1).resolve_left (waits_not hr hj ho))
      refine ⟨oj, u, ho, hyj.of_same (execOp_put oj (fun cs b => hsel j oj cs b ho) a oi.dst v a1).symm (wanted_put oj a oi.dst v a1).symm, ih _ _ (hc.set j) (ready_mono hr (Ne.symm hji)) ?_ ?_⟩
      · exact hy.of_same (execOp_put oi (fun cs b => hsel i oi cs b hi) a oj.dst u a3) (wanted_put oi a oj.dst u a3)
      · rw [Array.setIfInBounds_comm _ _ hji, ← Act.put_comm a v u a2]; exact hn
    · exact ⟨oi, v, hi, hy, H⟩

/-- What is left of a region, one operation behind the other. -/
def wpText (P : Program) (ops : Array Oper) (Q : Exit → Act → World → Prop) : List Oper → Act → World → Prop
  | [], a, w => Q .normal a w
  | o :: os, a, w => if Region.wanted o (yielded ops a.tmps) = true then o.wp P a w (wpText P ops Q os) Q else wpText P ops Q os (a.put o.dst undef) w

/-- Each of what is left is the only one that may come up. -/
def forced (md : Region.Mode) (ops : Array Oper) : Nat → Nat → Array Bool → Bool
  | 0, _, listed => (Region.ready md ops listed).isEmpty
  | t + 1, i, listed => (Region.ready md ops listed == [i]) && forced md ops t (i + 1) (listed.setIfInBounds i true)

/-- In the order of the text: each of the first k may come up, and is apart from all that are left and don't wait for it; the t behind them are forced. -/
def textOk (md : Region.Mode) (ops : Array Oper) (t : Nat) : Nat → Nat → Array Bool → Bool
  | 0, i, listed => forced md ops t i listed
  | k + 1, i, listed => Region.free md ops listed i && (Region.ready md ops listed).contains i && textOk md ops t k (i + 1) (listed.setIfInBounds i true)

/-- What is left of a region, k operations of it in the order of the text, and then those behind. -/
def DetSeq (P : Program) (ops : Array Oper) (Q : Exit → Act → World → Prop) (S : World → Prop) : Nat → List Oper → Act → Prop
  | 0, os, a => ∀ w, S w → wpText P ops Q os a w
  | _ + 1, [], _ => False
  | k + 1, o :: os, a => ∃ v, Det P ops S o v a ∧ DetSeq P ops Q S k os (a.put o.dst v)

theorem drop_cons {i : Nat} {o : Oper} {os : List Oper} (hd : ops.toList.drop i = o :: os) : ops[i]? = some o ∧ ops.toList.drop (i + 1) = os := by
  have hlt : i < ops.toList.length := by
    rcases Nat.lt_or_ge i ops.toList.length with h' | h'
    · exact h'
    · rw [List.drop_eq_nil_of_le h'] at hd; cases hd
  rw [List.drop_eq_getElem_cons hlt] at hd
  refine ⟨?_, (List.cons.inj hd).2⟩
  have := (List.cons.inj hd).1
  rw [← this]; simp at hlt ⊢

theorem clear_of_free {i : Nat} {oi : Oper} {listed : Array Bool} (hi : ops[i]? = some oi) (h : Region.free md ops listed i = true) : Clear md ops listed i oi := fun j oj ho hji hun => by
  by_cases hw : ∃ e ∈ oj.after, Region.binds md e = true ∧ e.on = i
  · exact .inl hw
  · exact .inr (Region.free_spec hi h j oj ho hji hun fun e he hb hon => hw ⟨e, he, hb, hon⟩)

theorem tail_any : ∀ (os : List Oper) (i : Nat) (listed : Array Bool) (a : Act) (w : World), ops.toList.drop i = os → forced md ops os.length i listed = true →
    wpText P ops Q os a w → wpAny P md ops Q os.length listed a w
  | [], i, listed, a, w, _, hk, h => by
      simp only [List.length_nil, forced, List.isEmpty_iff] at hk
      exact ⟨hk, h⟩
  | o :: os, i, listed, a, w, hd, hk, h => by
      simp only [List.length_cons, forced, Bool.and_eq_true, beq_iff_eq] at hk
      obtain ⟨hr, hk⟩ := hk
      obtain ⟨ho, hd'⟩ := drop_cons hd
      refine ⟨fun h0 => (by rw [hr] at h0; cases h0), fun j hj => ?_⟩
      rw [hr] at hj
      obtain rfl : j = i := by simpa using hj
      unfold wpOp
      simp only [ho]
      unfold wpText at h
      by_cases hw : Region.wanted o (yielded ops a.tmps) = true
      · rw [if_pos hw] at h
        simp only [hw, if_true]
        exact .inl (Oper.wp_mono (fun a' w' h' => tail_any os (j + 1) _ a' w' hd' hk h') h)
      · rw [if_neg hw] at h
        simp only [hw, Bool.false_eq_true, if_false]
        exact tail_any os (j + 1) _ _ _ hd' hk h

theorem seq_any {m t : Nat} (hs : Region.noSelect ops = true) (ht : tailWaits md ops m = true) (hm : ops.toList.length = m + t) : ∀ (k : Nat) (os : List Oper) (i : Nat) (listed : Array Bool) (a : Act), ops.toList.drop i = os → i + k = m →
    (∀ q, q < i → listed.getD q true = true) → textOk md ops t k i listed = true →
    DetSeq P ops Q S k os a → DetAny P md ops S m (fun listed a => ∀ w, S w → wpAny P md ops Q t listed a w) k listed a
  | 0, os, i, listed, a, hd, hi, hl, hk, h => by
      have hlen : os.length = t := by rw [← hd, List.length_drop, hm]; omega
      refine ⟨fun q hq => hl q (by omega), fun w hS => ?_⟩
      have := tail_any (P := P) (Q := Q) os i listed a w hd (by rw [hlen]; simpa only [textOk] using hk) (h w hS)
      rw [hlen] at this; exact this
  | k + 1, [], i, listed, a, _, _, _, _, h => h.elim
  | k + 1, o :: os, i, listed, a, hd, hi, hl, hk, ⟨v, hy, hn⟩ => by
      simp only [textOk, Bool.and_eq_true] at hk
      obtain ⟨⟨hf, hr⟩, hk⟩ := hk
      obtain ⟨ho, hd'⟩ := drop_cons hd
      refine det_first ht (by omega) ho (Region.noSelect_spec hs) k listed a (clear_of_free ho hf) (by simpa using hr) hy ?_
      refine seq_any hs ht hm k os (i + 1) _ _ hd' (by omega) ?_ hk hn
      intro q hq
      by_cases hqi : q = i
      · subst hqi
        have hun := (mem_ready.1 (show q ∈ Region.ready md ops listed by simpa using hr)).1
        have hlt : q < listed.size := by
          rcases Nat.lt_or_ge q listed.size with h' | h'
          · exact h'
          · simp [Array.getElem?_eq_none h'] at hun
        simp [hlt]
      · rw [getD_set_ne true (Ne.symm hqi)]; exact hl q (by omega)

/-- The beginning, in a program whose regions are drawn in whatever order: the first m operations come to one value each and keep S; the t behind them wait for all of them. -/
theorem wp_region_text {id : Nat} {l : List Oper} {a : Act} {w : World} (m t : Nat) (S : World → Prop) (hp : P.follows .mixedOrders = true) (hs : Region.noSelect l.toArray = true)
    (hl : l.length = m + t) (ht : tailWaits .any l.toArray m = true) (hk : textOk .any l.toArray t m 0 (Array.replicate l.length false) = true) (hS : S w.drew) (h : DetSeq P l.toArray Q S m l a) : (Code.region id l.toArray true).wp P Q a w :=
  wp_region_any hp (by
    have h1 := DetAny.any (Q := Q) (tf := t) m (Array.replicate l.length false) a (seq_any (md := .any) (Q := Q) (m := m) (t := t) hs ht (by simpa using hl) m l 0 (Array.replicate l.length false) a (by simp) (by omega) (fun q hq => by omega) hk h) _ hS
    have e : l.toArray.size = t + m := by simp; omega
    rw [e]
    have e2 : Array.replicate (t + m) false = Array.replicate l.length false := by rw [hl, Nat.add_comm]
    rw [e2]; exact h1)

/-- The same for a whole region, S being: below the heap of a world W0 all is as it was there. -/
theorem wp_region_from {id : Nat} {l : List Oper} {a : Act} {W0 w : World} (h0 : RowKit.Below W0.heap.size W0 w) (hp : P.follows .mixedOrders = true) (hs : Region.noSelect l.toArray = true)
    (hk : textOk .any l.toArray 0 l.length 0 (Array.replicate l.length false) = true) (h : DetSeq P l.toArray Q (fun w' => RowKit.Below W0.heap.size W0 w') l.length l a) : (Code.region id l.toArray true).wp P Q a w :=
  wp_region_text l.length 0 _ hp hs (by simp) (by
    unfold tailWaits
    rw [List.all_eq_true]
    intro j hj
    have : j < l.length := by simpa using hj
    simp [this]) hk h0.drew h

/-- The same for a region whose last t operations wait for all the others. -/
theorem wp_region_tail {id : Nat} {l : List Oper} {a : Act} {W0 w : World} (m t : Nat) (h0 : RowKit.Below W0.heap.size W0 w) (hp : P.follows .mixedOrders = true) (hs : Region.noSelect l.toArray = true)
    (hl : l.length = m + t) (ht : tailWaits .any l.toArray m = true) (hk : textOk .any l.toArray t m 0 (Array.replicate l.length false) = true) (h : DetSeq P l.toArray Q (fun w' => RowKit.Below W0.heap.size W0 w') m l a) : (Code.region id l.toArray true).wp P Q a w :=
  wp_region_text m t _ hp hs hl ht hk h0.drew h

theorem seq_skip {k : Nat} {o : Oper} {os : List Oper} {a : Act} (hw : Region.wanted o (yielded ops a.tmps) = false) (h : DetSeq P ops Q S k os (a.put o.dst undef)) : DetSeq P ops Q S (k + 1) (o :: os) a :=
  ⟨undef, .inr ⟨hw, rfl⟩, h⟩

theorem seq_value {k : Nat} {o : Oper} {os : List Oper} {a : Act} {v : Value} (hw : Region.wanted o (yielded ops a.tmps) = true) (hv : ∀ w, S w → (execOp a.eval o).run P w = .ok (.value v) w)
    (h : DetSeq P ops Q S k os (a.put o.dst v)) : DetSeq P ops Q S (k + 1) (o :: os) a :=
  ⟨v, .inl ⟨hw, fun w hS => by rw [hv w hS]; exact ⟨rfl, hS⟩⟩, h⟩

theorem seq_call {k : Nat} {o : Oper} {os : List Oper} {a : Act} {v : Value} {f : FuncId} {args : Array Value} (hw : Region.wanted o (yielded ops a.tmps) = true)
    (hv : ∀ w, S w → (execOp a.eval o).run P w = .ok (.enter f args) w) (hc : ∀ w, S w → Calls P f args w fun e w'' => e = .returned v ∧ S w'')
    (h : DetSeq P ops Q S k os (a.put o.dst v)) : DetSeq P ops Q S (k + 1) (o :: os) a :=
  ⟨v, .inl ⟨hw, fun w hS => by rw [hv w hS]; exact hc w hS⟩, h⟩

theorem seq_end {a : Act} (h : ∀ w, S w → Q .normal a w) : DetSeq P ops Q S 0 [] a := h

theorem seq_tail {a : Act} {os : List Oper} (h : ∀ w, S w → wpText P ops Q os a w) : DetSeq P ops Q S 0 os a := h

theorem text_cons {o : Oper} {os : List Oper} {a : Act} {w : World} (hw : Region.wanted o (yielded ops a.tmps) = true) (h : ∀ K : Act → World → Prop, (∀ a w, wpText P ops Q os a w → K a w) → o.wp P a w K Q) : wpText P ops Q (o :: os) a w := by
  unfold wpText; rw [if_pos hw]; exact h _ fun _ _ h => h

theorem text_nil {a : Act} {w : World} (h : Q .normal a w) : wpText P ops Q [] a w := h
end
end Go.Proofs.Ytbmidmpooooheaa.Drawn
