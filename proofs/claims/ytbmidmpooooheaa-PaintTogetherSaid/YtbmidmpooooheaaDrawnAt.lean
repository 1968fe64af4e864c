/- A region that draws its order of evaluation, where beside operations that come to one value each there is one that makes a block of memory: it may come up at any time. Each of the others comes to one value in every world that keeps S, and leaves all that is there as it was; so what the block holds is kept, whenever it was made. Behind them all come those that wait for all. -/
import Derived.Test.YtbmidmpooooheaaDrawn
import Derived.Test.YtbmidmpooooheaaMem
set_option maxRecDepth 100000
namespace Go.Proofs.Ytbmidmpooooheaa.Drawn
open Go Fix
section
variable {P : Program} {ops : Array Oper} {Q : Exit → Act → World → Prop} {md : Region.Mode} {S : World → Prop} {N : Value → World → Prop} {s m t : Nat} {so : Oper} {tail : List Oper}

/-- The operation's run comes to v; all that was there is as it was. -/
def EndsB (P : Program) (w : World) (v : Value) : Result Next → Prop
  | .ok (.value u) w' => u = v ∧ RowKit.Below w.heap.size w w'
  | .ok (.enter f args) w' => Calls P f args w' fun e w'' => e = .returned v ∧ RowKit.Below w.heap.size w w''
  | _ => False

def DetB (P : Program) (ops : Array Oper) (S : World → Prop) (o : Oper) (v : Value) (a : Act) : Prop :=
  (Region.wanted o (yielded ops a.tmps) = true ∧ ∀ w, S w → EndsB P w v ((execOp a.eval o).run P w)) ∨
  (Region.wanted o (yielded ops a.tmps) = false ∧ v = undef)

/-- What is kept by whatever only makes memory. -/
def Stable (S : World → Prop) : Prop := ∀ w w', S w → RowKit.Below w.heap.size w w' → S w'

theorem DetB.of_same {o : Oper} {v : Value} {a a' : Act} (hy : DetB P ops S o v a) (he : execOp a'.eval o = execOp a.eval o)
    (hw : Region.wanted o (yielded ops a'.tmps) = Region.wanted o (yielded ops a.tmps)) : DetB P ops S o v a' := by
  unfold DetB at *
  rw [he, hw]
  exact hy

theorem DetB.wpOp {i : Nat} {o : Oper} {v : Value} {a : Act} (hi : ops[i]? = some o) (hy : DetB P ops S o v a)
    {K : Act → World → Prop} {w : World} (hS : S w) (h : ∀ w', RowKit.Below w.heap.size w w' → K (a.put o.dst v) w') : wpOp P ops Q i K a w := by
  unfold Go.wpOp
  simp only [hi]
  rcases hy with ⟨hw, hv⟩ | ⟨hw, rfl⟩
  · simp only [hw, if_true]
    refine .inl ?_
    unfold Oper.wp
    have h1 := hv w hS
    generalize (execOp a.eval o).run P w = r at *
    cases r with
    | ok n w' =>
      cases n <;> simp only [EndsB] at h1 <;> simp only [Oper.upon]
      case value u => obtain ⟨rfl, hs⟩ := h1; exact h _ hs
      case enter f args => exact Calls.mono h1 fun e w'' ⟨he, hs⟩ => by subst he; exact h _ hs
    | halt x w' => exact h1.elim
  · simp only [hw, Bool.false_eq_true, if_false]; exact h _ (RowKit.Below.refl _ _)

/-- What is known of the world: before the special operation, behind it. -/
def Known (S : World → Prop) (N : Value → World → Prop) : Option Value → World → Prop
  | none, w => S w
  | some v, w => N v w

/-- Whatever order is picked from here on: each of the first m operations but number s comes to one value; number s, once, to whatever. -/
def DetAnyB (P : Program) (md : Region.Mode) (ops : Array Oper) (S : World → Prop) (s m : Nat) (B : Value → Array Bool → Act → Prop) : Nat → Array Bool → Act → Option Value → Prop
  | 0, listed, a, g => (∀ k, k < m → listed.getD k true = true) ∧ ∃ v, g = some v ∧ B v listed a
  | fuel + 1, listed, a, g =>
    Region.ready md ops listed ≠ [] ∧
    ∀ i ∈ Region.ready md ops listed, ∃ o, ops[i]? = some o ∧
      ((i ≠ s ∧ ∃ v, DetB P ops S o v a ∧ DetAnyB P md ops S s m B fuel (listed.setIfInBounds i true) (a.put o.dst v) g) ∨
       (i = s ∧ g = none ∧ ∀ v, DetAnyB P md ops S s m B fuel (listed.setIfInBounds i true) (a.put o.dst v) (some v)))

/-- The special operation: in every world that keeps S, whatever the frame, it comes to a value, and N holds. -/
def Special (P : Program) (ops : Array Oper) (S : World → Prop) (N : Value → World → Prop) (o : Oper) : Prop :=
  ∀ (a : Act) (w : World), S w → Region.wanted o (yielded ops a.tmps) = true ∧ ∃ v w', (execOp a.eval o).run P w = .ok (.value v) w' ∧ N v w'

theorem Special.wpOp {i : Nat} {a : Act} (hi : ops[i]? = some so) (hy : Special P ops S N so)
    {K : Act → World → Prop} {w : World} (hS : S w) (h : ∀ v w', N v w' → K (a.put so.dst v) w') : wpOp P ops Q i K a w := by
  unfold Go.wpOp
  simp only [hi]
  obtain ⟨hw, v, w', hr, hN⟩ := hy a w hS
  simp only [hw, if_true]
  refine .inl ?_
  unfold Oper.wp
  rw [hr]
  simp only [Oper.upon]
  exact h v w' hN

theorem DetAnyB.any {tf : Nat} (hso : ops[s]? = some so) (hsp : Special P ops S N so) (hS0 : Stable S) (hN0 : ∀ v, Stable (N v)) (hNS : ∀ v w, N v w → S w) :
    ∀ (fuel : Nat) (listed : Array Bool) (a : Act) (g : Option Value), DetAnyB P md ops S s m (fun v listed a => ∀ w, N v w → wpAny P md ops Q tf listed a w) fuel listed a g → ∀ w, Known S N g w → wpAny P md ops Q (tf + fuel) listed a w
  | 0, _, _, g, ⟨_, v, hg, hB⟩ => fun w hw => by subst hg; exact hB w hw
  | fuel + 1, _, _, g, h => fun w hw => ⟨fun hr => absurd hr h.1, fun i hi => by
      obtain ⟨o, ho, hcase⟩ := h.2 i hi
      have hSw : S w := by
        cases g with
        | none => exact hw
        | some v => exact hNS v w hw
      rcases hcase with ⟨_, v, hd, hn⟩ | ⟨hi, hg, hn⟩
      · refine hd.wpOp ho hSw fun w' hb => DetAnyB.any hso hsp hS0 hN0 hNS fuel _ _ g hn w' ?_
        cases g with
        | none => exact hS0 w w' hw hb
        | some u => exact hN0 u w w' hw hb
      · obtain rfl : so = o := Option.some.inj (hso.symm.trans (hi ▸ ho))
        subst hg
        exact hsp.wpOp ho hSw fun v w' hN => DetAnyB.any hso hsp hS0 hN0 hNS fuel _ _ (some v) (hn v) w' hN⟩

theorem det_firstB {B : Value → Array Bool → Act → Prop} (ht : tailWaits md ops m = true) {i : Nat} {oi : Oper} {v : Value} (him : i < m) (his : i ≠ s) (hi : ops[i]? = some oi) (hsel : ∀ (j : Nat) (o : Oper) cs b, ops[j]? = some o → o.op ≠ .select cs b)
    (fuel : Nat) (listed : Array Bool) (a : Act) (g : Option Value) (hc : Clear md ops listed i oi) (hr : i ∈ Region.ready md ops listed) (hy : DetB P ops S oi v a)
    (H : DetAnyB P md ops S s m B fuel (listed.setIfInBounds i true) (a.put oi.dst v) g) : DetAnyB P md ops S s m B (fuel + 1) listed a g := by
  induction fuel generalizing listed a g with
  | zero =>
    refine ⟨List.ne_nil_of_mem hr, fun j hj => ?_⟩
    rcases Nat.decEq j i with hji | rfl
    · exfalso
      obtain ⟨hun, oj, ho, _⟩ := mem_ready.1 hj
      by_cases hjm : j < m
      · have := H.1 j hjm
        rw [getD_set_ne true (Ne.symm hji), hun] at this
        cases this
      · exact waits_not hr hj ho (tailWaits_spec ht ho (by omega) him)
    · exact ⟨oi, hi, .inl ⟨his, v, hy, H⟩⟩
  | succ fuel ih =>
    refine ⟨List.ne_nil_of_mem hr, fun j hj => ?_⟩
    rcases Nat.decEq j i with hji | rfl
    · obtain ⟨oj, ho, hcase⟩ := H.2 j (ready_mono hj hji)
      obtain ⟨a1, a2, a3⟩ := Oper.apart_spec ((hc j oj ho hji (mem_ready.1 hj).1).resolve_left (waits_not hr hj ho))
      rcases hcase with ⟨hjs, u, hyj, hn⟩ | ⟨hjs, hg, hn⟩
      · refine ⟨oj, ho, .inl ⟨hjs, u, hyj.of_same (execOp_put oj (fun cs b => hsel j oj cs b ho) a oi.dst v a1).symm (wanted_put oj a oi.dst v a1).symm, ih _ _ _ (hc.set j) (ready_mono hr (Ne.symm hji)) ?_ ?_⟩⟩
        · exact hy.of_same (execOp_put oi (fun cs b => hsel i oi cs b hi) a oj.dst u a3) (wanted_put oi a oj.dst u a3)
        · rw [Array.setIfInBounds_comm _ _ hji, ← Act.put_comm a v u a2]; exact hn
      · refine ⟨oj, ho, .inr ⟨hjs, hg, fun u => ih _ _ _ (hc.set j) (ready_mono hr (Ne.symm hji)) ?_ ?_⟩⟩
        · exact hy.of_same (execOp_put oi (fun cs b => hsel i oi cs b hi) a oj.dst u a3) (wanted_put oi a oj.dst u a3)
        · rw [Array.setIfInBounds_comm _ _ hji, ← Act.put_comm a v u a2]; exact hn u
    · exact ⟨oi, hi, .inl ⟨his, v, hy, H⟩⟩

/-- In the order of L: each may come up, and is apart from all that are left and don't wait for it; then number s; the t behind them are forced. -/
def ordOk (md : Region.Mode) (ops : Array Oper) (s m t : Nat) : List Nat → Array Bool → Bool
  | [], listed => (Region.ready md ops listed).contains s && forced md ops t m (listed.setIfInBounds s true)
  | i :: r, listed => Region.free md ops listed i && (Region.ready md ops listed).contains i && decide (i < m) && !(i == s) && ordOk md ops s m t r (listed.setIfInBounds i true)

def DetSeqB (P : Program) (ops : Array Oper) (Q : Exit → Act → World → Prop) (S : World → Prop) (N : Value → World → Prop) (so : Oper) (tail : List Oper) : List Oper → Act → Prop
  | [], a => ∀ v w, N v w → wpText P ops Q tail (a.put so.dst v) w
  | o :: os, a => ∃ v, DetB P ops S o v a ∧ DetSeqB P ops Q S N so tail os (a.put o.dst v)

theorem listed_set {listed : Array Bool} {i q : Nat} (h : q = i → i < listed.size) (h' : q ≠ i → listed.getD q true = true) : (listed.setIfInBounds i true).getD q true = true := by
  by_cases e : q = i
  · subst e
    have := h rfl
    simp [this]
  · rw [getD_set_ne true (Ne.symm e)]; exact h' e

theorem ready_lt {i : Nat} {listed : Array Bool} (h : i ∈ Region.ready md ops listed) : i < listed.size := by
  have hun := (mem_ready.1 h).1
  rcases Nat.lt_or_ge i listed.size with h' | h'
  · exact h'
  · simp [Array.getElem?_eq_none h'] at hun

theorem seq_anyB (hs : Region.noSelect ops = true) (ht : tailWaits md ops m = true) (hso : ops[s]? = some so) (hsm : s < m) (htail : ops.toList.drop m = tail) (htl : tail.length = t) :
    ∀ (os : List Oper) (L : List Nat) (listed : Array Bool) (a : Act), L.map (fun i => ops[i]?) = os.map some → (∀ q, q < m → q ∉ L → q ≠ s → listed.getD q true = true) → ordOk md ops s m t L listed = true →
    DetSeqB P ops Q S N so tail os a → DetAnyB P md ops S s m (fun v listed a => ∀ w, N v w → wpAny P md ops Q t listed a w) (L.length + 1) listed a none
  | [], [], listed, a, _, hl, hk, h => by
      simp only [ordOk, Bool.and_eq_true, List.contains_iff_mem] at hk
      obtain ⟨hr, hf⟩ := hk
      refine ⟨List.ne_nil_of_mem hr, fun i hi => ?_⟩
      by_cases his : i = s
      · subst his
        refine ⟨so, hso, .inr ⟨rfl, rfl, fun v => ⟨fun q hq => listed_set (fun _ => ready_lt hr) (fun hne => hl q hq (by simp) hne), v, rfl, fun w hN => ?_⟩⟩⟩
        have := tail_any (P := P) (Q := Q) tail m (listed.setIfInBounds i true) (a.put so.dst v) w htail (by rw [htl]; exact hf) (h v w hN)
        rw [htl] at this; exact this
      · exfalso
        obtain ⟨hun, oi, ho, _⟩ := mem_ready.1 hi
        by_cases him : i < m
        · have := hl i him (by simp) his
          rw [hun] at this; cases this
        · exact waits_not hr hi ho (tailWaits_spec ht ho (by omega) hsm)
  | [], i :: r, _, _, hL, _, _, _ => by simp at hL
  | o :: os, [], _, _, hL, _, _, _ => by simp at hL
  | o :: os, i :: r, listed, a, hL, hl, hk, ⟨v, hy, hn⟩ => by
      simp only [List.map_cons, List.cons.injEq] at hL
      obtain ⟨ho, hL⟩ := hL
      simp only [ordOk, Bool.and_eq_true, Bool.not_eq_true', beq_eq_false_iff_ne, decide_eq_true_eq, List.contains_iff_mem] at hk
      obtain ⟨⟨⟨⟨hf, hr⟩, him⟩, his⟩, hk⟩ := hk
      refine det_firstB ht him his ho (Region.noSelect_spec hs) _ listed a none (clear_of_free ho hf) hr hy ?_
      refine seq_anyB hs ht hso hsm htail htl os r _ _ hL ?_ hk hn
      intro q hq hqr hqs
      exact listed_set (fun _ => ready_lt hr) (fun hne => hl q hq (by simp [hne, hqr]) hqs)

/-- What the special operation makes: a block. -/
def Made (W0 : World) (x : Obj) (v : Value) (w : World) : Prop := ∃ b, v = .pointer (some ⟨b, 0, none⟩) ∧ W0.heap.size ≤ b ∧ At w b x ∧ RowKit.Below W0.heap.size W0 w

theorem stable_below (W0 : World) : Stable fun w => RowKit.Below W0.heap.size W0 w := fun _ _ h hb => Below.after2 h (Nat.le_refl _) hb
theorem stable_made (W0 : World) (x : Obj) (v : Value) : Stable (Made W0 x v) := fun _ _ ⟨b, hv, h0, hA, h⟩ hb => ⟨b, hv, h0, hA.keep hb, Below.after2 h (Nat.le_refl _) hb⟩

theorem wp_region_alloc {id : Nat} {l : List Oper} {a : Act} {W0 w : World} {x : Obj} {norm : List Oper} (L : List Nat) (s m : Nat) (h0 : RowKit.Below W0.heap.size W0 w) (hp : P.follows .mixedOrders = true) (hs : Region.noSelect l.toArray = true)
    (hso : l.toArray[s]? = some so) (htl : l.drop m = tail) (hL : L.map (fun i => l.toArray[i]?) = norm.map some) (hn : l.length = tail.length + (L.length + 1))
    (hq : ((List.range m).all fun q => L.contains q || q == s) && decide (s < m) = true) (ht : tailWaits .any l.toArray m = true)
    (hk : ordOk .any l.toArray s m tail.length L (Array.replicate l.length false) = true)
    (hsp : ∀ (a : Act) (w : World), RowKit.Below W0.heap.size W0 w → Region.wanted so (yielded l.toArray a.tmps) = true ∧ (execOp a.eval so).run P w = .ok (.value (.pointer (some ⟨w.heap.size, 0, none⟩))) (w.alloc x))
    (h : DetSeqB P l.toArray Q (fun w' => RowKit.Below W0.heap.size W0 w') (Made W0 x) so tail norm a) : (Code.region id l.toArray true).wp P Q a w := by
  refine wp_region_any hp ?_
  simp only [Bool.and_eq_true, List.all_eq_true, List.mem_range, Bool.or_eq_true, List.contains_iff_mem, beq_iff_eq, decide_eq_true_eq] at hq
  have hspec : Special P l.toArray (fun w' => RowKit.Below W0.heap.size W0 w') (Made W0 x) so := fun a w hb => by
    obtain ⟨hw, hr⟩ := hsp a w hb
    exact ⟨hw, _, _, hr, w.heap.size, rfl, hb.size, At.new _ _, Below.alloc' hb _⟩
  have h1 := DetAnyB.any (Q := Q) (tf := tail.length) hso hspec (stable_below W0) (stable_made W0 x) (fun v w ⟨_, _, _, _, hb⟩ => hb) (L.length + 1) (Array.replicate l.length false) a none
    (seq_anyB (md := .any) (Q := Q) hs ht hso hq.2 (by simpa using htl) rfl norm L (Array.replicate l.length false) a hL (fun q hqm hqL hqs => by
      rcases hq.1 q hqm with h' | h'
      · exact absurd h' hqL
      · exact absurd h' hqs) hk h) w.drew h0.drew
  have e : l.toArray.size = tail.length + (L.length + 1) := by simpa using hn
  have e2 : Array.replicate (tail.length + (L.length + 1)) false = Array.replicate l.length false := by rw [hn]
  rw [e, e2]; exact h1

theorem bseq_skip {o : Oper} {os : List Oper} {a : Act} (hw : Region.wanted o (yielded ops a.tmps) = false) (h : DetSeqB P ops Q S N so tail os (a.put o.dst undef)) : DetSeqB P ops Q S N so tail (o :: os) a :=
  ⟨undef, .inr ⟨hw, rfl⟩, h⟩

theorem bseq_value {o : Oper} {os : List Oper} {a : Act} {v : Value} (hw : Region.wanted o (yielded ops a.tmps) = true) (hv : ∀ w, S w → (execOp a.eval o).run P w = .ok (.value v) w)
    (h : DetSeqB P ops Q S N so tail os (a.put o.dst v)) : DetSeqB P ops Q S N so tail (o :: os) a :=
  ⟨v, .inl ⟨hw, fun w hS => by rw [hv w hS]; exact ⟨rfl, RowKit.Below.refl _ _⟩⟩, h⟩

theorem bseq_call {o : Oper} {os : List Oper} {a : Act} {v : Value} {f : FuncId} {args : Array Value} (hw : Region.wanted o (yielded ops a.tmps) = true)
    (hv : ∀ w, S w → (execOp a.eval o).run P w = .ok (.enter f args) w) (hc : ∀ w, S w → Calls P f args w fun e w'' => e = .returned v ∧ RowKit.Below w.heap.size w w'')
    (h : DetSeqB P ops Q S N so tail os (a.put o.dst v)) : DetSeqB P ops Q S N so tail (o :: os) a :=
  ⟨v, .inl ⟨hw, fun w hS => by rw [hv w hS]; exact hc w hS⟩, h⟩

theorem bseq_end {W0 : World} {x : Obj} {a : Act} (h : ∀ (b : Nat) (w : World), W0.heap.size ≤ b → At w b x → RowKit.Below W0.heap.size W0 w → wpText P ops Q tail (a.put so.dst (.pointer (some ⟨b, 0, none⟩))) w) : DetSeqB P ops Q S (Made W0 x) so tail [] a :=
  fun _ w ⟨b, hv, hb, hA, hS⟩ => by subst hv; exact h b w hb hA hS
end
end Go.Proofs.Ytbmidmpooooheaa.Drawn
