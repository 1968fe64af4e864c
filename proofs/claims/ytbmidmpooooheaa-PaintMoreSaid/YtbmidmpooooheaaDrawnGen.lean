/- A region that draws its order, walked by hand: what only reads may be taken first; of the others each that may come up is looked at. (Elsewhere, and in a round of a range over a function.) -/
import Derived.Test.YtbmidmpooooheaaDrawnRound
set_option maxRecDepth 100000
namespace Go.Proofs.Ytbmidmpooooheaa.Drawn
open Go Fix
section
variable {P : Program} {ops : Array Oper} {Q : Exit → Act → World → Prop} {md : Region.Mode} {S : World → Prop} {m : Nat}

/-- An operation's run comes to a value. -/
def Step (P : Program) (K : Value → World → Prop) : Result Next → Prop
  | .ok (.value u) w' => K u w'
  | .ok .skip w' => K undef w'
  | .ok (.enter f args) w' => Calls P f args w' fun e w'' => ∃ u, e = .returned u ∧ K u w''
  | _ => False

theorem Step.mono {K K' : Value → World → Prop} {r : Result Next} (h : Step P K r) (hk : ∀ u w, K u w → K' u w) : Step P K' r := by
  cases r with
  | ok x w' =>
    cases x <;> simp only [Step] at h ⊢
    case value => exact hk _ _ h
    case skip => exact hk _ _ h
    case enter => exact h.mono fun e w'' ⟨u, he, hu⟩ => ⟨u, he, hk _ _ hu⟩
  | halt => exact h.elim

theorem Step.value {K : Value → World → Prop} {r : Result Next} {u : Value} {w' : World} (hr : r = .ok (.value u) w') (h : K u w') : Step P K r := by subst hr; exact h
theorem Step.skip {K : Value → World → Prop} {r : Result Next} {w' : World} (hr : r = .ok .skip w') (h : K undef w') : Step P K r := by subst hr; exact h
theorem Step.call {K : Value → World → Prop} {r : Result Next} {f : FuncId} {args : Array Value} {w' : World} {R : Ending → World → Prop} (hr : r = .ok (.enter f args) w') (hc : Calls P f args w' R) (h : ∀ e w'', R e w'' → ∃ u, e = .returned u ∧ K u w'') : Step P K r := by
  subst hr; exact hc.mono h

/-- Whatever order is picked: behind each operation ahead of number m S holds. -/
def GenAny (P : Program) (md : Region.Mode) (ops : Array Oper) (Q : Exit → Act → World → Prop) (S : World → Prop) (m : Nat) : Nat → Array Bool → Act → World → Prop
  | 0, listed, a, w => Region.ready md ops listed = [] ∧ Q .normal a w
  | fuel + 1, listed, a, w =>
    Region.ready md ops listed ≠ [] ∧
    ∀ i ∈ Region.ready md ops listed, ∃ o, ops[i]? = some o ∧
      ((Region.wanted o (yielded ops a.tmps) = true ∧ Step P (fun u w' => (i < m → S w') ∧ GenAny P md ops Q S m fuel (listed.setIfInBounds i true) (a.put o.dst u) w') ((execOp a.eval o).run P w)) ∨
       (Region.wanted o (yielded ops a.tmps) = false ∧ GenAny P md ops Q S m fuel (listed.setIfInBounds i true) (a.put o.dst undef) w))

theorem GenAny.any : ∀ (fuel : Nat) (listed : Array Bool) (a : Act) (w : World), GenAny P md ops Q S m fuel listed a w → wpAny P md ops Q fuel listed a w
  | 0, _, _, _, h => h
  | fuel + 1, listed, a, w, h => ⟨fun hr => absurd hr h.1, fun i hi => by
      obtain ⟨o, ho, hcase⟩ := h.2 i hi
      unfold Go.wpOp
      simp only [ho]
      rcases hcase with ⟨hw, hs⟩ | ⟨hw, hs⟩
      · simp only [hw, if_true]
        refine .inl ?_
        unfold Oper.wp
        generalize (execOp a.eval o).run P w = r at *
        cases r with
        | ok x w' =>
          cases x <;> simp only [Step] at hs <;> simp only [Oper.upon]
          case value => exact GenAny.any fuel _ _ _ hs.2
          case skip => exact GenAny.any fuel _ _ _ hs.2
          case enter => exact Calls.mono hs fun e w'' ⟨u, he, hu⟩ => by subst he; exact GenAny.any fuel _ _ _ hu.2
        | halt => exact hs.elim
      · simp only [hw, Bool.false_eq_true, if_false]
        exact GenAny.any fuel _ _ _ hs⟩

/-- It only reads: in every world that keeps S it comes to v, and leaves the world as it is. -/
def Reads (P : Program) (ops : Array Oper) (S : World → Prop) (o : Oper) (v : Value) (a : Act) : Prop :=
  (Region.wanted o (yielded ops a.tmps) = true ∧ ∀ w, S w → (execOp a.eval o).run P w = .ok (.value v) w) ∨ (Region.wanted o (yielded ops a.tmps) = false ∧ v = undef)

theorem Reads.of_same {o : Oper} {v : Value} {a a' : Act} (hy : Reads P ops S o v a) (he : execOp a'.eval o = execOp a.eval o)
    (hw : Region.wanted o (yielded ops a'.tmps) = Region.wanted o (yielded ops a.tmps)) : Reads P ops S o v a' := by
  unfold Reads at *
  rw [he, hw]
  exact hy

theorem gen_first (ht : tailWaits md ops m = true) (hsel : ∀ (j : Nat) (o : Oper) cs b, ops[j]? = some o → o.op ≠ .select cs b) {i : Nat} {oi : Oper} {v : Value} (him : i < m) (hi : ops[i]? = some oi)
    (fuel : Nat) (listed : Array Bool) (a : Act) (w : World) (hc : Clear md ops listed i oi) (hr : i ∈ Region.ready md ops listed) (hS : S w) (hy : Reads P ops S oi v a)
    (H : GenAny P md ops Q S m fuel (listed.setIfInBounds i true) (a.put oi.dst v) w) : GenAny P md ops Q S m (fuel + 1) listed a w := by
  have self : ∀ (fuel : Nat) (listed : Array Bool) (a : Act) (w : World), S w → Reads P ops S oi v a → GenAny P md ops Q S m fuel (listed.setIfInBounds i true) (a.put oi.dst v) w →
      ∃ o, ops[i]? = some o ∧ ((Region.wanted o (yielded ops a.tmps) = true ∧ Step P (fun u w' => (i < m → S w') ∧ GenAny P md ops Q S m fuel (listed.setIfInBounds i true) (a.put o.dst u) w') ((execOp a.eval o).run P w)) ∨
       (Region.wanted o (yielded ops a.tmps) = false ∧ GenAny P md ops Q S m fuel (listed.setIfInBounds i true) (a.put o.dst undef) w)) := by
    intro fuel listed a w hS hy H
    rcases hy with ⟨hw, hv⟩ | ⟨hw, rfl⟩
    · exact ⟨oi, hi, .inl ⟨hw, Step.value (hv w hS) ⟨fun _ => hS, H⟩⟩⟩
    · exact ⟨oi, hi, .inr ⟨hw, H⟩⟩
  induction fuel generalizing listed a w with
  | zero =>
    refine ⟨List.ne_nil_of_mem hr, fun j hj => ?_⟩
    rcases Nat.decEq j i with hji | rfl
    · exfalso
      have := ready_mono hj hji
      rw [H.1] at this; cases this
    · exact self 0 listed a w hS hy H
  | succ fuel ih =>
    refine ⟨List.ne_nil_of_mem hr, fun j hj => ?_⟩
    rcases Nat.decEq j i with hji | rfl
    · obtain ⟨oj, ho, hcase⟩ := H.2 j (ready_mono hj hji)
      obtain ⟨a1, a2, a3⟩ := Oper.apart_spec ((hc j oj ho hji (mem_ready.1 hj).1).resolve_left (waits_not hr hj ho))
      have hjm : j < m := by
        rcases Nat.lt_or_ge j m with h' | h'
        · exact h'
        · exact (waits_not hr hj ho (tailWaits_spec ht ho h' him)).elim
      have e1 := execOp_put oj (fun cs b => hsel j oj cs b ho) a oi.dst v a1
      have e2 := wanted_put oj a oi.dst v a1
      refine ⟨oj, ho, ?_⟩
      have next : ∀ (u : Value) (w' : World), S w' → GenAny P md ops Q S m fuel ((listed.setIfInBounds i true).setIfInBounds j true) ((a.put oi.dst v).put oj.dst u) w' → GenAny P md ops Q S m (fuel + 1) (listed.setIfInBounds j true) (a.put oj.dst u) w' := by
        intro u w' hS' hn
        refine ih _ _ _ (hc.set j) (ready_mono hr (Ne.symm hji)) hS' ?_ ?_
        · exact hy.of_same (execOp_put oi (fun cs b => hsel i oi cs b hi) a oj.dst u a3) (wanted_put oi a oj.dst u a3)
        · rw [Array.setIfInBounds_comm _ _ hji, ← Act.put_comm a v u a2]; exact hn
      rcases hcase with ⟨hw, hs⟩ | ⟨hw, hs⟩
      · refine .inl ⟨by rw [← e2]; exact hw, ?_⟩
        rw [e1] at hs
        exact hs.mono fun u w' ⟨h1, h2⟩ => ⟨h1, next u w' (h1 hjm) h2⟩
      · exact .inr ⟨by rw [← e2]; exact hw, next _ _ hS hs⟩
    · exact self (fuel + 1) listed a w hS hy H

theorem of_list {i : Nat} {o : Oper} (h : ops.toList[i]? = some o) : ops[i]? = some o := by rw [← h]; simp

theorem gen_take {i : Nat} {oi : Oper} {v : Value} {fuel : Nat} {listed : Array Bool} {a : Act} {w : World} (hi0 : ops.toList[i]? = some oi) (ht : tailWaits md ops m = true) (hs : Region.noSelect ops = true)
    (hf : Region.free md ops listed i = true) (hr : (Region.ready md ops listed).contains i = true) (him : i < m) (hS : S w) (hy : Reads P ops S oi v a)
    (H : GenAny P md ops Q S m fuel (listed.setIfInBounds i true) (a.put oi.dst v) w) : GenAny P md ops Q S m (fuel + 1) listed a w :=
  gen_first ht (Region.noSelect_spec hs) him (of_list hi0) fuel listed a w (clear_of_free (of_list hi0) hf) (by simpa using hr) hS hy H

theorem gen_one {i : Nat} {o : Oper} {fuel : Nat} {listed : Array Bool} {a : Act} {w : World} (hr : Region.ready md ops listed = [i]) (hi0 : ops.toList[i]? = some o) (hw : Region.wanted o (yielded ops a.tmps) = true)
    (h : Step P (fun u w' => (i < m → S w') ∧ GenAny P md ops Q S m fuel (listed.setIfInBounds i true) (a.put o.dst u) w') ((execOp a.eval o).run P w)) : GenAny P md ops Q S m (fuel + 1) listed a w :=
  ⟨by rw [hr]; simp, fun j hj => by rw [hr] at hj; obtain rfl : j = i := by simpa using hj
                                    exact ⟨o, of_list hi0, .inl ⟨hw, h⟩⟩⟩

theorem gen_two {i j : Nat} {o o2 : Oper} {fuel : Nat} {listed : Array Bool} {a : Act} {w : World} (hr : Region.ready md ops listed = [i, j]) (hi0 : ops.toList[i]? = some o) (hj0 : ops.toList[j]? = some o2) (hw : Region.wanted o (yielded ops a.tmps) = true) (hw2 : Region.wanted o2 (yielded ops a.tmps) = true)
    (h : Step P (fun u w' => (i < m → S w') ∧ GenAny P md ops Q S m fuel (listed.setIfInBounds i true) (a.put o.dst u) w') ((execOp a.eval o).run P w))
    (h2 : Step P (fun u w' => (j < m → S w') ∧ GenAny P md ops Q S m fuel (listed.setIfInBounds j true) (a.put o2.dst u) w') ((execOp a.eval o2).run P w)) : GenAny P md ops Q S m (fuel + 1) listed a w :=
  ⟨by rw [hr]; simp, fun k hk => by
    rw [hr] at hk
    rcases (show k = i ∨ k = j by simpa using hk) with rfl | rfl
    · exact ⟨o, of_list hi0, .inl ⟨hw, h⟩⟩
    · exact ⟨o2, of_list hj0, .inl ⟨hw2, h2⟩⟩⟩

theorem gen_end {listed : Array Bool} {a : Act} {w : World} (hr : Region.ready md ops listed = []) (h : Q .normal a w) : GenAny P md ops Q S m 0 listed a w := ⟨hr, h⟩

theorem wp_region_gen {id : Nat} {l : List Oper} {a : Act} {w : World} (m : Nat) (hp : P.follows .mixedOrders = true) (hS : S w.drew)
    (h : S w.drew → GenAny P .any l.toArray Q S m l.toArray.size (Array.replicate l.toArray.size false) a w.drew) : (Code.region id l.toArray true).wp P Q a w :=
  wp_region_any hp (GenAny.any _ _ _ _ (h hS))

theorem round_gen {id : Nat} {l : List Oper} {a : Act} {w : World} {n lp : Nat} (m : Nat) (hp : P.follows .mixedOrders = true) (hd : noDefer l = true) (ho : ¬ LetsOut Q) (hS : S w.drew)
    (h : S w.drew → GenAny P .any l.toArray Q S m l.toArray.size (Array.replicate l.toArray.size false) a w.drew) : (Code.region id l.toArray true).wpIn (Fence.wide.inRound lp) n P Q a w :=
  wpIn_region_any hp (wpAny_round hd ho _ _ _ _ (GenAny.any _ _ _ _ (h hS)))

/-- What comes behind, once for all ways. -/
theorem wp_behind {c : Code} {a0 : Act} {w0 : World} {Q : Exit → Act → World → Prop} (F : Act → Act → World → Prop) (h1 : c.wp P (fun e a w => e = .normal ∧ F a0 a w) a0 w0) (h2 : ∀ a w, F a0 a w → Q .normal a w) : c.wp P Q a0 w0 :=
  wp_mono h1 fun e a w ⟨he, hf⟩ => by subst he; exact h2 a w hf
end
end Go.Proofs.Ytbmidmpooooheaa.Drawn
