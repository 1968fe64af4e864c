/- A range over a method value, place by place: what the rounds keep is told by the place that has been reached, and the function that is ranged over may look at it; and regions that draw their order, in a round. -/
import Derived.Test.YtbmidmpooooheaaMarStackR
import Derived.RangeFuncBox
import Derived.RangeFuncLeaves
import Derived.RangeFuncCalls
import Derived.OwnWalkIn
import Derived.TacticsInMore
import Derived.LoopNIn
import Derived.LoopIn
import Derived.Sort.CutIn
import Derived.Maps.AppendAt
set_option maxRecDepth 100000
namespace Go.Proofs.Ytbmidmpooooheaa.Fix
open Go.ChangeShapes Go.WideShapes Go.ChangeAt Go.RowKit
set_option linter.unusedVariables false

/-- How a round may be left: off its end, or by a return. -/
def roundEnd (B : Nat) (K Kx : World → Prop) (W : World) : Exit → Act → World → Prop
  | .normal, _, W' => KeepsFrom B W W' ∧ K W'
  | .ret, _, W' => KeepsFrom B W W' ∧ Kx W'
  | _, _, _ => False

/-- The two blocks that the statement lays for itself. -/
def Held (W : World) (D : Nat) (r : Loop) : Prop := W.heap[D + 1]? = some (.loop r) ∧ W.heap[D]? = some (.deferred (some []))

theorem Held.turn {W : World} {D : Nat} {r : Loop} (h : Held W D r) (r' : Loop) : Held (W.putObj (D + 1) (.loop r')) D r' :=
  ⟨World.putObj_heap_same (Array.getElem?_eq_some_iff.1 h.1).1, (World.putObj_heap_other (by omega)).trans h.2⟩

theorem Held.keep {W W' : World} {D : Nat} {r : Loop} (h : Held W D r) (hk : KeepsFrom D W W') : Held W' D r :=
  ⟨hk.same _ _ (by omega) h.1 rfl, hk.same _ _ (by omega) h.2 rfl⟩

/-- What lies untouched where a block of the statement's own turns. -/
def Calm (B : Nat) (K : World → Prop) : Prop := ∀ W r o o', K W → B ≤ r → W.heap[r]? = some o' → o'.isCells = false → K (W.putObj r o)

theorem range_places {P : Program} {n : Nat} {g : Operand} {ps : Array Tmp} {assign body : Code} {Q : Exit → Act → World → Prop} {a : Act} {w : World}
    {gf : FuncId} {first lb : Array Value} (hg : a.eval g = .func (.func gf) first lb) (eg : ∀ args w, (callFunc gf args).run P w = .ok (.enter gf args) w)
    (N : Nat) (fr : Nat → Bool) (xs : Nat → Array Value) (hps : ∀ i, (xs i).size = ps.size) (K : Nat → World → Prop) (Kx : World → Prop)
    (hK : ∀ i, Calm w.heap.size (K i)) (hKx : Calm w.heap.size Kx) (h0 : ∀ o1 o2, K 0 ((w.alloc o1).alloc o2))
    (hit : ∀ (lp : Nat) (J : Nat → World → Prop) (Jx : World → Prop) (W : World), (∀ i W, J i W → K i W) → (∀ i W, i < N → fr i = true → J i W → J (i + 1) W) →
      (∀ i W, i < N → fr i = false → J i W → YieldAt Fence.wide (n - 1 - 1) P lp (xs i) W fun e W' => (e = .returned (.bool true) ∧ J (i + 1) W') ∨ (e = .returned (.bool false) ∧ Jx W')) → J 0 W →
      CallsIn Fence.wide (n - 1) P gf (first ++ #[.func (.yield lp) #[] #[]] ++ lb) W fun e W' => (∃ v, e = .returned v) ∧ (J N W' ∨ Jx W'))
    (hskip : ∀ i W, i < N → fr i = true → K i W → K (i + 1) W) (upd : Nat → Array Value → Array Value)
    (hassign : ∀ (l i : Nat) (W : World) (G : Act → World → Prop), i < N → G { tmps := upd i a.tmps, defers := [] } W →
      assign.wpIn (Fence.wide.inRound l) (n - 1 - 1) P (Exit.then G (fun _ _ _ => False)) { tmps := (ps.zip (xs i)).foldl (fun t (p, v) => t.setIfInBounds p v) a.tmps, defers := [] } W)
    (hbody : ∀ (l i : Nat) (W : World), i < N → fr i = false → K i W → body.wpIn (Fence.wide.inRound l) (n - 1 - 1) P (roundEnd w.heap.size (K (i + 1)) Kx W) { tmps := upd i a.tmps, defers := [] } W)
    (hdone : ∀ (D : Nat) (W : World), w.heap.size ≤ D → K N W → W.heap[D]? = some (.deferred (some [])) → Q .normal { a with defers := { target := .collected D, args := #[] } :: a.defers } W)
    (hstop : ∀ (D : Nat) (W : World), w.heap.size ≤ D → Kx W → W.heap[D]? = some (.deferred (some [])) → Code.ret.wpIn Fence.wide n P Q { a with defers := { target := .collected D, args := #[] } :: a.defers } W) :
    (Code.rangeFunc g ps assign body).wpIn Fence.wide n P Q a w := by
  refine wpIn_rangeFunc fun fn _ => ?_
  let L : LoopState → Option Code → Loop := fun s p => { state := s, pending := p, fn := fn, tmps := a.tmps, params := ps, assign := assign, body := body, defers := w.heap.size }
  have hH : Held ((w.alloc (.deferred (some []))).alloc (.loop (L .ready none))) w.heap.size (L .ready none) := by
    have e := At.new (w.alloc (.deferred (some []))) (.loop (L .ready none))
    rw [World.size_alloc] at e
    exact ⟨e, (At.new w (.deferred (some []))).alloc _⟩
  generalize hW : (w.alloc (.deferred (some []))).alloc (.loop (L .ready none)) = W1 at hH
  have h1 : K 0 W1 := hW ▸ h0 _ _
  refine ⟨w.heap.size + 1, [{ target := .collected w.heap.size, args := #[] }], W1, { target := .fn (.func gf) lb, args := first ++ #[.func (.yield (w.heap.size + 1)) #[] #[]] }, W1, gf,
    first ++ #[.func (.yield (w.heap.size + 1)) #[] #[]] ++ lb, W1, ?_, ?_, fun _ _ => trivial, ?_, fun hd => (by simp [Fence.wide] at hd), ?_⟩
  · rw [← hW]; exact run_enterLoop_outer fn _ _ _ _
  · simp only [resolve, hg]
    simp [go_sem]
  · simp [invoke, go_sem, eg]
  refine (hit (w.heap.size + 1) (fun i W => K i W ∧ Held W w.heap.size (L .ready none)) (fun W => Kx W ∧ Held W w.heap.size (L .done (some .ret))) _ (fun _ _ h => h.1) (fun i W hi hf h => ⟨hskip i W hi hf h.1, h.2⟩) ?round ⟨h1, hH⟩).mono ?behind
  case round =>
    rintro i W hi hf ⟨hk, hh⟩
    refine ⟨fn, _, assign, body, run_yield hh.1 (hps i), roundIn_of_wpIn trivial (hassign _ i W _ hi ⟨_, run_beginRound hh.1 rfl, ?_⟩)⟩
    have hb := hh.turn (L .busy none)
    refine wpIn_mono (hbody _ i _ hi hf (hK i _ _ _ _ hk (by omega) hh.1 rfl)) ?_
    intro e _ W3 hp
    cases e with
    | normal =>
      have h3 := hb.keep hp.1
      exact ⟨_, _, run_endRound none h3.1, .inl ⟨rfl, hK _ _ _ _ _ hp.2 (by omega) h3.1 rfl, h3.turn _⟩⟩
    | ret =>
      have h3 := hb.keep hp.1
      exact ⟨_, _, run_endRound (some .ret) h3.1, .inr ⟨rfl, hKx _ _ _ _ hp.2 (by omega) h3.1 rfl, h3.turn _⟩⟩
    | exit _ => exact hp.elim
    | goto _ => exact hp.elim
    | panic _ => exact hp.elim
    | outgrown => exact hp.elim
  case behind =>
    rintro e W2 ⟨⟨v, rfl⟩, ⟨hk, hh⟩ | ⟨hk, hh⟩⟩
    · exact ⟨none, _, run_endLoop hh.1 (by simp [L]), hdone _ _ (Nat.le_refl _) (hK _ _ _ _ _ hk (by omega) hh.1 rfl) (hh.turn _).2⟩
    · exact ⟨some .ret, _, run_endLoop hh.1 (by simp [L]), hstop _ _ (Nat.le_refl _) (hKx _ _ _ _ hk (by omega) hh.1 rfl) (hh.turn _).2⟩

/-! A region that draws its order, in a round of a range over a function: as elsewhere. -/

theorem notDefer (o : Oper) (h : (match o.op with | .defer _ => false | _ => true) = true) : ∀ c, o.op ≠ .defer c := by
  intro c hc; rw [hc] at h; cases h

theorem upon_round {P : Program} {o : Oper} {a : Act} {n l : Nat} {K : Act → World → Prop} {Q : Exit → Act → World → Prop} {r : Result Next} (h : o.upon P a K Q r) : o.uponIn (Fence.wide.inRound l) n P a K Q r := by
  cases r with
  | ok x w' =>
    cases x <;> simp only [Oper.upon, Oper.uponIn] at h ⊢ <;> first
      | exact h
      | exact ⟨fun hd => (by simp [Fence.wide] at hd), CallsIn.inRound l (callsIn_wide.2 h)⟩
      | (refine ⟨fun hd => (by simp [Fence.wide] at hd), fun c cs _ => ?_⟩
         obtain ⟨v, w'', hr, hs⟩ := h c cs
         exact ⟨v, w'', hr, stepsIn_wide.2 hs⟩)
  | halt x w' => cases x <;> simp only [Oper.upon, Oper.uponIn] at h ⊢ <;> exact h

theorem wp_round {P : Program} {o : Oper} {a : Act} {w : World} {n l : Nat} {K : Act → World → Prop} {Q : Exit → Act → World → Prop} (hd : ∀ c, o.op ≠ .defer c) (h : o.wp P a w K Q) : o.wpIn (Fence.wide.inRound l) n P a w K Q :=
  ⟨fun _ _ => trivial, by
    rw [show (Fence.wide.inRound l).round = some l from rfl, Oper.semAt_some l _ _ hd]
    exact upon_round h⟩

end Go.Proofs.Ytbmidmpooooheaa.Fix
