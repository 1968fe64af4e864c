/- A range over a function, a round of which may leave by a break. Written by genpabrk.py. -/
import Derived.Test.YtbmidmpooooheaaPaOwn
set_option maxRecDepth 100000
namespace Go.Proofs.Ytbmidmpooooheaa.Fix
open Go.ChangeShapes Go.WideShapes Go.ChangeAt Go.RowKit
set_option linter.unusedVariables false

/-- how a round may be left -/
def roundBrk (id : Nat) (K : Nat → (Nat → Prop) → World → Prop) (Kx : (Nat → Prop) → World → Prop) (i : Nat) (S : Nat → Prop) (W : World) : Exit → Act → World → Prop
  | .normal, _, W' => ∃ S', Went S S' W W' ∧ K (i + 1) S' W'
  | .exit j, _, W' => j = id ∧ ∃ S', Went S S' W W' ∧ Kx S' W'
  | _, _, _ => False

theorem range_brk {id : Nat} {P : Program} {n : Nat} {g : Operand} {ps : Array Tmp} {assign body : Code} {Q : Exit → Act → World → Prop} {a : Act} {w : World}
    {gf : FuncId} {first lb : Array Value} (hg : a.eval g = .func (.func gf) first lb) (eg : ∀ args w, (callFunc gf args).run P w = .ok (.enter gf args) w)
    (N : Nat) (xs : Nat → Array Value) (hps : ∀ i, (xs i).size = ps.size) (K : Nat → (Nat → Prop) → World → Prop) (Kx : (Nat → Prop) → World → Prop)
    (K2 : Nat → (Nat → Prop) → World → Prop) (hK : Stab K) (hK2 : Stab K2) (hKx : StabX Kx) (S0 : Nat → Prop) (hS0 : ∀ b, S0 b → b < w.heap.size) (h0 : K 0 S0 w)
    (hit : ∀ (lp : Nat) (J : Nat → (Nat → Prop) → World → Prop) (Jx : (Nat → Prop) → World → Prop) (S1 : Nat → Prop) (W1 : World), Below w.heap.size w W1 → (∀ b, S1 b → (S0 b ∨ w.heap.size ≤ b) ∧ b < W1.heap.size) → Stab J → StabX Jx →
      (∀ m i S W, i < N → J i S W → YieldAt Fence.wide m P lp (xs i) W (YPost J Jx i S W)) → J 0 S1 W1 →
      CallsIn Fence.wide (n - 1) P gf (first ++ #[.func (.yield lp) #[] #[]] ++ lb) W1 (IPost J Jx N S1 W1))
    (upd : Nat → Array Value → Array Value)
    (hassign : ∀ (l m i : Nat) (S : Nat → Prop) (W : World) (G : Act → World → Prop), i < N → K i S W → (∀ W', Went S S W W' → K2 i S W' → G { tmps := upd i a.tmps, defers := [] } W') →
      assign.wpIn (Fence.wide.inRound l) m P (Exit.then G (fun _ _ _ => False)) { tmps := (ps.zip (xs i)).foldl (fun t (p, v) => t.setIfInBounds p v) a.tmps, defers := [] } W)
    (hbody : ∀ (l m i : Nat) (S : Nat → Prop) (W : World), i < N → K2 i S W → body.wpIn (Fence.wide.inRound l) m P (roundBrk id K Kx i S W) { tmps := upd i a.tmps, defers := [] } W)
    (hdone : ∀ (D : Nat) (S : Nat → Prop) (W : World), w.heap.size ≤ D → Went S0 S w W → ¬ S D → K N S W → W.heap[D]? = some (.deferred (some [])) → Q .normal { a with defers := { target := .collected D, args := #[] } :: a.defers } W)
    (hstop : ∀ (D : Nat) (S : Nat → Prop) (W : World), w.heap.size ≤ D → Went S0 S w W → ¬ S D → Kx S W → W.heap[D]? = some (.deferred (some [])) → (Code.exit id).wpIn Fence.wide n P Q { a with defers := { target := .collected D, args := #[] } :: a.defers } W) :
    (Code.rangeFunc g ps assign body).wpIn Fence.wide n P Q a w := by
  refine wpIn_rangeFunc fun fn _ => ?_
  let L : LoopState → Option Code → Loop := fun s p => { state := s, pending := p, fn := fn, tmps := a.tmps, params := ps, assign := assign, body := body, defers := w.heap.size }
  have hH : Held ((w.alloc (.deferred (some []))).alloc (.loop (L .ready none))) w.heap.size (L .ready none) := by
    have e := At.new (w.alloc (.deferred (some []))) (.loop (L .ready none))
    rw [World.size_alloc] at e
    exact ⟨e, (At.new w (.deferred (some []))).alloc _⟩
  have hsz : ((w.alloc (.deferred (some []))).alloc (.loop (L .ready none))).heap.size = w.heap.size + 2 := by simp
  have hbl : Below w.heap.size w ((w.alloc (.deferred (some []))).alloc (.loop (L .ready none))) := Below.alloc' (Below.alloc' (Below.refl _ _) _) _
  generalize hW : (w.alloc (.deferred (some []))).alloc (.loop (L .ready none)) = W1 at hH hsz hbl
  -- what the rounds keep, and the two blocks of the statement
  let B2 : (Nat → Prop) → (Nat → Prop) → Prop := fun S S1 => (∀ b, S b ↔ S1 b ∨ b = w.heap.size ∨ b = w.heap.size + 1) ∧ (∀ b, S1 b → b ≠ w.heap.size ∧ b ≠ w.heap.size + 1)
  let J : Nat → (Nat → Prop) → World → Prop := fun i S W => ∃ S1, B2 S S1 ∧ K i S1 W ∧ Held W w.heap.size (L .ready none)
  let Jx : (Nat → Prop) → World → Prop := fun S W => ∃ S1, B2 S S1 ∧ Kx S1 W ∧ Held W w.heap.size (L .done (some (.exit id)))
  have hHeld : ∀ (S S1 M : Nat → Prop) (W W' : World) (r : Loop), B2 S S1 → Held W w.heap.size r → Out M W W' → (∀ b, S b → ¬ M b) → Held W' w.heap.size r := fun S S1 M W W' r hB hh ho hm =>
    ⟨(show At W _ _ from hh.1).out (hm _ ((hB.1 _).2 (.inr (.inr rfl)))) ho, (show At W _ _ from hh.2).out (hm _ ((hB.1 _).2 (.inr (.inl rfl)))) ho⟩
  have hJ : Stab J := fun i S M W W' ⟨S1, hB, hk, hh⟩ ho hm => ⟨S1, hB, hK i S1 M W W' hk ho (fun b hb => hm b ((hB.1 b).2 (.inl hb))), hHeld S S1 M W W' _ hB hh ho hm⟩
  have hJx : StabX Jx := fun S M W W' ⟨S1, hB, hk, hh⟩ ho hm => ⟨S1, hB, hKx S1 M W W' hk ho (fun b hb => hm b ((hB.1 b).2 (.inl hb))), hHeld S S1 M W W' _ hB hh ho hm⟩
  -- from what the statement's blocks are part of to what was there
  have hWent : ∀ (S S1 : Nat → Prop) (W W' : World), B2 S S1 → Went (fun b => S0 b ∨ b = w.heap.size ∨ b = w.heap.size + 1) S W1 W' → Out (fun b => b = w.heap.size + 1) W' W → Went S0 S1 w W := fun S S1 W W' hB hw ho => by
    have e1 := hbl.size
    have e2 := hw.1.size
    have e3 := ho.size
    refine ⟨⟨(Below.mono hbl (Nat.zero_le _)).trans (hw.1.1.trans ho.1), fun b hb hm => ?_⟩, fun b hb => ?_⟩
    · rw [ho.2 b (by omega) (by simp; omega), hw.1.2 b (by omega) (fun q => q.elim hm (by omega)), hbl.block b hb]
    · have hb2 := hB.2 b hb
      rcases hw.2 b ((hB.1 b).2 (.inl hb)) with (q | q | q) | q
      · exact .inl q
      · exact absurd q hb2.1
      · exact absurd q hb2.2
      · exact .inr ⟨by omega, by omega⟩
  have hB0 : B2 (fun b => S0 b ∨ b = w.heap.size ∨ b = w.heap.size + 1) S0 := ⟨fun b => Iff.rfl, fun b hb => by have := hS0 b hb; omega⟩
  refine ⟨w.heap.size + 1, [{ target := .collected w.heap.size, args := #[] }], W1, { target := .fn (.func gf) lb, args := first ++ #[.func (.yield (w.heap.size + 1)) #[] #[]] }, W1, gf,
    first ++ #[.func (.yield (w.heap.size + 1)) #[] #[]] ++ lb, W1, ?_, ?_, fun _ _ => trivial, ?_, fun hd => (by simp [Fence.wide] at hd), ?_⟩
  · rw [← hW]; exact run_enterLoop_outer fn _ _ _ _
  · simp only [resolve, hg]
    simp [go_sem]
  · simp [invoke, go_sem, eg]
  refine (hit (w.heap.size + 1) J Jx (fun b => S0 b ∨ b = w.heap.size ∨ b = w.heap.size + 1) W1 hbl (fun b hb => ?s1) hJ hJx ?round ⟨S0, hB0, hK 0 S0 (fun _ => False) w W1 h0 (Out.of_below hbl) (fun _ _ q => q), hH⟩).mono ?behind
  case s1 =>
    rcases hb with hb | hb | hb
    · have := hS0 b hb; exact ⟨.inl hb, by omega⟩
    · exact ⟨.inr (by omega), by omega⟩
    · exact ⟨.inr (by omega), by omega⟩
  case round =>
    rintro m i S W0 hi ⟨S1, hB, hk0, hh0⟩
    have hold : ∀ W, Went S1 S1 W0 W → Held W w.heap.size (L .ready none) := fun W hwa => ⟨(show At W0 _ _ from hh0.1).out (fun q => (hB.2 _ q).2 rfl) hwa.1, (show At W0 _ _ from hh0.2).out (fun q => (hB.2 _ q).1 rfl) hwa.1⟩
    have pre : ∀ W S' X, Went S1 S1 W0 W → Went S S' W X → Went S S' W0 X := fun W S' X h k => Went.trans (S' := S) ⟨h.1.mono fun b _ q => (hB.1 b).2 (.inl q), fun b hb => .inl hb⟩ k
    refine ⟨fn, _, assign, body, run_yield hh0.1 (hps i), roundIn_of_wpIn trivial (hassign _ _ i S1 W0 _ hi hk0 fun W hwa hk => ⟨_, run_beginRound (hold W hwa).1 rfl, ?_⟩)⟩
    have hh := hold W hwa
    have hb := hh.turn (L .busy none)
    have ho := Out.putObj W (w.heap.size + 1) (.loop (L .busy none))
    have hk1 := hK2 i S1 _ _ _ hk ho (fun b hb q => (hB.2 b hb).2 q)
    have hlt1 : w.heap.size + 1 < W.heap.size := (Array.getElem?_eq_some_iff.1 hh.1).1
    refine wpIn_mono (hbody _ _ i S1 _ hi hk1) ?_
    intro e _ W3 hp
    have hszp : (W.putObj (w.heap.size + 1) (.loop (L .busy none))).heap.size = W.heap.size := by simp
    have fin : ∀ (S' : Nat → Prop) (s : LoopState) (p : Option Code), Went S1 S' (W.putObj (w.heap.size + 1) (.loop (L .busy none))) W3 →
        Held W3 w.heap.size (L .busy none) ∧ B2 (fun b => S' b ∨ b = w.heap.size ∨ b = w.heap.size + 1) S' ∧ Went S (fun b => S' b ∨ b = w.heap.size ∨ b = w.heap.size + 1) W (W3.putObj (w.heap.size + 1) (.loop (L s p))) := fun S' s p hw => by
      have hz := hw.1.size
      refine ⟨⟨(show At _ _ _ from hb.1).out (fun q => (hB.2 _ q).2 rfl) hw.1, (show At _ _ _ from hb.2).out (fun q => (hB.2 _ q).1 rfl) hw.1⟩, ⟨fun b => Iff.rfl, fun b hb => ?_⟩, ?_, fun b hb => ?_⟩
      · rcases hw.2 b hb with q | q
        · exact hB.2 b q
        · omega
      · have o1 : Out S W (W.putObj (w.heap.size + 1) (.loop (L .busy none))) := ho.mono fun b _ e => by subst e; exact (hB.1 _).2 (.inr (.inr rfl))
        have o2 : Out S (W.putObj (w.heap.size + 1) (.loop (L .busy none))) W3 := hw.1.mono fun b _ e => (hB.1 b).2 (.inl e)
        have o3 : Out S W3 (W3.putObj (w.heap.size + 1) (.loop (L s p))) := (Out.putObj W3 (w.heap.size + 1) (.loop (L s p))).mono fun b _ e => by subst e; exact (hB.1 _).2 (.inr (.inr rfl))
        exact (o1.trans o2).trans o3
      · rcases hb with hb | hb
        · rcases hw.2 b hb with q | q
          · exact .inl ((hB.1 b).2 (.inl q))
          · exact .inr ⟨by omega, by simp; omega⟩
        · exact .inl ((hB.1 b).2 (.inr hb))
    cases e with
    | normal =>
      obtain ⟨S', hw, hk3⟩ := hp
      obtain ⟨h3, hb3, hw3⟩ := fin S' .ready none hw
      exact ⟨_, _, run_endRound none h3.1, _, pre _ _ _ hwa hw3, .inl ⟨rfl, S', hb3, hK _ _ _ _ _ hk3 (Out.putObj W3 _ _) (fun b hb q => (hb3.2 b hb).2 q), h3.turn _⟩⟩
    | exit j =>
      obtain ⟨hj, S', hw, hk3⟩ := hp
      subst hj
      obtain ⟨h3, hb3, hw3⟩ := fin S' .done (some (.exit j)) hw
      exact ⟨_, _, run_endRound (some (.exit j)) h3.1, _, pre _ _ _ hwa hw3, .inr ⟨rfl, S', hb3, hKx _ _ _ _ hk3 (Out.putObj W3 _ _) (fun b hb q => (hb3.2 b hb).2 q), h3.turn _⟩⟩
    | ret => exact hp.elim
    | goto _ => exact hp.elim
    | panic _ => exact hp.elim
    | outgrown => exact hp.elim
  case behind =>
    rintro e W2 ⟨⟨v, rfl⟩, S, hw, ⟨S1, hB, hk, hh⟩ | ⟨S1, hB, hk, hh⟩⟩
    · have ho := Out.putObj W2 (w.heap.size + 1) (.loop (L .exhausted none))
      exact ⟨none, _, run_endLoop hh.1 (by simp [L]), hdone _ S1 _ (Nat.le_refl _) (hWent S S1 _ W2 hB hw (Out.putObj W2 _ _)) (fun q => (hB.2 _ q).1 rfl) (hK _ _ _ _ _ hk (Out.putObj W2 _ _) (fun b hb q => (hB.2 b hb).2 q)) (hh.turn _).2⟩
    · exact ⟨some (.exit id), _, run_endLoop hh.1 (by simp [L]), hstop _ S1 _ (Nat.le_refl _) (hWent S S1 _ W2 hB hw (Out.putObj W2 _ _)) (fun q => (hB.2 _ q).1 rfl) (hKx _ _ _ _ hk (Out.putObj W2 _ _) (fun b hb q => (hB.2 b hb).2 q)) (hh.turn _).2⟩

end Go.Proofs.Ytbmidmpooooheaa.Fix
