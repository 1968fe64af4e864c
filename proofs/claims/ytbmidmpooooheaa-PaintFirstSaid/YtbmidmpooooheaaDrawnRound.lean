/- Regions that draw their order, in a round of a range over a function: by the same laws as elsewhere. -/
import Derived.Test.YtbmidmpooooheaaFlexIter
import Derived.Test.YtbmidmpooooheaaDrawnAt
import Derived.Test.YtbmidmpooooheaaDrawnFast
set_option maxRecDepth 100000
namespace Go.Proofs.Ytbmidmpooooheaa.Drawn
open Go Fix
section
variable {P : Program} {ops : Array Oper} {Q : Exit → Act → World → Prop} {md : Region.Mode} {S : World → Prop}

def noDefer (l : List Oper) : Bool := l.all fun o => match o.op with | .defer _ => false | _ => true

theorem noDefer_spec {l : List Oper} (h : noDefer l = true) {i : Nat} {o : Oper} (ho : l.toArray[i]? = some o) : ∀ c, o.op ≠ .defer c := by
  have hm : o ∈ l := by
    have := Array.mem_of_getElem? ho
    simpa using this
  exact notDefer o (List.all_eq_true.1 h o hm)

theorem wpOp_round {l : List Oper} {n lp i : Nat} {K : Act → World → Prop} {a : Act} {w : World} (hd : noDefer l = true) (ho : ¬ LetsOut Q) (h : wpOp P l.toArray Q i K a w) : wpOpIn (Fence.wide.inRound lp) n P l.toArray Q i K a w := by
  unfold Go.wpOp at h
  unfold Go.wpOpIn
  cases hi : l.toArray[i]? with
  | none => simpa [hi] using h
  | some o =>
    simp only [hi] at h ⊢
    split at h
    · rename_i hw
      simp only [hw, if_true]
      exact wp_round (noDefer_spec hd hi) (h.resolve_right fun h2 => ho h2.2)
    · rename_i hw
      simp only [hw, Bool.false_eq_true, if_false]
      exact ⟨fun _ _ => trivial, h⟩

theorem wpAny_round {l : List Oper} {n lp : Nat} (hd : noDefer l = true) (ho : ¬ LetsOut Q) : ∀ (fuel : Nat) (listed : Array Bool) (a : Act) (w : World), wpAny P md l.toArray Q fuel listed a w → wpAnyIn (Fence.wide.inRound lp) n P md l.toArray Q fuel listed a w
  | 0, _, _, _, h => h
  | fuel + 1, _, _, _, h => ⟨h.1, fun i hi => wpOpIn_mono (fun a w => wpAny_round hd ho fuel _ a w) (wpOp_round hd ho (h.2 i hi))⟩

theorem round_text {id : Nat} {l : List Oper} {a : Act} {w : World} {n lp : Nat} (m t : Nat) (S : World → Prop) (hp : P.follows .mixedOrders = true) (hs : Region.noSelect l.toArray = true)
    (hl : l.length = m + t) (ht : tailWaits .any l.toArray m = true) (hk : textOk .any l.toArray t m 0 (Array.replicate l.length false) = true) (hd : noDefer l = true) (ho : ¬ LetsOut Q) (hS : S w.drew) (h : DetSeq P l.toArray Q S m l a) : (Code.region id l.toArray true).wpIn (Fence.wide.inRound lp) n P Q a w :=
  wpIn_region_any hp (wpAny_round hd ho _ _ _ _ (by
    have h1 := DetAny.any (Q := Q) (tf := t) m (Array.replicate l.length false) a (seq_any (md := .any) (Q := Q) (m := m) (t := t) hs ht (by simpa using hl) m l 0 (Array.replicate l.length false) a (by simp) (by omega) (fun q hq => by omega) hk h) _ hS
    have e : l.toArray.size = t + m := by simp; omega
    rw [e]
    have e2 : Array.replicate (t + m) false = Array.replicate l.length false := by rw [hl, Nat.add_comm]
    rw [e2]; exact h1))

theorem tail_none (l : List Oper) : tailWaits .any l.toArray l.length = true := by
  unfold tailWaits
  rw [List.all_eq_true]
  intro j hj
  have : j < l.length := by simpa using hj
  simp [this]

theorem round_from {id : Nat} {l : List Oper} {a : Act} {W0 w : World} {n lp : Nat} (h0 : RowKit.Below W0.heap.size W0 w) (hp : P.follows .mixedOrders = true) (hs : Region.noSelect l.toArray = true)
    (hk : textOk .any l.toArray 0 l.length 0 (Array.replicate l.length false) = true) (hd : noDefer l = true) (ho : ¬ LetsOut Q) (h : DetSeq P l.toArray Q (fun w' => RowKit.Below W0.heap.size W0 w') l.length l a) : (Code.region id l.toArray true).wpIn (Fence.wide.inRound lp) n P Q a w :=
  round_text l.length 0 _ hp hs (by simp) (tail_none l) hk hd ho h0.drew h

theorem round_tail {id : Nat} {l : List Oper} {a : Act} {W0 w : World} {n lp : Nat} (m t : Nat) (h0 : RowKit.Below W0.heap.size W0 w) (hp : P.follows .mixedOrders = true) (hs : Region.noSelect l.toArray = true)
    (hl : l.length = m + t) (ht : tailWaits .any l.toArray m = true) (hk : textOk .any l.toArray t m 0 (Array.replicate l.length false) = true) (hd : noDefer l = true) (ho : ¬ LetsOut Q) (h : DetSeq P l.toArray Q (fun w' => RowKit.Below W0.heap.size W0 w') m l a) : (Code.region id l.toArray true).wpIn (Fence.wide.inRound lp) n P Q a w :=
  round_text m t _ hp hs hl ht hk hd ho h0.drew h

theorem round_fast {id : Nat} {l : List Oper} {a : Act} {W0 w : World} {n lp : Nat} (h0 : RowKit.Below W0.heap.size W0 w) (hp : P.follows .mixedOrders = true) (hs : Region.noSelect l.toArray = true)
    (hk : pairsOk .any l.toArray 0 l = true) (hd : noDefer l = true) (ho : ¬ LetsOut Q) (h : DetSeq P l.toArray Q (fun w' => RowKit.Below W0.heap.size W0 w') l.length l a) : (Code.region id l.toArray true).wpIn (Fence.wide.inRound lp) n P Q a w :=
  wpIn_region_any hp (wpAny_round hd ho _ _ _ _ (by
    have h1 := DetAny.any (Q := Q) (tf := 0) l.length (Array.replicate l.length false) a (fast_any (md := .any) (Q := Q) (m := l.length) hs (tail_none l) (by simp) l.length l 0 (Array.replicate l.length false) a (by simp) (by omega) (by simp) (fun q hq => by omega) (fun q _ hq => by simp [hq]) hk h) _ h0.drew
    have e : l.toArray.size = 0 + l.length := by simp
    rw [e]
    have e2 : Array.replicate (0 + l.length) false = Array.replicate l.length false := by rw [Nat.zero_add]
    rw [e2]; exact h1))

theorem round_alloc {id : Nat} {l : List Oper} {a : Act} {W0 w : World} {x : Obj} {norm tail : List Oper} {so : Oper} {n lp : Nat} (L : List Nat) (s m : Nat) (h0 : RowKit.Below W0.heap.size W0 w) (hp : P.follows .mixedOrders = true) (hs : Region.noSelect l.toArray = true)
    (hso : l.toArray[s]? = some so) (htl : l.drop m = tail) (hL : L.map (fun i => l.toArray[i]?) = norm.map some) (hn : l.length = tail.length + (L.length + 1))
    (hq : ((List.range m).all fun q => L.contains q || q == s) && decide (s < m) = true) (ht : tailWaits .any l.toArray m = true)
    (hk : ordOk .any l.toArray s m tail.length L (Array.replicate l.length false) = true)
    (hsp : ∀ (a : Act) (w : World), RowKit.Below W0.heap.size W0 w → Region.wanted so (yielded l.toArray a.tmps) = true ∧ (execOp a.eval so).run P w = .ok (.value (.pointer (some ⟨w.heap.size, 0, none⟩))) (w.alloc x))
    (hd : noDefer l = true) (ho : ¬ LetsOut Q)
    (h : DetSeqB P l.toArray Q (fun w' => RowKit.Below W0.heap.size W0 w') (Made W0 x) so tail norm a) : (Code.region id l.toArray true).wpIn (Fence.wide.inRound lp) n P Q a w := by
  refine wpIn_region_any hp (wpAny_round hd ho _ _ _ _ ?_)
  simp only [Bool.and_eq_true, List.all_eq_true, List.mem_range, Bool.or_eq_true, List.contains_iff_mem, beq_iff_eq, decide_eq_true_eq] at hq
  have hspec : Special P l.toArray (fun w' => RowKit.Below W0.heap.size W0 w') (Made W0 x) so := fun a w hb => by
    obtain ⟨hw, hr⟩ := hsp a w hb
    exact ⟨hw, _, _, hr, w.heap.size, rfl, hb.size, At.new _ _, Below.alloc' hb _⟩
  have h1 := DetAnyB.any (Q := Q) (tf := tail.length) hso hspec (stable_below W0) (stable_made W0 x) (fun v w ⟨_, _, _, _, hb⟩ => hb) (L.length + 1) (Array.replicate l.length false) a none
    (seq_anyB (md := .any) (Q := Q) hs ht hso hq.2 (by simpa using htl) rfl norm L (Array.replicate l.length false) a hL (fun q hqm hqL hqs => by
      rcases hq.1 q hqm with h' | h'
      · exact absurd h' hqL
      · exact absurd h' hqs) hk h) w.drew h0.drew
  have e : l.toArray.size = tail.length + (L.length + 1) := by simpa using hn
  have e2 : Array.replicate (tail.length + (L.length + 1)) false = Array.replicate l.length false := by rw [hn]
  rw [e, e2]; exact h1

end
end Go.Proofs.Ytbmidmpooooheaa.Drawn
