/- A long region that draws its order: the check that the order of the text serves, by pairs. -/
import Derived.Test.YtbmidmpooooheaaDrawn
set_option maxRecDepth 100000
namespace Go.Proofs.Ytbmidmpooooheaa.Drawn
open Go
section
variable {P : Program} {ops : Array Oper} {Q : Exit → Act → World → Prop} {md : Region.Mode} {S : World → Prop}

/-- Each that is left waits for number i, or is apart from it. -/
def later (md : Region.Mode) (ops : Array Oper) (i : Nat) (oi : Oper) : List Oper → Bool
  | [] => true
  | oj :: r => (oj.after.any (fun e => Region.binds md e && e.on == i) || oi.apart ops oj) && later md ops i oi r

/-- The order of the text serves: each waits only for those ahead of it, and is apart from all behind it that don't wait for it. -/
def pairsOk (md : Region.Mode) (ops : Array Oper) : Nat → List Oper → Bool
  | _, [] => true
  | i, o :: r => (o.after.all (fun e => !Region.binds md e || Nat.blt e.on i) && later md ops i o r) && pairsOk md ops (i + 1) r

theorem later_spec {i : Nat} {oi : Oper} : ∀ {l : List Oper}, later md ops i oi l = true → ∀ (k : Nat) (oj : Oper), l[k]? = some oj → (∃ e ∈ oj.after, Region.binds md e = true ∧ e.on = i) ∨ oi.apart ops oj = true
  | [], _, k, oj, hk => by simp at hk
  | o :: r, h, k, oj, hk => by
      simp only [later, Bool.and_eq_true, Bool.or_eq_true] at h
      cases k with
      | zero =>
        simp only [List.getElem?_cons_zero, Option.some.injEq] at hk
        subst hk
        rcases h.1 with h1 | h1
        · obtain ⟨e, he, hb⟩ := Array.any_eq_true'.1 h1
          simp only [Bool.and_eq_true, beq_iff_eq] at hb
          exact .inl ⟨e, he, hb.1, hb.2⟩
        · exact .inr h1
      | succ k => exact later_spec h.2 k oj (by simpa using hk)

theorem getD_flip {q : Nat} {listed : Array Bool} (h : listed.getD q false = true) : listed.getD q true = true := by
  rcases Nat.lt_or_ge q listed.size with h' | h'
  · simp [h'] at h ⊢; exact h
  · simp [Array.getElem?_eq_none h']

theorem fast_any {m : Nat} (hs : Region.noSelect ops = true) (ht : tailWaits md ops m = true) (hm : ops.toList.length = m) : ∀ (k : Nat) (os : List Oper) (i : Nat) (listed : Array Bool) (a : Act), ops.toList.drop i = os → i + k = m → listed.size = m →
    (∀ q, q < i → listed.getD q false = true) → (∀ q, i ≤ q → q < m → listed.getD q true = false) → pairsOk md ops i os = true →
    DetSeq P ops Q S k os a → DetAny P md ops S m (fun listed a => ∀ w, S w → wpAny P md ops Q 0 listed a w) k listed a
  | 0, os, i, listed, a, hd, hi, hz, hl, hl', hk, h => by
      have hlen : os = [] := by rw [← hd]; exact List.drop_eq_nil_of_le (by omega)
      subst hlen
      refine ⟨fun q hq => ?_, fun w hS => ?_⟩
      · exact getD_flip (hl q (by omega))
      · refine tail_any (P := P) (Q := Q) [] i listed a w hd ?_ (h w hS)
        show (Region.ready md ops listed).isEmpty = true
        rw [List.isEmpty_iff]
        refine List.eq_nil_iff_forall_not_mem.2 fun q hq => ?_
        obtain ⟨hun, o, ho, _⟩ := mem_ready.1 hq
        have hq' : q < ops.size := (Array.getElem?_eq_some_iff.1 ho).1
        have := hl q (by have : ops.size = m := by simpa using hm
                         omega)
        exact not_listed hun this
  | k + 1, [], i, listed, a, _, _, _, _, _, _, h => h.elim
  | k + 1, o :: os, i, listed, a, hd, hi, hz, hl, hl', hk, ⟨v, hy, hn⟩ => by
      simp only [pairsOk, Bool.and_eq_true] at hk
      obtain ⟨⟨he, hlat⟩, hk⟩ := hk
      obtain ⟨ho, hd'⟩ := drop_cons hd
      have him : i < m := by omega
      have hr : i ∈ Region.ready md ops listed := mem_ready.2 ⟨hl' i (Nat.le_refl _) him, o, ho, fun e hm hb => by
        have h1 := Array.all_eq_true_iff_forall_mem.1 he e hm
        simp only [hb, Bool.not_true, Bool.false_or] at h1
        exact hl _ (by simpa [Nat.blt_eq] using h1)⟩
      have hc : Clear md ops listed i o := fun j oj hj hji hun => by
        have hji' : i < j := by
          rcases Nat.lt_trichotomy i j with h' | h' | h'
          · exact h'
          · exact absurd h'.symm hji
          · exact (not_listed hun (hl j h')).elim
        refine later_spec hlat (j - (i + 1)) oj ?_
        rw [← hd', List.getElem?_drop, show i + 1 + (j - (i + 1)) = j by omega]
        simpa using hj
      refine det_first ht him ho (Region.noSelect_spec hs) k listed a hc hr hy ?_
      refine fast_any hs ht hm k os (i + 1) _ _ hd' (by omega) (by simpa using hz) ?_ ?_ hk hn
      · intro q hq
        by_cases hqi : q = i
        · subst hqi
          simp [show q < listed.size by omega]
        · have := hl q (by omega)
          rw [getD_set_ne false (Ne.symm hqi)]; exact this
      · intro q hq hqm
        rw [getD_set_ne true (by omega)]; exact hl' q (by omega) hqm

theorem wp_region_fast {id : Nat} {l : List Oper} {a : Act} {W0 w : World} (h0 : RowKit.Below W0.heap.size W0 w) (hp : P.follows .mixedOrders = true) (hs : Region.noSelect l.toArray = true)
    (hk : pairsOk .any l.toArray 0 l = true) (h : DetSeq P l.toArray Q (fun w' => RowKit.Below W0.heap.size W0 w') l.length l a) : (Code.region id l.toArray true).wp P Q a w :=
  wp_region_any hp (by
    have ht : tailWaits .any l.toArray l.length = true := by
      unfold tailWaits
      rw [List.all_eq_true]
      intro j hj
      have : j < l.length := by simpa using hj
      simp [this]
    have h1 := DetAny.any (Q := Q) (tf := 0) l.length (Array.replicate l.length false) a (fast_any (md := .any) (Q := Q) (m := l.length) hs ht (by simp) l.length l 0 (Array.replicate l.length false) a (by simp) (by omega) (by simp) (fun q hq => by omega) (fun q _ hq => by simp [hq]) hk h) _ h0.drew
    have e : l.toArray.size = 0 + l.length := by simp
    rw [e]
    have e2 : Array.replicate (0 + l.length) false = Array.replicate l.length false := by rw [Nat.zero_add]
    rw [e2]; exact h1)
end
end Go.Proofs.Ytbmidmpooooheaa.Drawn
