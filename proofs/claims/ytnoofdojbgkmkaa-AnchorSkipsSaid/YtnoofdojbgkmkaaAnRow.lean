/- Slices of nodes (four cells each: an integer, a span, a bool), of the program and of the document. -/
import Derived.Test.YtnoofdojbgkmkaaAnMath
import Derived.Test.YtnoofdojbgkmkaaCut
import Derived.Test.YtnoofdojbgkmkaaDrawnFast
import Derived.Lib.MinMax
import Derived.Test.YtnoofdojbgkmkaaSpan
import Derived.Maps.AppendAt
namespace Go.Proofs.Ytnoofdojbgkmkaa.Fix
open Go.ChangeShapes Go.WideShapes Go.ChangeAt Go.RowKit
set_option linter.unusedVariables false

/-- What lies at the place of a node. -/
def NdAt (w : World) (b o : Nat) (x : An.Nd) : Prop := w.cell? ⟨b, o, none⟩ = some (.int .i64 x.up) ∧ w.cell? ⟨b, o + 1, none⟩ = some (.int .i64 x.lo) ∧ w.cell? ⟨b, o + 2, none⟩ = some (.int .i64 x.hi) ∧ w.cell? ⟨b, o + 3, none⟩ = some (.bool x.skip)

/-- A slice of nodes that can be read. -/
def Nodes (w : World) (A : Option Addr) (l : Nat → An.Nd) (n : Nat) : Prop :=
  0 < n → ∃ b off, A = some ⟨b, off, none⟩ ∧ b < w.heap.size ∧ ∀ k, k < n → NdAt w b (off + k * 4) (l k)

theorem NdAt.keep {W w : World} {B b o : Nat} {x : An.Nd} (h : NdAt W b o x) (hb : Below B W w) (hlt : b < B) : NdAt w b o x := by
  obtain ⟨c0, c1, c2, c3⟩ := h
  exact ⟨(hb.cell (p := ⟨b, o, none⟩) hlt).trans c0, (hb.cell (p := ⟨b, o + 1, none⟩) hlt).trans c1, (hb.cell (p := ⟨b, o + 2, none⟩) hlt).trans c2, (hb.cell (p := ⟨b, o + 3, none⟩) hlt).trans c3⟩

theorem Nodes.keep {W w : World} {B : Nat} {A : Option Addr} {l : Nat → An.Nd} {n : Nat} (h : Nodes W A l n) (hb : Below B W w) (hA : 0 < n → ∀ x, A = some x → x.block < B) : Nodes w A l n := fun h0 => by
  obtain ⟨b, off, rfl, hl, hc⟩ := h h0
  have hlt : b < B := hA h0 _ rfl
  exact ⟨b, off, rfl, Nat.lt_of_lt_of_le hl hb.size, fun k hk => (hc k hk).keep hb hlt⟩

theorem Nodes.lt {W : World} {A : Option Addr} {l : Nat → An.Nd} {n : Nat} (h : Nodes W A l n) : 0 < n → ∀ x, A = some x → x.block < W.heap.size := fun h0 x hx => by
  obtain ⟨b, off, rfl, hl, hc⟩ := h h0
  injection hx with hx
  subst hx
  exact hl

theorem Nodes.after {W w : World} {A : Option Addr} {l : Nat → An.Nd} {n : Nat} (h : Nodes W A l n) (hb : Below W.heap.size W w) : Nodes w A l n := h.keep hb h.lt

theorem Nodes.at_ {w : World} {A : Option Addr} {l : Nat → An.Nd} {n k : Nat} (h : Nodes w A l n) (hk : k < n) : ∃ b off, A = some ⟨b, off, none⟩ ∧ b < w.heap.size ∧ NdAt w b (off + k * 4) (l k) := by
  obtain ⟨b, off, e, hl, hc⟩ := h (by omega)
  exact ⟨b, off, e, hl, hc k hk⟩

theorem Nodes.nil (w : World) (A : Option Addr) (l : Nat → An.Nd) : Nodes w A l 0 := fun h => absurd h (by omega)

def encN (x : An.Nd) : List Value := [.int .i64 x.up, .int .i64 x.lo, .int .i64 x.hi, .bool x.skip]
def flatN (l : Nat → An.Nd) : Nat → List Value
  | 0 => []
  | k + 1 => flatN l k ++ encN (l k)
theorem flatN_length (l : Nat → An.Nd) (k : Nat) : (flatN l k).length = k * 4 := by
  induction k with
  | zero => rfl
  | succ k ih => simp only [flatN, List.length_append, ih, encN, List.length_cons, List.length_nil]; omega
theorem flatN_get (l : Nat → An.Nd) {n k j : Nat} (hk : k < n) (hj : j < 4) : (flatN l n)[k * 4 + j]? = (encN (l k))[j]? := by
  induction n with
  | zero => omega
  | succ n ih =>
    simp only [flatN]
    rcases Nat.lt_or_ge k n with h | h
    · rw [List.getElem?_append_left (by rw [flatN_length]; omega)]; exact ih h
    · obtain rfl : k = n := by omega
      rw [List.getElem?_append_right (by rw [flatN_length]; omega), flatN_length]
      congr 1
      omega
theorem flatN_congr {l m : Nat → An.Nd} {n : Nat} (h : ∀ k, k < n → l k = m k) : flatN l n = flatN m n := by
  induction n with
  | zero => rfl
  | succ n ih => simp only [flatN]; rw [ih (fun k hk => h k (by omega)), h n (by omega)]

theorem nodeInfo : (Try.prog.info? 32).map (fun i => (i.zero, i.size, i.bytes)) = some (some (.agg #[.int .i64 0, .int .i64 0, .int .i64 0, .bool false]), 4, 32) := by kernel_rfl
theorem rnodeInfo : (Try.prog.info? 41).map (fun i => (i.zero, i.size, i.bytes)) = some (some (.agg #[.int .i64 0, .int .i64 0, .int .i64 0, .bool false]), 4, 32) := by kernel_rfl

/-- One node behind a row of one's own. -/
theorem append_node {w0 W : World} {base : Nat} {v : Value} {k : Nat} {l : Nat → An.Nd} (hown : W.ownsRow base 32 4 v k (flatN l k)) (hB : Below base w0 W) (hbase : base ≤ W.heap.size) (hk : k ≤ 1000) :
    ∃ v' w', (Builtin.append_ #[22, 22] 22 #[v, .slice (some ⟨W.heap.size, 0, none⟩) 1 1]).run Try.prog (W.alloc (.cells #[.int .i64 (l k).up, .int .i64 (l k).lo, .int .i64 (l k).hi, .bool (l k).skip] 32)) = .ok v' w' ∧ w'.ownsRow base 32 4 v' (k + 1) (flatN l (k + 1)) ∧ Below base w0 w' ∧ base ≤ w'.heap.size := by
  obtain ⟨i0, hi0, hz0, hz1, hz2⟩ := info_parts nodeInfo
  have hA := At.new W (.cells #[.int .i64 (l k).up, .int .i64 (l k).lo, .int .i64 (l k).hi, .bool (l k).skip] 32)
  obtain ⟨v', w', hr, ho, hg, _, _⟩ := run_append_own_at (P := Try.prog) (w := W.alloc (.cells #[.int .i64 (l k).up, .int .i64 (l k).lo, .int .i64 (l k).hi, .bool (l k).skip] 32)) base 22 22 32 i0 _ 4 32 Try.underlying22 hi0 hz0 hz1 hz2 rfl (by decide) v k _ (hown.alloc _) ⟨W.heap.size, 0, none⟩ 1 1 (encN (l k)) rfl
    (by intro j u hj
        rw [addr_add, Nat.zero_add, hA.cell, ← hj]
        change (encN (l k)).toArray[j]? = (encN (l k))[j]?
        simp)
    (by simp [encN, Value.oneCell']) (by simp only [maxLen]; omega) (by omega) (by simp; omega)
  refine ⟨v', w', hr, ho, (hB.alloc hbase _).grown hg (by simp; omega) (fun g hgg => (hown.lt g hgg).1), ?_⟩
  have := hg.size
  simp at this
  omega

/-- One node behind a row of one's own. -/
theorem rappend_node {w0 W : World} {base : Nat} {v : Value} {k : Nat} {l : Nat → An.Nd} (hown : W.ownsRow base 41 4 v k (flatN l k)) (hB : Below base w0 W) (hbase : base ≤ W.heap.size) (hk : k ≤ 1000) :
    ∃ v' w', (Builtin.append_ #[26, 26] 26 #[v, .slice (some ⟨W.heap.size, 0, none⟩) 1 1]).run Try.prog (W.alloc (.cells #[.int .i64 (l k).up, .int .i64 (l k).lo, .int .i64 (l k).hi, .bool (l k).skip] 41)) = .ok v' w' ∧ w'.ownsRow base 41 4 v' (k + 1) (flatN l (k + 1)) ∧ Below base w0 w' ∧ base ≤ w'.heap.size := by
  obtain ⟨i0, hi0, hz0, hz1, hz2⟩ := info_parts rnodeInfo
  have hA := At.new W (.cells #[.int .i64 (l k).up, .int .i64 (l k).lo, .int .i64 (l k).hi, .bool (l k).skip] 41)
  obtain ⟨v', w', hr, ho, hg, _, _⟩ := run_append_own_at (P := Try.prog) (w := W.alloc (.cells #[.int .i64 (l k).up, .int .i64 (l k).lo, .int .i64 (l k).hi, .bool (l k).skip] 41)) base 26 26 41 i0 _ 4 32 Try.underlying26 hi0 hz0 hz1 hz2 rfl (by decide) v k _ (hown.alloc _) ⟨W.heap.size, 0, none⟩ 1 1 (encN (l k)) rfl
    (by intro j u hj
        rw [addr_add, Nat.zero_add, hA.cell, ← hj]
        change (encN (l k)).toArray[j]? = (encN (l k))[j]?
        simp)
    (by simp [encN, Value.oneCell']) (by simp only [maxLen]; omega) (by omega) (by simp; omega)
  refine ⟨v', w', hr, ho, (hB.alloc hbase _).grown hg (by simp; omega) (fun g hgg => (hown.lt g hgg).1), ?_⟩
  have := hg.size
  simp at this
  omega

theorem nodes_of_own {w : World} {base : Nat} {v : Value} {n : Nat} {l : Nat → An.Nd} (h : w.ownsRow base 32 4 v n (flatN l n)) : ∃ A c, v = .slice A n c ∧ Nodes w A l n := by
  rcases h.2 with ⟨rfl, h0⟩ | ⟨g, cap, cur, rfl, _, hgb, _⟩
  · exact ⟨none, 0, by rw [h0], fun hp => absurd hp (by omega)⟩
  · refine ⟨_, _, rfl, fun h0 => ⟨g, 0, rfl, (Array.getElem?_eq_some_iff.1 hgb).1, fun k hk => ?_⟩⟩
    have c : ∀ j, j < 4 → w.cell? ⟨g, 0 + k * 4 + j, none⟩ = (encN (l k))[j]? := by
      intro j hj
      have e := flatN_get l hk hj
      obtain ⟨u, hu⟩ : ∃ u, (encN (l k))[j]? = some u := ⟨_, List.getElem?_eq_getElem (by simpa [encN] using hj)⟩
      rw [hu] at e ⊢
      have := h.cells (g := g) rfl (k * 4 + j) u e
      rw [addr_add] at this
      rw [← this]; congr 2; omega
    exact ⟨c 0 (by omega), c 1 (by omega), c 2 (by omega), c 3 (by omega)⟩

theorem rnodes_of_own {w : World} {base : Nat} {v : Value} {n : Nat} {l : Nat → An.Nd} (h : w.ownsRow base 41 4 v n (flatN l n)) : ∃ A c, v = .slice A n c ∧ Nodes w A l n := by
  rcases h.2 with ⟨rfl, h0⟩ | ⟨g, cap, cur, rfl, _, hgb, _⟩
  · exact ⟨none, 0, by rw [h0], fun hp => absurd hp (by omega)⟩
  · refine ⟨_, _, rfl, fun h0 => ⟨g, 0, rfl, (Array.getElem?_eq_some_iff.1 hgb).1, fun k hk => ?_⟩⟩
    have c : ∀ j, j < 4 → w.cell? ⟨g, 0 + k * 4 + j, none⟩ = (encN (l k))[j]? := by
      intro j hj
      have e := flatN_get l hk hj
      obtain ⟨u, hu⟩ : ∃ u, (encN (l k))[j]? = some u := ⟨_, List.getElem?_eq_getElem (by simpa [encN] using hj)⟩
      rw [hu] at e ⊢
      have := h.cells (g := g) rfl (k * 4 + j) u e
      rw [addr_add] at this
      rw [← this]; congr 2; omega
    exact ⟨c 0 (by omega), c 1 (by omega), c 2 (by omega), c 3 (by omega)⟩

end Go.Proofs.Ytnoofdojbgkmkaa.Fix
