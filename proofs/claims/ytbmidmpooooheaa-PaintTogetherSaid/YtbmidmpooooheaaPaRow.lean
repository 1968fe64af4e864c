/- Slices of nodes that are painted (three cells each), of the program and of the document. -/
import Derived.Test.YtbmidmpooooheaaPaMath
import Derived.Test.YtbmidmpooooheaaCut
import Derived.Test.YtbmidmpooooheaaDrawnGen
import Derived.Maps.AppendAt
set_option maxRecDepth 100000
namespace Go.Proofs.Ytbmidmpooooheaa.Fix
open Go.ChangeShapes Go.WideShapes Go.ChangeAt Go.RowKit
set_option linter.unusedVariables false

/-- a node -/
structure PNd where
  up : Int
  ly : Bool
  z : Int
/-- What lies at the place of a node. -/
def PNdAt (w : World) (b o : Nat) (x : PNd) : Prop := w.cell? ⟨b, o, none⟩ = some (.int .i64 x.up) ∧ w.cell? ⟨b, o + 1, none⟩ = some (.bool x.ly) ∧ w.cell? ⟨b, o + 2, none⟩ = some (.int .i64 x.z)

/-- A slice of nodes that can be read. -/
def PNodes (w : World) (A : Option Addr) (l : Nat → PNd) (n : Nat) : Prop :=
  0 < n → ∃ b off, A = some ⟨b, off, none⟩ ∧ b < w.heap.size ∧ ∀ k, k < n → PNdAt w b (off + k * 3) (l k)

theorem PNdAt.keep {W w : World} {B b o : Nat} {x : PNd} (h : PNdAt W b o x) (hb : Below B W w) (hlt : b < B) : PNdAt w b o x := by
  obtain ⟨c0, c1, c2⟩ := h
  exact ⟨(hb.cell (p := ⟨b, o, none⟩) hlt).trans c0, (hb.cell (p := ⟨b, o + 1, none⟩) hlt).trans c1, (hb.cell (p := ⟨b, o + 2, none⟩) hlt).trans c2⟩

theorem PNodes.keep {W w : World} {B : Nat} {A : Option Addr} {l : Nat → PNd} {n : Nat} (h : PNodes W A l n) (hb : Below B W w) (hA : 0 < n → ∀ x, A = some x → x.block < B) : PNodes w A l n := fun h0 => by
  obtain ⟨b, off, rfl, hl, hc⟩ := h h0
  have hlt : b < B := hA h0 _ rfl
  exact ⟨b, off, rfl, Nat.lt_of_lt_of_le hl hb.size, fun k hk => (hc k hk).keep hb hlt⟩

theorem PNodes.lt {W : World} {A : Option Addr} {l : Nat → PNd} {n : Nat} (h : PNodes W A l n) : 0 < n → ∀ x, A = some x → x.block < W.heap.size := fun h0 x hx => by
  obtain ⟨b, off, rfl, hl, hc⟩ := h h0
  injection hx with hx
  subst hx
  exact hl

theorem PNodes.after {W w : World} {A : Option Addr} {l : Nat → PNd} {n : Nat} (h : PNodes W A l n) (hb : Below W.heap.size W w) : PNodes w A l n := h.keep hb h.lt

theorem PNodes.at_ {w : World} {A : Option Addr} {l : Nat → PNd} {n k : Nat} (h : PNodes w A l n) (hk : k < n) : ∃ b off, A = some ⟨b, off, none⟩ ∧ b < w.heap.size ∧ PNdAt w b (off + k * 3) (l k) := by
  obtain ⟨b, off, e, hl, hc⟩ := h (by omega)
  exact ⟨b, off, e, hl, hc k hk⟩

theorem PNodes.nil (w : World) (A : Option Addr) (l : Nat → PNd) : PNodes w A l 0 := fun h => absurd h (by omega)

def encPN (x : PNd) : List Value := [.int .i64 x.up, .bool x.ly, .int .i64 x.z]
def flatPN (l : Nat → PNd) : Nat → List Value
  | 0 => []
  | k + 1 => flatPN l k ++ encPN (l k)
theorem flatPN_length (l : Nat → PNd) (k : Nat) : (flatPN l k).length = k * 3 := by
  induction k with
  | zero => rfl
  | succ k ih => simp only [flatPN, List.length_append, ih, encPN, List.length_cons, List.length_nil]; omega
theorem flatPN_get (l : Nat → PNd) {n k j : Nat} (hk : k < n) (hj : j < 3) : (flatPN l n)[k * 3 + j]? = (encPN (l k))[j]? := by
  induction n with
  | zero => omega
  | succ n ih =>
    simp only [flatPN]
    rcases Nat.lt_or_ge k n with h | h
    · rw [List.getElem?_append_left (by rw [flatPN_length]; omega)]; exact ih h
    · obtain rfl : k = n := by omega
      rw [List.getElem?_append_right (by rw [flatPN_length]; omega), flatPN_length]
      congr 1
      omega
theorem flatPN_congr {l m : Nat → PNd} {n : Nat} (h : ∀ k, k < n → l k = m k) : flatPN l n = flatPN m n := by
  induction n with
  | zero => rfl
  | succ n ih => simp only [flatPN]; rw [ih (fun k hk => h k (by omega)), h n (by omega)]

theorem pnodeInfo : (Try.prog.info? 39).map (fun i => (i.zero, i.size, i.bytes)) = some (some (.agg #[.int .i64 0, .bool false, .int .i64 0]), 3, 24) := by kernel_rfl
theorem rpnodeInfo : (Try.prog.info? 41).map (fun i => (i.zero, i.size, i.bytes)) = some (some (.agg #[.int .i64 0, .bool false, .int .i64 0]), 3, 24) := by kernel_rfl

/-- One node behind a row of one's own. -/
theorem append_pnode {w0 W : World} {base : Nat} {v : Value} {k : Nat} {l : Nat → PNd} (hown : W.ownsRow base 39 3 v k (flatPN l k)) (hB : Below base w0 W) (hbase : base ≤ W.heap.size) (hk : k ≤ 1000) :
    ∃ v' w', (Builtin.append_ #[22, 22] 22 #[v, .slice (some ⟨W.heap.size, 0, none⟩) 1 1]).run Try.prog (W.alloc (.cells #[.int .i64 (l k).up, .bool (l k).ly, .int .i64 (l k).z] 39)) = .ok v' w' ∧ w'.ownsRow base 39 3 v' (k + 1) (flatPN l (k + 1)) ∧ Below base w0 w' ∧ base ≤ w'.heap.size := by
  obtain ⟨i0, hi0, hz0, hz1, hz2⟩ := info_parts pnodeInfo
  have hA := At.new W (.cells #[.int .i64 (l k).up, .bool (l k).ly, .int .i64 (l k).z] 39)
  obtain ⟨v', w', hr, ho, hg, _, _⟩ := run_append_own_at (P := Try.prog) (w := W.alloc (.cells #[.int .i64 (l k).up, .bool (l k).ly, .int .i64 (l k).z] 39)) base 22 22 39 i0 _ 3 24 Try.underlying22 hi0 hz0 hz1 hz2 rfl (by decide) v k _ (hown.alloc _) ⟨W.heap.size, 0, none⟩ 1 1 (encPN (l k)) rfl
    (by intro j u hj
        rw [addr_add, Nat.zero_add, hA.cell, ← hj]
        change (encPN (l k)).toArray[j]? = (encPN (l k))[j]?
        simp)
    (by simp [encPN, Value.oneCell']) (by simp only [maxLen]; omega) (by omega) (by simp; omega)
  refine ⟨v', w', hr, ho, (hB.alloc hbase _).grown hg (by simp; omega) (fun g hgg => (hown.lt g hgg).1), ?_⟩
  have := hg.size
  simp at this
  omega

/-- One node behind a row of one's own. -/
theorem rappend_pnode {w0 W : World} {base : Nat} {v : Value} {k : Nat} {l : Nat → PNd} (hown : W.ownsRow base 41 3 v k (flatPN l k)) (hB : Below base w0 W) (hbase : base ≤ W.heap.size) (hk : k ≤ 1000) :
    ∃ v' w', (Builtin.append_ #[24, 24] 24 #[v, .slice (some ⟨W.heap.size, 0, none⟩) 1 1]).run Try.prog (W.alloc (.cells #[.int .i64 (l k).up, .bool (l k).ly, .int .i64 (l k).z] 41)) = .ok v' w' ∧ w'.ownsRow base 41 3 v' (k + 1) (flatPN l (k + 1)) ∧ Below base w0 w' ∧ base ≤ w'.heap.size := by
  obtain ⟨i0, hi0, hz0, hz1, hz2⟩ := info_parts rpnodeInfo
  have hA := At.new W (.cells #[.int .i64 (l k).up, .bool (l k).ly, .int .i64 (l k).z] 41)
  obtain ⟨v', w', hr, ho, hg, _, _⟩ := run_append_own_at (P := Try.prog) (w := W.alloc (.cells #[.int .i64 (l k).up, .bool (l k).ly, .int .i64 (l k).z] 41)) base 24 24 41 i0 _ 3 24 Try.underlying24 hi0 hz0 hz1 hz2 rfl (by decide) v k _ (hown.alloc _) ⟨W.heap.size, 0, none⟩ 1 1 (encPN (l k)) rfl
    (by intro j u hj
        rw [addr_add, Nat.zero_add, hA.cell, ← hj]
        change (encPN (l k)).toArray[j]? = (encPN (l k))[j]?
        simp)
    (by simp [encPN, Value.oneCell']) (by simp only [maxLen]; omega) (by omega) (by simp; omega)
  refine ⟨v', w', hr, ho, (hB.alloc hbase _).grown hg (by simp; omega) (fun g hgg => (hown.lt g hgg).1), ?_⟩
  have := hg.size
  simp at this
  omega

theorem pnodes_of_own {w : World} {base : Nat} {v : Value} {n : Nat} {l : Nat → PNd} (h : w.ownsRow base 39 3 v n (flatPN l n)) : ∃ A c, v = .slice A n c ∧ PNodes w A l n := by
  rcases h.2 with ⟨rfl, h0⟩ | ⟨g, cap, cur, rfl, _, hgb, _⟩
  · exact ⟨none, 0, by rw [h0], fun hp => absurd hp (by omega)⟩
  · refine ⟨_, _, rfl, fun h0 => ⟨g, 0, rfl, (Array.getElem?_eq_some_iff.1 hgb).1, fun k hk => ?_⟩⟩
    have c : ∀ j, j < 3 → w.cell? ⟨g, 0 + k * 3 + j, none⟩ = (encPN (l k))[j]? := by
      intro j hj
      have e := flatPN_get l hk hj
      obtain ⟨u, hu⟩ : ∃ u, (encPN (l k))[j]? = some u := ⟨_, List.getElem?_eq_getElem (by simpa [encPN] using hj)⟩
      rw [hu] at e ⊢
      have := h.cells (g := g) rfl (k * 3 + j) u e
      rw [addr_add] at this
      rw [← this]; congr 2; omega
    exact ⟨c 0 (by omega), c 1 (by omega), c 2 (by omega)⟩

theorem rpnodes_of_own {w : World} {base : Nat} {v : Value} {n : Nat} {l : Nat → PNd} (h : w.ownsRow base 41 3 v n (flatPN l n)) : ∃ A c, v = .slice A n c ∧ PNodes w A l n := by
  rcases h.2 with ⟨rfl, h0⟩ | ⟨g, cap, cur, rfl, _, hgb, _⟩
  · exact ⟨none, 0, by rw [h0], fun hp => absurd hp (by omega)⟩
  · refine ⟨_, _, rfl, fun h0 => ⟨g, 0, rfl, (Array.getElem?_eq_some_iff.1 hgb).1, fun k hk => ?_⟩⟩
    have c : ∀ j, j < 3 → w.cell? ⟨g, 0 + k * 3 + j, none⟩ = (encPN (l k))[j]? := by
      intro j hj
      have e := flatPN_get l hk hj
      obtain ⟨u, hu⟩ : ∃ u, (encPN (l k))[j]? = some u := ⟨_, List.getElem?_eq_getElem (by simpa [encPN] using hj)⟩
      rw [hu] at e ⊢
      have := h.cells (g := g) rfl (k * 3 + j) u e
      rw [addr_add] at this
      rw [← this]; congr 2; omega
    exact ⟨c 0 (by omega), c 1 (by omega), c 2 (by omega)⟩

end Go.Proofs.Ytbmidmpooooheaa.Fix
