/- Small laws for the document's own Sizes of the layer flex: two rows of one's own, grown in turns; what lies lower stays. -/
import Derived.Test.YtefofdjkinbfgaaFlexRef
namespace Go.Proofs.Ytefofdjkinbfgaa.Fix
open Go.ChangeShapes Go.WideShapes Go.ChangeAt Go.RowKit
set_option linter.unusedVariables false

/-- Two rows do not share a block. -/
def Apart (v u : Value) : Prop := v.ownBlock = none ∨ u.ownBlock = none ∨ v.ownBlock ≠ u.ownBlock
theorem Apart.symm {v u : Value} (h : Apart v u) : Apart u v := by
  rcases h with h | h | h
  · exact .inr (.inl h)
  · exact .inl h
  · exact .inr (.inr (Ne.symm h))

theorem own_none {W : World} {base : Nat} {e : TypeId} {sz k : Nat} {v : Value} {xs : List Value} (h : W.ownsRow base e sz v k xs) (hn : v.ownBlock = none) : v = .slice none 0 0 := by
  rcases h.2 with ⟨rfl, _⟩ | ⟨g, cap, cur, rfl, _⟩
  · rfl
  · simp [Value.ownBlock] at hn

/-- A number more behind the one row: the other one stays, and what lies lower. -/
theorem append_two {W : World} {base k m : Nat} {v u : Value} {xs ys : List Int} (x : Int) (hu : W.ownsRow base 3 1 u k (xs.map (Value.int .i64))) (hv : W.ownsRow base 3 1 v m (ys.map (Value.int .i64))) (ha : Apart v u) (hbase : base ≤ W.heap.size) (hk : k ≤ 10000) :
    ∃ g c w', (Builtin.append_ #[32, 32] 32 #[u, .slice (some ⟨W.heap.size, 0, none⟩) 1 1]).run Try.prog (W.alloc (.cells #[.int .i64 x] 3)) = .ok (.slice (some ⟨g, 0, none⟩) (k + 1) c) w' ∧
      w'.ownsRow base 3 1 (.slice (some ⟨g, 0, none⟩) (k + 1) c) (k + 1) ((xs ++ [x]).map (Value.int .i64)) ∧ w'.ownsRow base 3 1 v m (ys.map (Value.int .i64)) ∧ Apart v (.slice (some ⟨g, 0, none⟩) (k + 1) c) ∧ Below base W w' ∧ base ≤ w'.heap.size := by
  obtain ⟨i0, hi0, hz0, hz1, hz2⟩ := info_parts intZero
  obtain ⟨v', w', hr, ho, hg, _, hblk⟩ := run_append_own_at (P := Try.prog) (w := W.alloc (.cells #[.int .i64 x] 3)) base 32 32 3 i0 (.int .i64 0) 1 8 Try.underlying32 hi0 hz0 hz1 hz2 rfl (by decide) u k _ (hu.alloc _) ⟨W.heap.size, 0, none⟩ 1 1 [.int .i64 x] rfl
    (by intro j u hj
        match j, hj with
        | 0, hj => simp at hj; subst hj; simp [Addr.add])
    (by simp [Value.oneCell']) (by simp only [maxLen]; omega) (by omega) (by simp; omega)
  obtain ⟨g, c, rfl⟩ := ownsRow_succ ho
  have hv2 := hv.alloc (.cells #[.int .i64 x] 3)
  have hB : Below base W w' := (Below.alloc (Below.refl base W) hbase _).grown hg (by simp; omega) (fun j ej => (hu.lt j ej).1)
  have hvb : v.ownBlock = none ∨ v.ownBlock ≠ u.ownBlock := by
    rcases ha with h | h | h
    · exact .inl h
    · by_cases hv0 : v.ownBlock = none
      · exact .inl hv0
      · exact .inr (by rw [h]; exact hv0)
    · exact .inr h
  refine ⟨g, c, w', hr, by rw [List.map_append]; exact ho, hv2.kept hg hvb, ?_, hB, ?_⟩
  · by_cases hv0 : v.ownBlock = none
    · exact .inl hv0
    · refine .inr (.inr ?_)
      rcases hblk with h | h
      · rw [h]
        exact hvb.resolve_left hv0
      · rw [h]
        intro e
        have := (hv.lt _ e).2
        simp at this
        omega
  · have := hg.size
    simp at this
    omega

theorem Items.low {W W' : World} {A : Option Addr} {l : Nat → Fe.It} {n base : Nat} (h : Items W A l n) (hl : ∀ b off, A = some ⟨b, off, none⟩ → b < base) (hb : Below base W W') : Items W' A l n := fun h0 => by
  obtain ⟨b, off, rfl, hlt, hc⟩ := h h0
  have hbb := hl b off rfl
  refine ⟨b, off, rfl, Nat.lt_of_lt_of_le hlt hb.size, fun k hk => ?_⟩
  obtain ⟨c0, c1, c2, c3, c4⟩ := hc k hk
  exact ⟨(hb.cell (p := ⟨b, off + k * 5, none⟩) hbb).trans c0, (hb.cell (p := ⟨b, off + k * 5 + 1, none⟩) hbb).trans c1, (hb.cell (p := ⟨b, off + k * 5 + 2, none⟩) hbb).trans c2, (hb.cell (p := ⟨b, off + k * 5 + 3, none⟩) hbb).trans c3, (hb.cell (p := ⟨b, off + k * 5 + 4, none⟩) hbb).trans c4⟩

theorem At.low {W W' : World} {b base : Nat} {o : Obj} (h : At W b o) (hl : b < base) (hb : Below base W W') : At W' b o := (hb.block b hl).trans h

/-- How many are not frozen, read off a row of bools. -/
def looseB (W : World) (b : Nat) : Nat → Nat
  | 0 => 0
  | k + 1 => looseB W b k + (match W.cell? ⟨b, k, none⟩ with
    | some (.bool false) => 1
    | _ => 0)
theorem looseB_row {W : World} {b n : Nat} {S : Nat → Fe.St} {T : TypeId} (h : At W b (.cells (bRow (fun i => (S i).f) n) T)) : looseB W b n = Fe.pl S n := by
  have c : ∀ k, k ≤ n → looseB W b k = Fe.pl S k := by
    intro k hk
    induction k with
    | zero => rfl
    | succ k ih =>
      have h7 : W.cell? ⟨b, k, none⟩ = some (.bool (S k).f) := by rw [h.cell, bRow_get _ (show k < n by omega)]
      simp only [looseB, Fe.pl, ih (by omega), h7]
      cases (S k).f <;> simp
  exact c n (Nat.le_refl _)

theorem Items.off {W : World} {A : Option Addr} {l : Nat → Fe.It} {n : Nat} (h : Items W A l n) {O k : Nat} (hne : ∀ b off, A = some ⟨b, off, none⟩ → b ≠ O) (v : Value) : Items (W.setCell ⟨O, k, none⟩ v) A l n := fun h0 => by
  obtain ⟨b, off, rfl, hlt, hc⟩ := h h0
  have hbb := hne b off rfl
  have hh : (W.setCell ⟨O, k, none⟩ v).heap[b]? = W.heap[b]? := Below.heap_setCell _ _ _ b hbb
  have c : ∀ i, (W.setCell ⟨O, k, none⟩ v).cell? ⟨b, i, none⟩ = W.cell? ⟨b, i, none⟩ := fun i => by simp only [World.cell?, hh]
  refine ⟨b, off, rfl, Nat.lt_of_lt_of_le hlt (KeepsWalks.setCell W _ v).size, fun k hk => ?_⟩
  rw [c, c, c, c, c]
  exact hc k hk

/-- The places that are not frozen, as numbers. -/
def aI (S : Nat → Fe.St) (n : Nat) : List Int := (Fe.ats S n).map fun (t : Nat) => (t : Int)
theorem aI_length (S : Nat → Fe.St) (n : Nat) : (aI S n).length = Fe.pl S n := by simp [aI, Fe.ats_length]
theorem aI_frozen {S : Nat → Fe.St} {n : Nat} (h : (S n).f = true) : aI S (n + 1) = aI S n := by simp [aI, Fe.ats, h]
theorem aI_loose {S : Nat → Fe.St} {n : Nat} (h : (S n).f = false) : aI S (n + 1) = aI S n ++ [(n : Int)] := by simp [aI, Fe.ats, h]
theorem aI_get {S : Nat → Fe.St} {n k : Nat} (h : k < Fe.pl S n) : (aI S n).getD k 0 = (((Fe.ats S n).getD k 0 : Nat) : Int) := by
  have hl : k < (Fe.ats S n).length := by rw [Fe.ats_length]; exact h
  simp [aI, List.getD_eq_getElem?_getD, List.getElem?_map, List.getElem?_eq_getElem hl]
theorem ws_frozen {gr : Bool} {S : Nat → Fe.St} {n : Nat} (h : (S n).f = true) : Fe.ws gr S (n + 1) = Fe.ws gr S n := by simp [Fe.ws, h]
theorem ws_loose {gr : Bool} {S : Nat → Fe.St} {n : Nat} (h : (S n).f = false) : Fe.ws gr S (n + 1) = Fe.ws gr S n ++ [Fe.wt gr (S n).x] := by simp [Fe.ws, h]
theorem pl_frozen {S : Nat → Fe.St} {n : Nat} (h : (S n).f = true) : Fe.pl S (n + 1) = Fe.pl S n := by simp [Fe.pl, h]
theorem pl_loose {S : Nat → Fe.St} {n : Nat} (h : (S n).f = false) : Fe.pl S (n + 1) = Fe.pl S n + 1 := by simp [Fe.pl, h]
theorem left_frozen {room : Int} {S : Nat → Fe.St} {n : Nat} (h : (S n).f = true) : Fe.left room S (n + 1) = Fe.left room S n - (S n).z := by simp [Fe.left, h]
theorem left_loose {room : Int} {S : Nat → Fe.St} {n : Nat} (h : (S n).f = false) : Fe.left room S (n + 1) = Fe.left room S n - (S n).x.b := by simp [Fe.left, h]

theorem take_more {α : Type} (L : List α) (d : α) {j : Nat} (h : j < L.length) : L.take (j + 1) = L.take j ++ [L.getD j d] := by
  rw [List.take_add_one, List.getElem?_eq_getElem h, List.getD_eq_getElem?_getD, List.getElem?_eq_getElem h]
  rfl

theorem msum_bd {T : Nat → Fe.St} (n : Nat) (h : ∀ i, i < n → -134217728 ≤ (T i).m ∧ (T i).m ≤ 134217728) {S : Nat → Fe.St} (j : Nat) (hj : j ≤ Fe.pl S n) : -134217728 * j ≤ Fe.msum T ((Fe.ats S n).take j) ∧ Fe.msum T ((Fe.ats S n).take j) ≤ 134217728 * j := by
  induction j with
  | zero => simp [Fe.msum]
  | succ j ih =>
    obtain ⟨h1, h2⟩ := ih (by omega)
    obtain ⟨a1, _, _⟩ := Fe.ats_get S (n := n) (k := j) (by omega)
    rw [take_more _ 0 (by rw [Fe.ats_length]; omega), Fe.msum_snoc]
    have := h _ a1
    omega

/-- What is wanted of each, in order. -/
def wI (Wt : Nat → Int) (L : List Nat) : List Int := L.map Wt

end Go.Proofs.Ytefofdjkinbfgaa.Fix
