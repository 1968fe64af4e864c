/- What AnchorSkips needs of the memory: a row of places, two rows of one's own grown in turns. -/
import Derived.Test.YtnoofdojbgkmkaaAnLaw0
import Derived.Test.YtnoofdojbgkmkaaAnSkipMath
namespace Go.Proofs.Ytnoofdojbgkmkaa.Fix
open Go.ChangeShapes Go.WideShapes Go.ChangeAt Go.RowKit Go.Deep Go.Joins
set_option linter.unusedVariables false

/-- A row of integers by the index. -/
def pRow (F : Nat → Int) (n : Nat) : Array Value := ((List.range n).map fun j => Value.int .i64 (F j)).toArray
theorem pRow_get (F : Nat → Int) {n j : Nat} (h : j < n) : (pRow F n)[j]? = some (.int .i64 (F j)) := by simp [pRow, h]
theorem pRow_size (F : Nat → Int) (n : Nat) : (pRow F n).size = n := by simp [pRow]
theorem pRow_made (n : Nat) : madeCells #[.int .i64 0] n = pRow (fun _ => 0) n := by
  apply Array.ext
  · simp [pRow, size_madeCells]
  · intro i h1 h2
    simp [madeCells, pRow, Nat.mod_one]
theorem pRow_set (F G : Nat → Int) {n k : Nat} {v : Int} (hv : G k = v) (ho : ∀ i, i < n → i ≠ k → G i = F i) : (pRow F n).setIfInBounds k (.int .i64 v) = pRow G n := by
  apply Array.ext_getElem?
  intro i
  rw [Array.getElem?_setIfInBounds, pRow_size]
  by_cases hin : i < n
  · rw [pRow_get F hin, pRow_get _ hin]
    by_cases hik : k = i
    · subst hik; simp [hin, hv]
    · rw [if_neg hik, ho i hin (Ne.symm hik)]
  · have h1 : (pRow F n)[i]? = none := Array.getElem?_eq_none (by rw [pRow_size]; omega)
    have h2 : (pRow G n)[i]? = none := Array.getElem?_eq_none (by rw [pRow_size]; omega)
    rw [h1, h2]
    split
    · rw [if_neg (by omega)]
    · rfl

/-- Two rows do not share a block. -/
def ApartN (v u : Value) : Prop := v.ownBlock = none ∨ u.ownBlock = none ∨ v.ownBlock ≠ u.ownBlock
theorem ApartN.symm {v u : Value} (h : ApartN v u) : ApartN u v := by
  rcases h with h | h | h
  · exact .inr (.inl h)
  · exact .inl h
  · exact .inr (.inr (Ne.symm h))

/-- What grows one row leaves the other one. -/
theorem apart_grown {W w' : World} {base k m sz2 : Nat} {T2 : TypeId} {u v v' : Value} {ys : List Value} {tmp : Obj} (hv : W.ownsRow base T2 sz2 v m ys) (ha : ApartN v u) (hg : (W.alloc tmp).grownBy w' u.ownBlock) (hblk : v'.ownBlock = u.ownBlock ∨ v'.ownBlock = some (W.alloc tmp).heap.size) :
    w'.ownsRow base T2 sz2 v m ys ∧ ApartN v v' := by
  have hvb : v.ownBlock = none ∨ v.ownBlock ≠ u.ownBlock := by
    rcases ha with h | h | h
    · exact .inl h
    · by_cases hv0 : v.ownBlock = none
      · exact .inl hv0
      · exact .inr (by rw [h]; exact hv0)
    · exact .inr h
  refine ⟨(hv.alloc tmp).kept hg hvb, ?_⟩
  by_cases hv0 : v.ownBlock = none
  · exact .inl hv0
  · refine .inr (.inr ?_)
    rcases hblk with h | h
    · rw [h]
      exact hvb.resolve_left hv0
    · rw [h]
      intro e
      have := (hv.lt _ e).2
      simp at this
      omega

/-- A node more behind the one row: the other one stays, and what lies lower. -/
theorem append_nodeB {W : World} {base k m sz2 : Nat} {T2 : TypeId} {v : Value} {A : Option Addr} {c : Nat} {l : Nat → An.Nd} {ys : List Value} {x0 x1 x2 : Int} {x3 : Bool} (hl : l k = ⟨x0, x1, x2, x3⟩) (hu : W.ownsRow base 32 4 (.slice A k c) k (flatN l k)) (hv : W.ownsRow base T2 sz2 v m ys) (ha : ApartN v (.slice A k c)) (hbase : base ≤ W.heap.size) (hk : k ≤ 1000) :
    ∃ A' c' w', (Builtin.append_ #[22, 22] 22 #[.slice A k c, .slice (some ⟨W.heap.size, 0, none⟩) 1 1]).run Try.prog (W.alloc (.cells #[.int .i64 x0, .int .i64 x1, .int .i64 x2, .bool x3] 32)) = .ok (.slice A' (k + 1) c') w' ∧
      w'.ownsRow base 32 4 (.slice A' (k + 1) c') (k + 1) (flatN l (k + 1)) ∧ w'.ownsRow base T2 sz2 v m ys ∧ ApartN v (.slice A' (k + 1) c') ∧ Below base W w' ∧ base ≤ w'.heap.size := by
  obtain ⟨i0, hi0, hz0, hz1, hz2⟩ := info_parts nodeInfo
  have hA := At.new W (.cells #[.int .i64 x0, .int .i64 x1, .int .i64 x2, .bool x3] 32)
  obtain ⟨v', w', hr, ho, hg, _, hblk⟩ := run_append_own_at (P := Try.prog) (w := W.alloc (.cells #[.int .i64 x0, .int .i64 x1, .int .i64 x2, .bool x3] 32)) base 22 22 32 i0 _ 4 32 Try.underlying22 hi0 hz0 hz1 hz2 rfl (by decide) (.slice A k c) k _ (hu.alloc _) ⟨W.heap.size, 0, none⟩ 1 1 (encN (l k)) rfl
    (by intro j u hj
        rw [addr_add, Nat.zero_add, hA.cell, ← hj, hl]
        change (encN ⟨x0, x1, x2, x3⟩).toArray[j]? = (encN ⟨x0, x1, x2, x3⟩)[j]?
        simp)
    (by simp [encN, Value.oneCell']) (by simp only [maxLen]; omega) (by omega) (by simp; omega)
  obtain ⟨g, c', rfl⟩ := ownsRow_succ ho
  obtain ⟨h1, h2⟩ := apart_grown (k := k) hv ha hg hblk
  refine ⟨_, c', w', hr, ho, h1, h2, (Below.alloc (Below.refl base W) hbase _).grown hg (by simp; omega) (fun j ej => (hu.lt j ej).1), ?_⟩
  have := hg.size
  simp at this
  omega

/-- A number more behind the one row: the other one stays, and what lies lower. -/
theorem append_intB {W : World} {base k m sz2 : Nat} {T2 : TypeId} {v : Value} {A : Option Addr} {c : Nat} {xs : List Int} {ys : List Value} (x : Int) (hu : W.ownsRow base 3 1 (.slice A k c) k (xs.map (Value.int .i64))) (hv : W.ownsRow base T2 sz2 v m ys) (ha : ApartN v (.slice A k c)) (hbase : base ≤ W.heap.size) (hk : k ≤ 1000) :
    ∃ A' c' w', (Builtin.append_ #[39, 39] 39 #[.slice A k c, .slice (some ⟨W.heap.size, 0, none⟩) 1 1]).run Try.prog (W.alloc (.cells #[.int .i64 x] 3)) = .ok (.slice A' (k + 1) c') w' ∧
      w'.ownsRow base 3 1 (.slice A' (k + 1) c') (k + 1) ((xs ++ [x]).map (Value.int .i64)) ∧ w'.ownsRow base T2 sz2 v m ys ∧ ApartN v (.slice A' (k + 1) c') ∧ Below base W w' ∧ base ≤ w'.heap.size := by
  obtain ⟨i0, hi0, hz0, hz1, hz2⟩ := info_parts intZero
  obtain ⟨v', w', hr, ho, hg, _, hblk⟩ := run_append_own_at (P := Try.prog) (w := W.alloc (.cells #[.int .i64 x] 3)) base 39 39 3 i0 (.int .i64 0) 1 8 Try.underlying39 hi0 hz0 hz1 hz2 rfl (by decide) (.slice A k c) k _ (hu.alloc _) ⟨W.heap.size, 0, none⟩ 1 1 [.int .i64 x] rfl
    (by intro j u hj
        match j, hj with
        | 0, hj => simp at hj; subst hj; simp [Addr.add])
    (by simp [Value.oneCell']) (by simp only [maxLen]; omega) (by omega) (by simp; omega)
  obtain ⟨g, c', rfl⟩ := ownsRow_succ ho
  obtain ⟨h1, h2⟩ := apart_grown (k := k) hv ha hg hblk
  refine ⟨_, c', w', hr, by rw [List.map_append]; exact ho, h1, h2, (Below.alloc (Below.refl base W) hbase _).grown hg (by simp; omega) (fun j ej => (hu.lt j ej).1), ?_⟩
  have := hg.size
  simp at this
  omega

theorem atLow {W W' : World} {b base : Nat} {o : Obj} (h : At W b o) (hl : b < base) (hb : Below base W W') : At W' b o := (hb.block b hl).trans h

theorem own_slice {W : World} {base : Nat} {e : TypeId} {sz k : Nat} {v : Value} {xs : List Value} (h : W.ownsRow base e sz v k xs) : ∃ A c, v = .slice A k c := by
  rcases h.2 with ⟨rfl, h0⟩ | ⟨g, cap, cur, rfl, _⟩
  · exact ⟨none, 0, by rw [h0]⟩
  · exact ⟨_, _, rfl⟩

end Go.Proofs.Ytnoofdojbgkmkaa.Fix
