/- What the document's own answer for the layer flex needs: items as the document has them, rows by the index, Clamp. -/
import Derived.Test.YtefofdjkinbfgaaFlexFills
import Derived.Test.YtefofdjkinbfgaaFlexRefMath
namespace Go.Proofs.Ytefofdjkinbfgaa.Fix
open Go.ChangeShapes Go.WideShapes Go.ChangeAt Go.RowKit
set_option linter.unusedVariables false

/-- A row of bools. -/
def bRow (F : Nat → Bool) (n : Nat) : Array Value := ((List.range n).map fun j => Value.bool (F j)).toArray

theorem bRow_get (F : Nat → Bool) {n j : Nat} (h : j < n) : (bRow F n)[j]? = some (.bool (F j)) := by simp [bRow, h]

theorem bRow_size (F : Nat → Bool) (n : Nat) : (bRow F n).size = n := by simp [bRow]

theorem bRow_made (n : Nat) : madeCells #[.bool false] n = bRow (fun _ => false) n := by
  apply Array.ext
  · simp [bRow, size_madeCells]
  · intro i h1 h2
    simp [madeCells, bRow, Nat.mod_one]

theorem bRow_set (F : Nat → Bool) {n : Nat} (k : Nat) (b : Bool) : (bRow F n).setIfInBounds k (.bool b) = bRow (fun j => if j = k then b else F j) n := by
  apply Array.ext_getElem?
  intro i
  rw [Array.getElem?_setIfInBounds, bRow_size]
  by_cases hin : i < n
  · rw [bRow_get F hin, bRow_get _ hin]
    by_cases hik : k = i
    · subst hik; simp [hin]
    · simp only [hik, if_false]
      simp [Ne.symm hik]
  · have h1 : (bRow F n)[i]? = none := Array.getElem?_eq_none (by rw [bRow_size]; omega)
    have h2 : (bRow (fun j => if j = k then b else F j) n)[i]? = none := Array.getElem?_eq_none (by rw [bRow_size]; omega)
    rw [h1, h2]
    split
    · rw [if_neg (by omega)]
    · rfl

theorem boolZero : (Try.prog.info? 4).map (fun i => (i.zero, i.size, i.bytes)) = some (some (.bool false), 1, 1) := by kernel_rfl

/-- A row of integers by the index. -/
def iRow (F : Nat → Int) (n : Nat) : Array Value := ((List.range n).map fun j => Value.int .i64 (F j)).toArray
theorem iRow_get (F : Nat → Int) {n j : Nat} (h : j < n) : (iRow F n)[j]? = some (.int .i64 (F j)) := by simp [iRow, h]
theorem iRow_size (F : Nat → Int) (n : Nat) : (iRow F n).size = n := by simp [iRow]
theorem iRow_made (n : Nat) : madeCells #[.int .i64 0] n = iRow (fun _ => 0) n := by
  apply Array.ext
  · simp [iRow, size_madeCells]
  · intro i h1 h2
    simp [madeCells, iRow, Nat.mod_one]
theorem iRow_set (F G : Nat → Int) {n k : Nat} {v : Int} (hv : G k = v) (ho : ∀ i, i < n → i ≠ k → G i = F i) : (iRow F n).setIfInBounds k (.int .i64 v) = iRow G n := by
  apply Array.ext_getElem?
  intro i
  rw [Array.getElem?_setIfInBounds, iRow_size]
  by_cases hin : i < n
  · rw [iRow_get F hin, iRow_get _ hin]
    by_cases hik : k = i
    · subst hik; simp [hin, hv]
    · rw [if_neg hik, ho i hin (Ne.symm hik)]
  · have h1 : (iRow F n)[i]? = none := Array.getElem?_eq_none (by rw [iRow_size]; omega)
    have h2 : (iRow G n)[i]? = none := Array.getElem?_eq_none (by rw [iRow_size]; omega)
    rw [h1, h2]
    split
    · rw [if_neg (by omega)]
    · rfl
theorem bRow_put (F G : Nat → Bool) {n k : Nat} {v : Bool} (hv : G k = v) (ho : ∀ i, i < n → i ≠ k → G i = F i) : (bRow F n).setIfInBounds k (.bool v) = bRow G n := by
  rw [bRow_set]
  unfold bRow
  congr 1
  apply List.map_congr_left
  intro i hi
  have hi : i < n := by simpa using hi
  by_cases e : i = k
  · subst e; simp [hv]
  · simp [e, ho i hi e]
theorem iRow_same {F G : Nat → Int} {n : Nat} (h : ∀ i, i < n → F i = G i) : iRow F n = iRow G n := by
  unfold iRow
  congr 1
  apply List.map_congr_left
  intro i hi
  rw [h i (by simpa using hi)]
theorem bRow_same {F G : Nat → Bool} {n : Nat} (h : ∀ i, i < n → F i = G i) : bRow F n = bRow G n := by
  unfold bRow
  congr 1
  apply List.map_congr_left
  intro i hi
  rw [h i (by simpa using hi)]
theorem ints_of_iRow {w : World} {b : Nat} {T : TypeId} (f : Nat → Int) (n : Nat) (hn : n ≤ maxLen) (h : At w b (.cells (iRow f n) T)) : Ints w (some ⟨b, 0, none⟩) ((List.range n).map f) := by
  refine ⟨by simpa using hn, fun h0 => ⟨b, 0, rfl, fun k hk => ?_⟩⟩
  simp only [List.length_map, List.length_range] at hk
  rw [h.cell, Nat.zero_add, iRow_get _ hk]
  simp [hk]

theorem ritemInfo : (Try.prog.info? 30).map (fun i => (i.zero, i.size, i.bytes)) = some (some (.agg #[.int .i64 0, .int .i64 0, .int .i64 0, .int .i64 0, .int .i64 0]), 5, 40) := by kernel_rfl

/-- An item more behind a row of one's own. -/
theorem append_ritem {w0 W : World} {base : Nat} {v : Value} {k : Nat} {l : Nat → Fe.It} (hown : W.ownsRow base 30 5 v k (flatI l k)) (hB : Below base w0 W) (hbase : base ≤ W.heap.size) (hk : k ≤ 1000) :
    ∃ v' w', (Builtin.append_ #[24, 24] 24 #[v, .slice (some ⟨W.heap.size, 0, none⟩) 1 1]).run Try.prog (W.alloc (.cells #[.int .i64 (l k).b, .int .i64 (l k).lo, .int .i64 (l k).hi, .int .i64 (l k).g, .int .i64 (l k).s] 30)) = .ok v' w' ∧ w'.ownsRow base 30 5 v' (k + 1) (flatI l (k + 1)) ∧ Below base w0 w' ∧ base ≤ w'.heap.size := by
  obtain ⟨i0, hi0, hz0, hz1, hz2⟩ := info_parts ritemInfo
  have hA := At.new W (.cells #[.int .i64 (l k).b, .int .i64 (l k).lo, .int .i64 (l k).hi, .int .i64 (l k).g, .int .i64 (l k).s] 30)
  obtain ⟨v', w', hr, ho, hg, _, _⟩ := run_append_own_at (P := Try.prog) (w := W.alloc (.cells #[.int .i64 (l k).b, .int .i64 (l k).lo, .int .i64 (l k).hi, .int .i64 (l k).g, .int .i64 (l k).s] 30)) base 24 24 30 i0 _ 5 40 Try.underlying24 hi0 hz0 hz1 hz2 rfl (by decide) v k _ (hown.alloc _) ⟨W.heap.size, 0, none⟩ 1 1 (encI (l k)) rfl
    (by intro j u hj
        rw [addr_add, Nat.zero_add, hA.cell, ← hj]
        change (encI (l k)).toArray[j]? = (encI (l k))[j]?
        simp)
    (by simp [encI, Value.oneCell']) (by simp only [maxLen]; omega) (by omega) (by simp; omega)
  refine ⟨v', w', hr, ho, (hB.alloc hbase _).grown hg (by simp; omega) (fun g hgg => (hown.lt g hgg).1), ?_⟩
  have := hg.size
  simp at this
  omega

theorem ritems_of_own {w : World} {base : Nat} {v : Value} {n : Nat} {l : Nat → Fe.It} (h : w.ownsRow base 30 5 v n (flatI l n)) : ∃ A c, v = .slice A n c ∧ Items w A l n := by
  rcases h.2 with ⟨rfl, h0⟩ | ⟨g, cap, cur, rfl, _, hgb, _⟩
  · exact ⟨none, 0, by rw [h0], fun hp => absurd hp (by omega)⟩
  · refine ⟨_, _, rfl, fun h0 => ⟨g, 0, rfl, (Array.getElem?_eq_some_iff.1 hgb).1, fun k hk => ?_⟩⟩
    have c : ∀ j, j < 5 → w.cell? ⟨g, 0 + k * 5 + j, none⟩ = (encI (l k))[j]? := by
      intro j hj
      have e := flatI_get l hk hj
      obtain ⟨u, hu⟩ : ∃ u, (encI (l k))[j]? = some u := ⟨_, List.getElem?_eq_getElem (by simpa [encI] using hj)⟩
      rw [hu] at e ⊢
      have := h.cells (g := g) rfl (k * 5 + j) u e
      rw [addr_add] at this
      rw [← this]; congr 2; omega
    exact ⟨c 0 (by omega), c 1 (by omega), c 2 (by omega), c 3 (by omega), c 4 (by omega)⟩

theorem rxclamp5 (b lo hi g s n : Int) (w : World) : Calls Try.prog 13 #[.agg #[.int .i64 b, .int .i64 lo, .int .i64 hi, .int .i64 g, .int .i64 s], .int .i64 n] w fun e w' => e = .returned (.int .i64 (Fe.clamp ⟨b, lo, hi, g, s⟩ n)) ∧ Below w.heap.size w w' := rxclamp_any ⟨b, lo, hi, g, s⟩ n w

set_option maxHeartbeats 8000000 in
theorem of_any (A : Option Addr) (l : Nat → Fe.It) (n c : Nat) (w : World) (hI : Items w A l n) (hn : n ≤ 100) :
    Calls Try.prog 11 #[.slice A n c] w fun e w' => (∃ D d, e = .returned (.slice D n d) ∧ Items w' D l n) ∧ Below w.heap.size w w' := by
  have HI := Lib.hid hI
  clear hI
  go_enter Try.func11, Try.ntmps11
  go_wp2
  go_loopw [3, 4] (fun v i wr => ∃ k : Nat, k ≤ n ∧ i = .int .i64 k ∧ wr.ownsRow w.heap.size 30 5 v k (flatI l k) ∧ Below w.heap.size w wr) (fun _ i _ => n - (intOf i).toNat)
  case atStart => exact ⟨0, by omega, rfl, World.ownsRow_nil _ _ _ _, Below.refl _ _⟩
  case round =>
    obtain ⟨k, hk, rfl, hown, hB⟩ := hrel
    by_cases hlt : k < n
    · have hltz : (k : Int) < (n : Int) := by omega
      obtain ⟨b, off, rfl, hbl, hc⟩ := HI.out (by omega)
      obtain ⟨c0, c1, c2, c3, c4⟩ := hc k hlt
      clear hc
      have hsz := hB.size
      have hown1 := ownsRow_below hown (w := wr.drew) (Below.refl _ _).drew
      obtain ⟨v', w', hrun, hown2, hB2, hb2⟩ := append_ritem (l := l) hown1 hB.drew (by exact hsz) (by omega)
      have HO := Lib.hid hown2
      have HB2 := Lib.hid hB2
      have HRUN := Lib.hid hrun
      clear hrun hown hown1 hown2 hB2
      generalize (l k).b = x0 at *
      generalize (l k).lo = x1 at *
      generalize (l k).hi = x2 at *
      generalize (l k).g = x3 at *
      generalize (l k).s = x4 at *
      have keep : ∀ W', Below w.heap.size w W' → W'.cell? ⟨b, off + k * 5, none⟩ = some (.int .i64 x0) ∧ W'.cell? ⟨b, off + k * 5 + 1, none⟩ = some (.int .i64 x1) ∧ W'.cell? ⟨b, off + k * 5 + 2, none⟩ = some (.int .i64 x2) ∧ W'.cell? ⟨b, off + k * 5 + 3, none⟩ = some (.int .i64 x3) ∧ W'.cell? ⟨b, off + k * 5 + 4, none⟩ = some (.int .i64 x4) := fun W' h =>
        ⟨(h.cell (p := ⟨b, off + k * 5, none⟩) hbl).trans c0, (h.cell (p := ⟨b, off + k * 5 + 1, none⟩) hbl).trans c1, (h.cell (p := ⟨b, off + k * 5 + 2, none⟩) hbl).trans c2, (h.cell (p := ⟨b, off + k * 5 + 3, none⟩) hbl).trans c3, (h.cell (p := ⟨b, off + k * 5 + 4, none⟩) hbl).trans c4⟩
      go_upto_region 5 with (fail)
      refine Drawn.wp_region_gen (S := (fun W' => W'.cell? ⟨b, off + k * 5, none⟩ = some (.int .i64 x0) ∧ W'.cell? ⟨b, off + k * 5 + 1, none⟩ = some (.int .i64 x1) ∧ W'.cell? ⟨b, off + k * 5 + 2, none⟩ = some (.int .i64 x2) ∧ W'.cell? ⟨b, off + k * 5 + 3, none⟩ = some (.int .i64 x3) ∧ W'.cell? ⟨b, off + k * 5 + 4, none⟩ = some (.int .i64 x4))) 29 (by kernel_rfl) ?_ ?_
      · exact keep _ hB.drew
      intro hS0
      (refine Drawn.gen_take (i := 0) rfl (by kernel_rfl) (by kernel_rfl) (by kernel_rfl) (by kernel_rfl) (by omega) (by first | assumption | exact hS0) (by first | exact .inr ⟨by rfl, rfl⟩ | exact .inl ⟨by rfl, by intro w2 hS; obtain ⟨q0, q1, q2, q3, q4⟩ := hS; go_simp; first | done | with_reducible rfl | exact ⟨rfl, rfl⟩⟩) ?_; (try simp only [Act.put, List.setIfInBounds_toArray, List.set_cons_zero, List.set_cons_succ]))
      (refine Drawn.gen_take (i := 1) rfl (by kernel_rfl) (by kernel_rfl) (by kernel_rfl) (by kernel_rfl) (by omega) (by first | assumption | exact hS0) (by first | exact .inr ⟨by rfl, rfl⟩ | exact .inl ⟨by rfl, by intro w2 hS; obtain ⟨q0, q1, q2, q3, q4⟩ := hS; go_simp; first | done | with_reducible rfl | exact ⟨rfl, rfl⟩⟩) ?_; (try simp only [Act.put, List.setIfInBounds_toArray, List.set_cons_zero, List.set_cons_succ]))
      (refine Drawn.gen_take (i := 2) rfl (by kernel_rfl) (by kernel_rfl) (by kernel_rfl) (by kernel_rfl) (by omega) (by first | assumption | exact hS0) (by first | exact .inr ⟨by rfl, rfl⟩ | exact .inl ⟨by rfl, by intro w2 hS; obtain ⟨q0, q1, q2, q3, q4⟩ := hS; go_simp; first | done | with_reducible rfl | exact ⟨rfl, rfl⟩⟩) ?_; (try simp only [Act.put, List.setIfInBounds_toArray, List.set_cons_zero, List.set_cons_succ]))
      (refine Drawn.gen_take (i := 3) rfl (by kernel_rfl) (by kernel_rfl) (by kernel_rfl) (by kernel_rfl) (by omega) (by first | assumption | exact hS0) (by first | exact .inr ⟨by rfl, rfl⟩ | exact .inl ⟨by rfl, by intro w2 hS; obtain ⟨q0, q1, q2, q3, q4⟩ := hS; go_simp; first | done | with_reducible rfl | exact ⟨rfl, rfl⟩⟩) ?_; (try simp only [Act.put, List.setIfInBounds_toArray, List.set_cons_zero, List.set_cons_succ]))
      (refine Drawn.gen_take (i := 4) rfl (by kernel_rfl) (by kernel_rfl) (by kernel_rfl) (by kernel_rfl) (by omega) (by first | assumption | exact hS0) (by first | exact .inr ⟨by rfl, rfl⟩ | exact .inl ⟨by rfl, by intro w2 hS; obtain ⟨q0, q1, q2, q3, q4⟩ := hS; go_simp; first | done | with_reducible rfl | exact ⟨rfl, rfl⟩⟩) ?_; (try simp only [Act.put, List.setIfInBounds_toArray, List.set_cons_zero, List.set_cons_succ]))
      (refine Drawn.gen_take (i := 5) rfl (by kernel_rfl) (by kernel_rfl) (by kernel_rfl) (by kernel_rfl) (by omega) (by first | assumption | exact hS0) (by first | exact .inr ⟨by rfl, rfl⟩ | exact .inl ⟨by rfl, by intro w2 hS; obtain ⟨q0, q1, q2, q3, q4⟩ := hS; go_simp; first | done | with_reducible rfl | exact ⟨rfl, rfl⟩⟩) ?_; (try simp only [Act.put, List.setIfInBounds_toArray, List.set_cons_zero, List.set_cons_succ]))
      (refine Drawn.gen_take (i := 6) rfl (by kernel_rfl) (by kernel_rfl) (by kernel_rfl) (by kernel_rfl) (by omega) (by first | assumption | exact hS0) (by first | exact .inr ⟨by rfl, rfl⟩ | exact .inl ⟨by rfl, by intro w2 hS; obtain ⟨q0, q1, q2, q3, q4⟩ := hS; go_simp; first | done | with_reducible rfl | exact ⟨rfl, rfl⟩⟩) ?_; (try simp only [Act.put, List.setIfInBounds_toArray, List.set_cons_zero, List.set_cons_succ]))
      (refine Drawn.gen_take (i := 7) rfl (by kernel_rfl) (by kernel_rfl) (by kernel_rfl) (by kernel_rfl) (by omega) (by first | assumption | exact hS0) (by first | exact .inr ⟨by rfl, rfl⟩ | exact .inl ⟨by rfl, by intro w2 hS; obtain ⟨q0, q1, q2, q3, q4⟩ := hS; go_simp; first | done | with_reducible rfl | exact ⟨rfl, rfl⟩⟩) ?_; (try simp only [Act.put, List.setIfInBounds_toArray, List.set_cons_zero, List.set_cons_succ]))
      (refine Drawn.gen_take (i := 8) rfl (by kernel_rfl) (by kernel_rfl) (by kernel_rfl) (by kernel_rfl) (by omega) (by first | assumption | exact hS0) (by first | exact .inr ⟨by rfl, rfl⟩ | exact .inl ⟨by rfl, by intro w2 hS; obtain ⟨q0, q1, q2, q3, q4⟩ := hS; go_simp; first | done | with_reducible rfl | exact ⟨rfl, rfl⟩⟩) ?_; (try simp only [Act.put, List.setIfInBounds_toArray, List.set_cons_zero, List.set_cons_succ]))
      (refine Drawn.gen_take (i := 9) rfl (by kernel_rfl) (by kernel_rfl) (by kernel_rfl) (by kernel_rfl) (by omega) (by first | assumption | exact hS0) (by first | exact .inr ⟨by rfl, rfl⟩ | exact .inl ⟨by rfl, by intro w2 hS; obtain ⟨q0, q1, q2, q3, q4⟩ := hS; go_simp; first | done | with_reducible rfl | exact ⟨rfl, rfl⟩⟩) ?_; (try simp only [Act.put, List.setIfInBounds_toArray, List.set_cons_zero, List.set_cons_succ]))
      (refine Drawn.gen_take (i := 10) rfl (by kernel_rfl) (by kernel_rfl) (by kernel_rfl) (by kernel_rfl) (by omega) (by first | assumption | exact hS0) (by first | exact .inr ⟨by rfl, rfl⟩ | exact .inl ⟨by rfl, by intro w2 hS; obtain ⟨q0, q1, q2, q3, q4⟩ := hS; go_simp; first | done | with_reducible rfl | exact ⟨rfl, rfl⟩⟩) ?_; (try simp only [Act.put, List.setIfInBounds_toArray, List.set_cons_zero, List.set_cons_succ]))
      (refine Drawn.gen_take (i := 11) rfl (by kernel_rfl) (by kernel_rfl) (by kernel_rfl) (by kernel_rfl) (by omega) (by first | assumption | exact hS0) (by first | exact .inr ⟨by rfl, rfl⟩ | exact .inl ⟨by rfl, by intro w2 hS; obtain ⟨q0, q1, q2, q3, q4⟩ := hS; go_simp; first | done | with_reducible rfl | exact ⟨rfl, rfl⟩⟩) ?_; (try simp only [Act.put, List.setIfInBounds_toArray, List.set_cons_zero, List.set_cons_succ]))
      (refine Drawn.gen_take (i := 12) rfl (by kernel_rfl) (by kernel_rfl) (by kernel_rfl) (by kernel_rfl) (by omega) (by first | assumption | exact hS0) (by first | exact .inr ⟨by rfl, rfl⟩ | exact .inl ⟨by rfl, by intro w2 hS; obtain ⟨q0, q1, q2, q3, q4⟩ := hS; go_simp; first | done | with_reducible rfl | exact ⟨rfl, rfl⟩⟩) ?_; (try simp only [Act.put, List.setIfInBounds_toArray, List.set_cons_zero, List.set_cons_succ]))
      (refine Drawn.gen_take (i := 13) rfl (by kernel_rfl) (by kernel_rfl) (by kernel_rfl) (by kernel_rfl) (by omega) (by first | assumption | exact hS0) (by first | exact .inr ⟨by rfl, rfl⟩ | exact .inl ⟨by rfl, by intro w2 hS; obtain ⟨q0, q1, q2, q3, q4⟩ := hS; go_simp; first | done | with_reducible rfl | exact ⟨rfl, rfl⟩⟩) ?_; (try simp only [Act.put, List.setIfInBounds_toArray, List.set_cons_zero, List.set_cons_succ]))
      (refine Drawn.gen_take (i := 14) rfl (by kernel_rfl) (by kernel_rfl) (by kernel_rfl) (by kernel_rfl) (by omega) (by first | assumption | exact hS0) (by first | exact .inr ⟨by rfl, rfl⟩ | exact .inl ⟨by rfl, by intro w2 hS; obtain ⟨q0, q1, q2, q3, q4⟩ := hS; go_simp; first | done | with_reducible rfl | exact ⟨rfl, rfl⟩⟩) ?_; (try simp only [Act.put, List.setIfInBounds_toArray, List.set_cons_zero, List.set_cons_succ]))
      (refine Drawn.gen_take (i := 15) rfl (by kernel_rfl) (by kernel_rfl) (by kernel_rfl) (by kernel_rfl) (by omega) (by first | assumption | exact hS0) (by first | exact .inr ⟨by rfl, rfl⟩ | exact .inl ⟨by rfl, by intro w2 hS; obtain ⟨q0, q1, q2, q3, q4⟩ := hS; go_simp; first | done | with_reducible rfl | exact ⟨rfl, rfl⟩⟩) ?_; (try simp only [Act.put, List.setIfInBounds_toArray, List.set_cons_zero, List.set_cons_succ]))
      (refine Drawn.gen_take (i := 16) rfl (by kernel_rfl) (by kernel_rfl) (by kernel_rfl) (by kernel_rfl) (by omega) (by first | assumption | exact hS0) (by first | exact .inr ⟨by rfl, rfl⟩ | exact .inl ⟨by rfl, by intro w2 hS; obtain ⟨q0, q1, q2, q3, q4⟩ := hS; go_simp; first | done | with_reducible rfl | exact ⟨rfl, rfl⟩⟩) ?_; (try simp only [Act.put, List.setIfInBounds_toArray, List.set_cons_zero, List.set_cons_succ]))
      (refine Drawn.gen_take (i := 17) rfl (by kernel_rfl) (by kernel_rfl) (by kernel_rfl) (by kernel_rfl) (by omega) (by first | assumption | exact hS0) (by first | exact .inr ⟨by rfl, rfl⟩ | exact .inl ⟨by rfl, by intro w2 hS; obtain ⟨q0, q1, q2, q3, q4⟩ := hS; go_simp; first | done | with_reducible rfl | exact ⟨rfl, rfl⟩⟩) ?_; (try simp only [Act.put, List.setIfInBounds_toArray, List.set_cons_zero, List.set_cons_succ]))
      (refine Drawn.gen_take (i := 18) rfl (by kernel_rfl) (by kernel_rfl) (by kernel_rfl) (by kernel_rfl) (by omega) (by first | assumption | exact hS0) (by first | exact .inr ⟨by rfl, rfl⟩ | exact .inl ⟨by rfl, by intro w2 hS; obtain ⟨q0, q1, q2, q3, q4⟩ := hS; go_simp; first | done | with_reducible rfl | exact ⟨rfl, rfl⟩⟩) ?_; (try simp only [Act.put, List.setIfInBounds_toArray, List.set_cons_zero, List.set_cons_succ]))
      (refine Drawn.gen_take (i := 19) rfl (by kernel_rfl) (by kernel_rfl) (by kernel_rfl) (by kernel_rfl) (by omega) (by first | assumption | exact hS0) (by first | exact .inr ⟨by rfl, rfl⟩ | exact .inl ⟨by rfl, by intro w2 hS; obtain ⟨q0, q1, q2, q3, q4⟩ := hS; go_simp; first | done | with_reducible rfl | exact ⟨rfl, rfl⟩⟩) ?_; (try simp only [Act.put, List.setIfInBounds_toArray, List.set_cons_zero, List.set_cons_succ]))
      (refine Drawn.gen_take (i := 20) rfl (by kernel_rfl) (by kernel_rfl) (by kernel_rfl) (by kernel_rfl) (by omega) (by first | assumption | exact hS0) (by first | exact .inr ⟨by rfl, rfl⟩ | exact .inl ⟨by rfl, by intro w2 hS; obtain ⟨q0, q1, q2, q3, q4⟩ := hS; go_simp; first | done | with_reducible rfl | exact ⟨rfl, rfl⟩⟩) ?_; (try simp only [Act.put, List.setIfInBounds_toArray, List.set_cons_zero, List.set_cons_succ]))
      (refine Drawn.gen_take (i := 21) rfl (by kernel_rfl) (by kernel_rfl) (by kernel_rfl) (by kernel_rfl) (by omega) (by first | assumption | exact hS0) (by first | exact .inr ⟨by rfl, rfl⟩ | exact .inl ⟨by rfl, by intro w2 hS; obtain ⟨q0, q1, q2, q3, q4⟩ := hS; go_simp; first | done | with_reducible rfl | exact ⟨rfl, rfl⟩⟩) ?_; (try simp only [Act.put, List.setIfInBounds_toArray, List.set_cons_zero, List.set_cons_succ]))
      (refine Drawn.gen_take (i := 22) rfl (by kernel_rfl) (by kernel_rfl) (by kernel_rfl) (by kernel_rfl) (by omega) (by first | assumption | exact hS0) (by first | exact .inr ⟨by rfl, rfl⟩ | exact .inl ⟨by rfl, by intro w2 hS; obtain ⟨q0, q1, q2, q3, q4⟩ := hS; go_simp; first | done | with_reducible rfl | exact ⟨rfl, rfl⟩⟩) ?_; (try simp only [Act.put, List.setIfInBounds_toArray, List.set_cons_zero, List.set_cons_succ]))
      (refine Drawn.gen_take (i := 23) rfl (by kernel_rfl) (by kernel_rfl) (by kernel_rfl) (by kernel_rfl) (by omega) (by first | assumption | exact hS0) (by first | exact .inr ⟨by rfl, rfl⟩ | exact .inl ⟨by rfl, by intro w2 hS; obtain ⟨q0, q1, q2, q3, q4⟩ := hS; go_simp; first | done | with_reducible rfl | exact ⟨rfl, rfl⟩⟩) ?_; (try simp only [Act.put, List.setIfInBounds_toArray, List.set_cons_zero, List.set_cons_succ]))
      (refine Drawn.gen_take (i := 24) rfl (by kernel_rfl) (by kernel_rfl) (by kernel_rfl) (by kernel_rfl) (by omega) (by first | assumption | exact hS0) (by first | exact .inr ⟨by rfl, rfl⟩ | exact .inl ⟨by rfl, by intro w2 hS; obtain ⟨q0, q1, q2, q3, q4⟩ := hS; go_simp; first | done | with_reducible rfl | exact ⟨rfl, rfl⟩⟩) ?_; (try simp only [Act.put, List.setIfInBounds_toArray, List.set_cons_zero, List.set_cons_succ]))
      (refine Drawn.gen_take (i := 25) rfl (by kernel_rfl) (by kernel_rfl) (by kernel_rfl) (by kernel_rfl) (by omega) (by first | assumption | exact hS0) (by first | exact .inr ⟨by rfl, rfl⟩ | exact .inl ⟨by rfl, by intro w2 hS; obtain ⟨q0, q1, q2, q3, q4⟩ := hS; go_simp; first | done | with_reducible rfl | exact ⟨rfl, rfl⟩⟩) ?_; (try simp only [Act.put, List.setIfInBounds_toArray, List.set_cons_zero, List.set_cons_succ]))
      (refine Drawn.gen_take (i := 26) rfl (by kernel_rfl) (by kernel_rfl) (by kernel_rfl) (by kernel_rfl) (by omega) (by first | assumption | exact hS0) (by first | exact .inr ⟨by rfl, rfl⟩ | exact .inl ⟨by rfl, by intro w2 hS; obtain ⟨q0, q1, q2, q3, q4⟩ := hS; go_simp; first | done | with_reducible rfl | exact ⟨rfl, rfl⟩⟩) ?_; (try simp only [Act.put, List.setIfInBounds_toArray, List.set_cons_zero, List.set_cons_succ]))
      refine Drawn.gen_one (i := 27) (by kernel_rfl) rfl (by rfl) ?_
      refine Drawn.Step.value (by go_simp; first | done | with_reducible rfl | exact ⟨rfl, rfl⟩) ?_; refine ⟨by first | (intro hlt; exact absurd hlt (by decide)) | (intro _; exact keep _ (Below.alloc' hB.drew _)), ?_⟩; (try simp only [Act.put, List.setIfInBounds_toArray, List.set_cons_zero, List.set_cons_succ])
      refine Drawn.gen_one (i := 28) (by kernel_rfl) rfl (by rfl) ?_
      refine Drawn.Step.value (run_append_op (.tmp 11) (.tmp 38) 24 rfl rfl rfl HRUN.out) ⟨fun _ => keep _ HB2.out, ?_⟩
      (try simp only [Act.put, List.setIfInBounds_toArray, List.set_cons_zero, List.set_cons_succ])
      refine Drawn.gen_one (i := 29) (by kernel_rfl) rfl (by rfl) ?_
      refine Drawn.Step.value (by go_simp; first | done | with_reducible rfl | exact ⟨rfl, rfl⟩) ?_; refine ⟨by first | (intro hlt; exact absurd hlt (by decide)) | (intro _; omega), ?_⟩; (try simp only [Act.put, List.setIfInBounds_toArray, List.set_cons_zero, List.set_cons_succ])
      refine Drawn.gen_end (by kernel_rfl) ?_
      go_wp2
      go_roundw
      case rel => exact ⟨k + 1, by omega, by go_num, HO.out, HB2.out⟩
      case measure => simp [intOf]; omega
    · obtain rfl : k = n := by omega
      have hltz : ¬ (k : Int) < (k : Int) := by omega
      obtain ⟨D, d, rfl, hID⟩ := ritems_of_own hown
      go_wp2
      refine bodyPost_ret (v := .slice D k d) (by simp [results, Try.results11, go_sem, *]; first | done | exact ⟨rfl, rfl⟩ | rfl) rfl ⟨⟨D, ⟨d, rfl⟩, hID⟩, hB⟩

end Go.Proofs.Ytefofdjkinbfgaa.Fix
