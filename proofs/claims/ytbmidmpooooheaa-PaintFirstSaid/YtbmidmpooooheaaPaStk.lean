/- What the program keeps of layers: for each a row of what is just in it; as plain lists, and in memory. -/
import Derived.Test.YtbmidmpooooheaaPaLays
import Derived.Test.YtbmidmpooooheaaPaSortStable
namespace Go.Proofs.Ytbmidmpooooheaa.Fix
open Go.ChangeShapes Go.WideShapes Go.ChangeAt Go.RowKit Go.Deep Go.Joins
set_option linter.unusedVariables false
set_option linter.unusedSimpArgs false
set_option maxRecDepth 100000

def plist (l : Nat → PNd) (n : Nat) (z : Int) : List Nat := (List.range n).filter fun i => laI l i == z
def pstack (l : Nat → PNd) (n : Nat) (z : Int) : List Nat := Pa.srt (fun i => plev (l i)) (plist l n z)

theorem plist_succ (l : Nat → PNd) (k : Nat) (z : Int) : plist l (k + 1) z = if z = laI l k then plist l k z ++ [k] else plist l k z := by
  unfold plist
  rw [List.range_succ, List.filter_append]
  by_cases h : laI l k = z
  · simp [h]
  · rw [if_neg (Ne.symm h)]; simp [h]
theorem nodup_plist (l : Nat → PNd) (n : Nat) (z : Int) : (plist l n z).Nodup := List.nodup_range.filter _
theorem sorted_plist (l : Nat → PNd) (n : Nat) (z : Int) : (plist l n z).Pairwise (· < ·) := List.pairwise_lt_range.filter _
theorem mem_plist {l : Nat → PNd} {n : Nat} {z : Int} {x : Nat} : x ∈ plist l n z ↔ x < n ∧ laI l x = z := by simp [plist]
theorem length_plist (l : Nat → PNd) (n : Nat) (z : Int) : (plist l n z).length ≤ n := by
  have := List.length_filter_le (fun i => laI l i == z) (List.range n)
  simpa [plist] using this
theorem length_pstack (l : Nat → PNd) (n : Nat) (z : Int) : (pstack l n z).length = (plist l n z).length := (Pa.srt_perm _ _).length_eq
theorem mem_pstack {l : Nat → PNd} {n : Nat} {z : Int} {x : Nat} : x ∈ pstack l n z ↔ x < n ∧ laI l x = z := by unfold pstack; rw [Pa.mem_srt, mem_plist]

theorem laI_pos {l : Nat → PNd} {x a : Nat} : laI l x = (a : Int) ↔ 0 < x ∧ pla l x = a := by
  unfold laI
  split
  · rename_i h
    constructor
    · intro q; omega
    · intro q; omega
  · constructor
    · intro q; exact ⟨by omega, by omega⟩
    · intro q; rw [q.2]

/-- sorted by level and place: those of a Z below 0, what is no layer, the others -/
theorem pstack_eq (l : Nat → PNd) (n a : Nat) : pstack l n (a : Int) = Pa.low n (pla l) (ply l) (pz l) a ++ (Pa.plain n (pla l) (ply l) a ++ Pa.high n (pla l) (ply l) (pz l) a) := by
  have e1 : ∀ x, ply l x = true → plev (l x) = 2 * pz l x + 1 := fun x h => by unfold plev; unfold ply at h; rw [if_pos h]; rfl
  have e0 : ∀ x, ply l x = false → plev (l x) = 0 := fun x h => by unfold plev; unfold ply at h; rw [if_neg (by rw [h]; simp)]
  refine Pa.sorted_eq (z := fun i => plev (l i)) (Pa.srt_sorted (nodup_plist l n a)) ?_ ?_
  · rw [List.pairwise_append, List.pairwise_append]
    refine ⟨(Pa.sorted_low a).imp_of_mem fun {x y} hx hy h => ?_, ⟨(Pa.sorted_plain a).imp_of_mem fun {x y} hx hy h => ?_, (Pa.sorted_high a).imp_of_mem fun {x y} hx hy h => ?_, fun x hx y hy => ?_⟩, fun x hx y hy => ?_⟩
    · unfold Pa.Lt at *
      simp only [e1 x (Pa.mem_low.1 hx).2.1, e1 y (Pa.mem_low.1 hy).2.1]
      omega
    · exact .inr ⟨(e0 x (Pa.mem_plain.1 hx).2).trans (e0 y (Pa.mem_plain.1 hy).2).symm, h⟩
    · unfold Pa.Lt at *
      simp only [e1 x (Pa.mem_high.1 hx).2.1, e1 y (Pa.mem_high.1 hy).2.1]
      omega
    · unfold Pa.Lt
      have := (Pa.mem_high.1 hy).2.2
      simp only [e0 x (Pa.mem_plain.1 hx).2, e1 y (Pa.mem_high.1 hy).2.1]
      omega
    · unfold Pa.Lt
      have := (Pa.mem_low.1 hx).2.2
      rcases List.mem_append.1 hy with hy | hy
      · simp only [e1 x (Pa.mem_low.1 hx).2.1, e0 y (Pa.mem_plain.1 hy).2]
        omega
      · have := (Pa.mem_high.1 hy).2.2
        simp only [e1 x (Pa.mem_low.1 hx).2.1, e1 y (Pa.mem_high.1 hy).2.1]
        omega
  · intro x
    rw [mem_pstack, laI_pos, List.mem_append, List.mem_append, Pa.mem_low, Pa.mem_plain, Pa.mem_high]
    cases hb : ply l x
    · simp
    · simp
      constructor
      · intro h; by_cases hz : pz l x < 0
        · exact .inl ⟨h, hz⟩
        · exact .inr ⟨h, by omega⟩
      · rintro (h | h)
        · exact h.1
        · exact h.1

theorem list_at (L : List Nat) : L = (List.range L.length).map fun j => L.getD j 0 := by
  apply List.ext_getElem
  · simp
  · intro i h1 h2
    simp [List.getD, List.getElem?_eq_getElem h1]

/-- what the sort comes to -/
theorem stack_of_blk {ks : PKS} {Y : Nat → Nat} {L : List Nat} (h : So.Blk (pkey ks) 0 L.length Y) (hV : ∀ k, ks.V k = L.getD k 0) (hs : L.Pairwise (· < ·)) : (List.range L.length).map (fun k => ks.V (Y k)) = Pa.srt (fun i => plev (ks.l i)) L := by
  have hmono : ∀ p q, p < q → q < L.length → ks.V p < ks.V q := fun p q hpq hq => by
    rw [hV, hV, List.getD, List.getD, List.getElem?_eq_getElem (by omega), List.getElem?_eq_getElem hq]
    exact List.pairwise_iff_getElem.1 hs p q (by omega) hq hpq
  refine Pa.sorted_eq (z := fun i => plev (ks.l i)) ?_ (Pa.srt_sorted (hs.imp fun h => Nat.ne_of_lt h)) ?_
  · rw [List.pairwise_map]
    refine List.pairwise_lt_range.imp_of_mem fun {p q} hp hq hpq => ?_
    have hq' := List.mem_range.1 hq
    have hl := h.1 p q (Nat.zero_le _) hpq hq'
    have h1 := (h.2.in_ (k := p) (Nat.zero_le _) (by omega)).2
    have h2 := (h.2.in_ (k := q) (Nat.zero_le _) hq').2
    rcases hl with hl | ⟨hl, hl2⟩
    · exact .inl hl
    · exact .inr ⟨hl, hmono _ _ hl2 h2⟩
  · intro x
    rw [Pa.mem_srt, List.mem_map]
    constructor
    · rintro ⟨k, hk, rfl⟩
      have h1 := (h.2.in_ (k := k) (Nat.zero_le _) (List.mem_range.1 hk)).2
      rw [hV, List.getD, List.getElem?_eq_getElem h1]
      exact List.getElem_mem _
    · intro hx
      obtain ⟨i, hi, rfl⟩ := List.mem_iff_getElem.1 hx
      obtain ⟨k, _, h2, h3⟩ := (h.2 i).2 ⟨Nat.zero_le _, hi⟩
      exact ⟨k, List.mem_range.2 h2, by rw [h3, hV, List.getD, List.getElem?_eq_getElem hi]; rfl⟩

/-! in memory -/
def pvals (l : List Nat) : List Value := (pints l).map (Value.int .i64)
theorem pvals_len (l : List Nat) : (pvals l).length = l.length := by simp [pvals, pints]
/-- v is the row l, at the beginning of a block -/
def Rv (W : World) (v : Value) (l : List Nat) : Prop := (v = .slice none 0 0 ∧ l = []) ∨ ∃ (g c : Nat) (T : Array Value), v = .slice (some ⟨g, 0, none⟩) l.length c ∧ l.length ≤ c ∧ c ≤ maxLen ∧ At W g (.cells ((pvals l).toArray ++ T) 3)

theorem Rv.out {M : Nat → Prop} {W W' : World} {v : Value} {l : List Nat} (h : Rv W v l) (hm : ∀ g, v.ownBlock = some g → ¬ M g) (k : Out M W W') : Rv W' v l := by
  rcases h with h | ⟨g, c, T, rfl, h1, h2, h3⟩
  · exact .inl h
  · exact .inr ⟨g, c, T, rfl, h1, h2, h3.out (hm g rfl) k⟩
theorem Rv.of_own {W : World} {base : Nat} {v : Value} {l : List Nat} (h : W.ownsRow base 3 1 v l.length (pvals l)) : Rv W v l := by
  rcases h.2 with ⟨rfl, h0⟩ | ⟨g, cap, cur, rfl, _, hg, h1, h2, h3, h4⟩
  · exact .inl ⟨rfl, List.eq_nil_of_length_eq_zero h0⟩
  · refine .inr ⟨g, cap, (cur.toList.drop l.length).toArray, rfl, h1, h2, ?_⟩
    have e : (pvals l).toArray ++ (cur.toList.drop l.length).toArray = cur := by
      apply Array.ext'
      have h5 : cur.toList.take l.length = pvals l := by simpa using h4
      simp only [Array.toList_append]
      rw [← h5, List.take_append_drop]
    rw [e]
    exact hg
theorem Rv.ints {W : World} {v : Value} {l : List Nat} (h : Rv W v l) : ∃ A c, v = .slice A l.length c ∧ Ints W A (pints l) ∧ l.length ≤ c ∧ c ≤ maxLen ∧ (A = none → c = 0) := by
  rcases h with ⟨rfl, rfl⟩ | ⟨g, c, T, rfl, h1, h2, h3⟩
  · exact ⟨none, 0, rfl, ⟨by simp [pints], fun h => absurd h (by simp [pints])⟩, by simp, by simp [maxLen], fun _ => rfl⟩
  · refine ⟨_, c, rfl, ⟨by rw [pints_len]; omega, fun h0 => ⟨g, 0, rfl, fun k hk => ?_⟩⟩, h1, h2, fun e => by cases e⟩
    rw [pints_len] at hk
    rw [Nat.zero_add, h3.cell, Array.getElem?_append_left (by simpa [pvals_len] using hk)]
    simp [pvals, List.getElem?_eq_getElem (show k < (pints l).length by rw [pints_len]; exact hk), List.getD]
theorem Rv.lt {W : World} {v : Value} {l : List Nat} (h : Rv W v l) {g : Nat} (hg : v.ownBlock = some g) : g < W.heap.size := by
  rcases h with ⟨rfl, _⟩ | ⟨g', c, T, rfl, _, _, h3⟩
  · cases hg
  · simp [Value.ownBlock] at hg
    subst hg
    exact h3.lt

theorem pvals_row (L : List Nat) (V : Nat → Nat) (hV : ∀ k, V k = L.getD k 0) : (pvals L).toArray = pRow V L.length := by
  unfold pRow pvals pints
  congr 1
  conv => lhs; rw [list_at L]
  rw [List.map_map, List.map_map]
  exact List.map_congr_left fun j _ => by simp [hV]
theorem pRow_vals (X : Nat → Nat) (n : Nat) : pRow X n = (pvals ((List.range n).map X)).toArray := by
  unfold pRow pvals pints
  congr 1
  rw [List.map_map, List.map_map]
  rfl

/-- while rows are filled: block mb leads to the rows B, which read as f -/
structure Fill (W : World) (mb base N : Nat) (B : Int → Value) (f : Int → List Nat) : Prop where
  gm : ∃ m g, m ≤ N ∧ GM 3 W mb m g ∧ ∀ z, Wf z → (g (.int .i64 z)).getD (.slice none 0 0) = B z ∧ (g (.int .i64 z) = none → f z = []) ∧ ((g (.int .i64 z)).isSome = true → f z ≠ [])
  rows : ∀ z, W.ownsRow base 3 1 (B z) (f z).length (pvals (f z))
  apart : ∀ y z g, y ≠ z → (B y).ownBlock = some g → (B z).ownBlock ≠ some g
  mbl : mb < base
  le : base ≤ W.heap.size

def vset (B : Int → Value) (z : Int) (v : Value) : Int → Value := fun y => if y = z then v else B y
def fset (f : Int → List Nat) (z : Int) (v : List Nat) : Int → List Nat := fun y => if y = z then v else f y

theorem Fill.look {W : World} {mb base N : Nat} {B : Int → Value} {f : Int → List Nat} (h : Fill W mb base N B f) {z : Int} (hz : Wf z) : (Instr.lookup 47 (.map (some mb)) (.int .i64 z) false).run Try.prog W = .ok (B z) W := by
  obtain ⟨m, g, hm, hg, hgz⟩ := h.gm
  rw [hg.look keyLaw Try.underlying47 (z := .slice none 0 0) (by kernel_rfl) (key_int hz), (hgz z hz).1]

theorem Fill.push {W : World} {mb base N : Nat} {B : Int → Value} {f : Int → List Nat} (h : Fill W mb base N B f) {z : Int} (hz : Wf z) (x : Nat) (hl : (f z).length ≤ 10000) (hN : N ≤ 10000) :
    ∃ v' W' W2, (Builtin.append_ #[26, 26] 26 #[B z, .slice (some ⟨W.heap.size, 0, none⟩) 1 1]).run Try.prog (W.alloc (.cells #[.int .i64 (x : Int)] 3)) = .ok v' W' ∧ (Instr.mapUpdate 47 (.map (some mb)) (.int .i64 z) v').run Try.prog W' = .ok () W2 ∧
      Fill W2 mb base (N + 1) (vset B z v') (fset f z (f z ++ [x])) ∧ Out (fun b => b = mb ∨ base ≤ b) W W2 := by
  obtain ⟨i0, hi0, hz0, hz1, hz2⟩ := info_parts intZero
  obtain ⟨m, g, hm, hg, hgz⟩ := h.gm
  have hA := At.new W (.cells #[.int .i64 (x : Int)] 3)
  have hB1 : Below W.heap.size W (W.alloc (.cells #[.int .i64 (x : Int)] 3)) := Below.alloc' (Below.refl _ _) _
  have hs1 : (W.alloc (.cells #[.int .i64 (x : Int)] 3)).heap.size = W.heap.size + 1 := by simp
  have hbl := h.le
  have hmb := h.mbl
  have hown : ∀ y g', (B y).ownBlock = some g' → base ≤ g' ∧ g' < W.heap.size := fun y g' hy => World.ownsRow.lt (h.rows y) g' hy
  obtain ⟨v', w', hr, ho, hgr, _, hblk⟩ := run_append_own_at (P := Try.prog) (w := W.alloc (.cells #[.int .i64 (x : Int)] 3)) base 26 26 3 i0 (.int .i64 0) 1 8 Try.underlying26 hi0 hz0 hz1 hz2 rfl (by decide) (B z) (f z).length _ ((h.rows z).alloc _) ⟨W.heap.size, 0, none⟩ 1 1 [.int .i64 (x : Int)] rfl
    (by intro j u hj
        rw [addr_add, Nat.zero_add, hA.cell, ← hj]
        simp)
    (by simp [Value.oneCell']) (by simp only [maxLen]; omega) (by omega) (by simp; omega)
  have hv' : ∀ g', v'.ownBlock = some g' → (B z).ownBlock = some g' ∨ g' = W.heap.size + 1 := fun g' hg' => by
    rcases hblk with e | e
    · exact .inl (e ▸ hg')
    · rw [e] at hg'; injection hg' with hg'; exact .inr (by omega)
  have o1 : Out (fun b => (B z).ownBlock = some b) (W.alloc (.cells #[.int .i64 (x : Int)] 3)) w' := Out.grown hgr fun b e => e
  have hg2 : GM 3 w' mb m g := (hg.keep hB1).out (M := fun b => (B z).ownBlock = some b) (fun e => by have := hown z mb e; omega) o1
  obtain ⟨W2, m2, hm2, hrun, hg3, o2⟩ := hg2.put (v := v') keyLaw Try.underlying47 (by simp only [maxLen]; omega) (key_int hz)
  have e1 := o1.size
  have e2 := o2.size
  refine ⟨v', w', W2, hr, hrun, ⟨⟨m2, _, by omega, hg3, fun y hy => ?_⟩, fun y => ?_, fun y y' g' hyy h1 h2 => ?_, hmb, by omega⟩, ?_⟩
  · by_cases e : y = z
    · subst e
      rw [gset_same]
      unfold vset fset
      simp
    · rw [gset_off (key_ne e)]
      unfold vset fset
      rw [if_neg e, if_neg e]
      exact hgz y hy
  · by_cases e : y = z
    · subst e
      unfold vset fset
      rw [if_pos rfl, if_pos rfl]
      have ho2 := ownsRow_out ho (M := fun b => b = mb) (fun g' hg' q => by
        rcases hv' g' hg' with r | r
        · have := hown y g' r; omega
        · omega) o2
      simpa [pvals, pints] using ho2
    · unfold vset fset
      rw [if_neg e, if_neg e]
      exact ownsRow_out (ownsRow_out ((h.rows y).alloc _) (M := fun b => (B z).ownBlock = some b) (fun g' hg' q => h.apart y z g' e hg' q) o1) (M := fun b => b = mb) (fun g' hg' q => by have := hown y g' hg'; omega) o2
  · unfold vset at h1 h2
    by_cases a : y = z
    · subst a
      rw [if_pos rfl] at h1
      rw [if_neg (Ne.symm hyy)] at h2
      rcases hv' g' h1 with r | r
      · exact h.apart y y' g' hyy r h2
      · have := hown y' g' h2; omega
    · rw [if_neg a] at h1
      by_cases b : y' = z
      · subst b
        rw [if_pos rfl] at h2
        rcases hv' g' h2 with r | r
        · exact h.apart y y' g' hyy h1 r
        · have := hown y g' h1; omega
      · rw [if_neg b] at h2
        exact h.apart y y' g' hyy h1 h2
  · have o3 : Out (fun b => b = mb ∨ base ≤ b) W (W.alloc (.cells #[.int .i64 (x : Int)] 3)) := Out.of_below hB1
    refine Out.trans' (Out.trans' o3 o1 fun b hb e => .inr (hown z b e).1) o2 fun b hb e => .inl e

theorem Fill.start {W : World} {mb base N : Nat} {g : Lit → Option Value} (h : GM 3 W mb 0 g) (hg : ∀ z, g (.int .i64 z) = none) (hm : mb < base) (hb : base ≤ W.heap.size) (f : Int → List Nat) (hf : ∀ z, f z = []) : Fill W mb base N (fun _ => .slice none 0 0) f := by
  refine ⟨⟨0, g, Nat.zero_le _, h, fun z hz => ⟨by rw [hg]; rfl, fun _ => hf z, fun q => (by rw [hg] at q; cases q)⟩⟩, fun z => ?_, fun y z g' _ q => (by cases q), hm, hb⟩
  rw [hf]
  exact World.ownsRow_nil _ _ _ _

/-- block mb leads each number to its stack; all of it lies from lo on, ahead of hi -/
structure Stacks (W : World) (mb lo hi : Nat) (l : Nat → PNd) (n : Nat) : Prop where
  gm : ∃ m g, GM 3 W mb m g ∧ ∀ z, Wf z → Rv W ((g (.int .i64 z)).getD (.slice none 0 0)) (pstack l n z) ∧ ∀ b, ((g (.int .i64 z)).getD (.slice none 0 0)).ownBlock = some b → lo ≤ b ∧ b < hi
  mbl : lo ≤ mb ∧ mb < hi
  le : hi ≤ W.heap.size

theorem Stacks.out {M : Nat → Prop} {W W' : World} {mb lo hi : Nat} {l : Nat → PNd} {n : Nat} (h : Stacks W mb lo hi l n) (hm : ∀ b, lo ≤ b → b < hi → ¬ M b) (k : Out M W W') : Stacks W' mb lo hi l n := by
  obtain ⟨m, g, hg, hz⟩ := h.gm
  exact ⟨⟨m, g, hg.out (hm mb h.mbl.1 h.mbl.2) k, fun z w => ⟨(hz z w).1.out (fun b hb => hm b ((hz z w).2 b hb).1 ((hz z w).2 b hb).2) k, (hz z w).2⟩⟩, h.mbl, Nat.le_trans h.le k.size⟩
theorem Stacks.after {W W' : World} {mb lo hi : Nat} {l : Nat → PNd} {n : Nat} (h : Stacks W mb lo hi l n) (k : Below W.heap.size W W') : Stacks W' mb lo hi l n := h.out (M := fun _ => False) (fun _ _ _ q => q) (Out.of_below k)
theorem Stacks.look {W : World} {mb lo hi : Nat} {l : Nat → PNd} {n : Nat} (h : Stacks W mb lo hi l n) {z : Int} (hz : Wf z) : ∃ v, (Instr.lookup 47 (.map (some mb)) (.int .i64 z) false).run Try.prog W = .ok v W ∧ Rv W v (pstack l n z) ∧ ∀ b, v.ownBlock = some b → lo ≤ b ∧ b < hi := by
  obtain ⟨m, g, hg, h2⟩ := h.gm
  exact ⟨_, hg.look keyLaw Try.underlying47 (z := .slice none 0 0) (by kernel_rfl) (key_int hz), h2 z hz⟩

end Go.Proofs.Ytbmidmpooooheaa.Fix
