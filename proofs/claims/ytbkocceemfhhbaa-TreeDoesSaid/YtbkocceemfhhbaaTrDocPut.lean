/- The document's tree: what a store does to it; New, Set. -/
import Derived.Test.YtbkocceemfhhbaaTrDocIn
import Derived.Test.YtbkocceemfhhbaaRecRefV
namespace Go.Proofs.Ytbkocceemfhhbaa.Fix
open Go.ChangeShapes Go.WideShapes Go.ChangeAt Go.RowKit Go.Deep Go.Joins Go.Shelf
set_option linter.unusedVariables false
set_option linter.unusedSimpArgs false
set_option maxRecDepth 100000

/-- a part of a row, put anew -/
def splice (cur : Array Value) (o : Nat) (cs : Array Value) : Array Value := (cur.toList.take o ++ cs.toList ++ cur.toList.drop (o + cs.size)).toArray
theorem splice_size {cur : Array Value} {o : Nat} {cs : Array Value} (h : o + cs.size ≤ cur.size) : (splice cur o cs).size = cur.size := by
  unfold splice
  simp only [List.size_toArray, List.length_append, List.length_take, List.length_drop, Array.length_toList]
  omega
theorem splice_in {cur : Array Value} {o : Nat} {cs : Array Value} (h : o + cs.size ≤ cur.size) {j : Nat} (hj : j < cs.size) : (splice cur o cs)[o + j]? = cs[j]? := by
  unfold splice
  have ht : (cur.toList.take o).length = o := by rw [List.length_take, Array.length_toList]; omega
  rw [List.getElem?_toArray, List.append_assoc, List.getElem?_append_right (by omega), ht, show o + j - o = j by omega, List.getElem?_append_left (by rw [Array.length_toList]; exact hj), Array.getElem?_toList]
theorem splice_out {cur : Array Value} {o : Nat} {cs : Array Value} (h : o + cs.size ≤ cur.size) {k : Nat} (hk : k < o ∨ o + cs.size ≤ k) : (splice cur o cs)[k]? = cur[k]? := by
  unfold splice
  have ht : (cur.toList.take o).length = o := by rw [List.length_take, Array.length_toList]; omega
  rw [List.getElem?_toArray, List.append_assoc]
  rcases hk with hk | hk
  · rw [List.getElem?_append_left (by omega), List.getElem?_take, if_pos hk, Array.getElem?_toList]
  · rw [List.getElem?_append_right (by omega), ht, List.getElem?_append_right (by rw [Array.length_toList]; omega), Array.length_toList, List.getElem?_drop, show o + cs.size + (k - o - cs.size) = k by omega, Array.getElem?_toList]

theorem dcells_one (u : Int) (A : Option Addr) (n c : Nat) (s : Re.St) : (dcells u (.slice A n c) s).all Value.oneCell' = true := by
  unfold dcells
  rw [Array.all_append, cells_one, Bool.and_true]
  simp [Value.oneCell']
theorem dzero_one : dzero.all Value.oneCell' = true := by
  unfold dzero
  rw [Array.all_append, cells_one, Bool.and_true]
  simp [Value.oneCell']

/-- a whole struct is stored in a row -/
theorem store_part {W : World} {g o : Nat} {cur cs : Array Value} {T t : TypeId} (h : At W g (.cells cur T)) (hz : (sizeOf t).run Try.prog W = .ok cs.size W) (hone : cs.all Value.oneCell' = true) (hfit : o + cs.size ≤ cur.size) : (Instr.storeAt t (.pointer (some ⟨g, o, none⟩)) (.agg cs)).run Try.prog W = .ok () (W.setRow g (splice cur o cs)) := by
  have hst := run_storeCells_at Try.prog g o T cs.toList 0 cur W h (by rw [Array.length_toList]; omega) (fun x hx => by
    have := Array.all_eq_true_iff_forall_mem.1 hone x (by simpa using hx); exact this)
  rw [Nat.add_zero, Array.length_toList] at hst
  have hc : (Value.agg cs).cells = cs := rfl
  simp only [Instr.storeAt, Instr.sureAddr, storeVar, Sem.run_bind, Sem.run_pure, Result.andThen_ok, hz, hc, ne_eq, not_true_eq_false, if_false, hst]
  rfl

theorem Place.keep {cur cur' : Array Value} {i j : Nat} {v : Value} {o : Option Tr.Nd} (h : Place cur j v o) (hag : ∀ k, (k < i * 58 ∨ i * 58 + 58 ≤ k) → cur'[k]? = cur[k]?) (hne : j ≠ i) : Place cur' j v o :=
  ⟨by rw [hag _ (by omega)]; exact h.live, fun nd hn => by rw [hag _ (by omega)]; exact h.up nd hn, fun nd hn => by rw [hag _ (by omega)]; exact h.kids nd hn, fun nd hn q hq => by rw [hag _ (by omega)]; exact h.sty nd hn q hq⟩

section
variable {W W' : World} {r g c m : Nat} {K K' : Int → Value} {T T' : Tr.T}

theorem Doc.gb (h : Doc W r g c m K T) {v : Value} {l : List Int} (hv : KS W v l) : v.ownBlock ≠ some g := fun e => by
  obtain ⟨cur, h1, _⟩ := h.cur
  obtain ⟨cur2, h2⟩ := hv.rowAt e
  have := h1.uniq h2
  injection this with _ e2
  exact absurd e2 (by decide)

/-- one box is put anew -/
theorem Doc.put (h : Doc W r g c m K T) {i : Nat} (hi : i < m) {cur cur' : Array Value} (hcur : At W g (.cells cur 74)) (hA : At W' g (.cells cur' 74)) (hsz : cur'.size = cur.size) (hO : Out (fun b => b = g) W W')
    (hag : ∀ k, (k < i * 58 ∨ i * 58 + 58 ≤ k) → cur'[k]? = cur[k]?) (hP : Place cur' i (K' i) (T' i)) (hT : ∀ z, z ≠ (i : Int) → T' z = T z ∧ K' z = K z) (hrow : ∀ nd, T' i = some nd → KS W' (K' i) nd.kids) : Doc W' r g c m K' T' where
  at_ := h.at_.out (fun e => h.rg e) hO
  cur := by
    obtain ⟨cur0, h1, h2, h3⟩ := h.cur
    have e := h1.uniq hcur
    injection e with e
    subst e
    refine ⟨cur', hA, by rw [hsz, h2], fun j hj => ?_⟩
    by_cases e : j = i
    · subst e; exact hP
    · obtain ⟨e1, e2⟩ := hT (j : Int) (by omega)
      rw [e1, e2]
      exact (h3 j hj).keep hag e
  cap := h.cap
  lim := h.lim
  row := fun z nd hz => by
    by_cases e : z = (i : Int)
    · subst e; exact hrow nd hz
    · obtain ⟨e1, e2⟩ := hT z e
      rw [e1] at hz
      rw [e2]
      exact (h.row z nd hz).out (fun b hb (q : b = g) => h.gb (h.row z nd hz) (by rw [hb, q])) hO
  range := fun z nd hz => by
    by_cases e : z = (i : Int)
    · omega
    · rw [(hT z e).1] at hz; exact h.range z nd hz
  small := h.small

/-- what a call may write to, and what its blocks are behind it -/
def DG (r g : Nat) (K : Int → Value) (T : Tr.T) (W W' : World) (g' : Nat) (K' : Int → Value) (T' : Tr.T) : Prop := Out (downed r g K T) W W' ∧ ∀ b, downed r g' K' T' b → downed r g K T b ∨ W.heap.size ≤ b
theorem DG.refl (r g : Nat) (K : Int → Value) (T : Tr.T) (W : World) : DG r g K T W W g K T := ⟨Out.refl _ _, fun _ h => .inl h⟩
theorem DG.of_below (h : Below W.heap.size W W') : DG r g K T W W' g K T := ⟨Out.of_below h, fun _ h => .inl h⟩
theorem DG.trans {W'' : World} {g' g'' : Nat} {K'' : Int → Value} {T'' : Tr.T} (h : DG r g K T W W' g' K' T') (k : DG r g' K' T' W' W'' g'' K'' T'') : DG r g K T W W'' g'' K'' T'' := by
  have hs := h.1.size
  refine ⟨⟨h.1.1.trans k.1.1, fun b hb hn => ?_⟩, fun b hb => ?_⟩
  · rw [k.1.2 b (by omega) (fun q => (h.2 b q).elim hn fun q2 => by omega), h.1.2 b hb hn]
  · rcases k.2 b hb with h1 | h1
    · exact h.2 b h1
    · exact .inr (by omega)

/-- a box's up -/
theorem Doc.setUp (h : Doc W r g c m K T) {i : Nat} {nd : Tr.Nd} (hn : T i = some nd) (u : Int) : Doc (W.setCell ⟨g, i * 58 + 1, none⟩ (.int .i64 u)) r g c m K (Tr.set T i { nd with up := u }) ∧ DG r g K T W (W.setCell ⟨g, i * 58 + 1, none⟩ (.int .i64 u)) g K (Tr.set T i { nd with up := u }) := by
  obtain ⟨cur, h1, h2, h3⟩ := h.cur
  have him : i < m := by have := h.range _ _ hn; omega
  have hO : Out (fun b => b = g) W (W.setCell ⟨g, i * 58 + 1, none⟩ (.int .i64 u)) := (Out.refl _ _).set (M := fun b => b = g) rfl _ _
  have hcap := h.cap
  have P := h3 i him
  have hne : ∀ k, k ≠ i * 58 + 1 → (cur.setIfInBounds (i * 58 + 1) (.int .i64 u))[k]? = cur[k]? := fun k hk => Array.getElem?_setIfInBounds_ne (by omega)
  refine ⟨h.put him h1 (h1.set _ _) (by simp) hO (fun k hk => hne k (by omega)) ?_ (fun z hz => ⟨Tr.set_other _ _ hz, rfl⟩) (fun nd' hn' => ?_), hO.mono fun b _ q => .inr (.inl q), fun b hb => .inl ?_⟩
  · rw [Tr.set_same]
    rw [hn] at P
    refine ⟨by rw [hne _ (by omega)]; exact P.live, fun nd' e => ?_, fun nd' e => ?_, fun nd' e j hj => ?_⟩
    · cases e
      rw [Array.getElem?_setIfInBounds_self_of_lt (by omega)]
    · cases e; rw [hne _ (by omega)]; exact P.kids nd rfl
    · cases e; rw [hne _ (by omega)]; exact P.sty nd rfl j hj
  · rw [Tr.set_same] at hn'; cases hn'
    exact (h.row _ _ hn).out (fun b hb (q : b = g) => h.gb (h.row _ _ hn) (by rw [hb, q])) hO
  · rcases hb with e | e | ⟨z, zd, hz, e⟩
    · exact .inl e
    · exact .inr (.inl e)
    · by_cases e2 : z = i
      · subst e2; exact .inr (.inr ⟨_, nd, hn, e⟩)
      · rw [Tr.set_other _ _ e2] at hz; exact .inr (.inr ⟨z, zd, hz, e⟩)

/-- a box's kids -/
theorem Doc.setKids (h : Doc W r g c m K T) {i : Nat} {nd : Tr.Nd} (hn : T i = some nd) {v : Value} {l : List Int} (hv : KS W v l) : Doc (W.setCell ⟨g, i * 58 + 2, none⟩ v) r g c m (fun z => if z = (i : Int) then v else K z) (Tr.set T i { nd with kids := l }) := by
  obtain ⟨cur, h1, h2, h3⟩ := h.cur
  have him : i < m := by have := h.range _ _ hn; omega
  have hO : Out (fun b => b = g) W (W.setCell ⟨g, i * 58 + 2, none⟩ v) := (Out.refl _ _).set (M := fun b => b = g) rfl _ _
  have hcap := h.cap
  have P := h3 i him
  have hne : ∀ k, k ≠ i * 58 + 2 → (cur.setIfInBounds (i * 58 + 2) v)[k]? = cur[k]? := fun k hk => Array.getElem?_setIfInBounds_ne (by omega)
  refine h.put him h1 (h1.set _ _) (by simp) hO (fun k hk => hne k (by omega)) ?_ (fun z hz => ⟨Tr.set_other _ _ hz, if_neg hz⟩) (fun nd' hn' => ?_)
  · rw [Tr.set_same]
    simp only [if_true]
    rw [hn] at P
    refine ⟨by rw [hne _ (by omega)]; exact P.live, fun nd' e => ?_, fun nd' e => ?_, fun nd' e j hj => ?_⟩
    · cases e; rw [hne _ (by omega)]; exact P.up nd rfl
    · cases e
      rw [Array.getElem?_setIfInBounds_self_of_lt (by omega)]
    · cases e; rw [hne _ (by omega)]; exact P.sty nd rfl j hj
  · rw [Tr.set_same] at hn'; cases hn'
    simp only [if_true]
    exact hv.out (fun b hb (q : b = g) => h.gb hv (by rw [hb, q])) hO
/-- the blocks, when a box has other kids -/
theorem downed_kids {z : Int} {nd : Tr.Nd} {l : List Int} {v : Value} (hn : T z = some nd) {b : Nat} (hb : downed r g (fun y => if y = z then v else K y) (Tr.set T z { nd with kids := l }) b) : downed r g K T b ∨ v.ownBlock = some b := by
  rcases hb with e | e | ⟨y, yd, hy, e⟩
  · exact .inl (.inl e)
  · exact .inl (.inr (.inl e))
  · by_cases e2 : y = z
    · subst e2
      simp only [if_true] at e
      exact .inr e
    · rw [Tr.set_other _ _ e2] at hy
      simp only [if_neg e2] at e
      exact .inl (.inr (.inr ⟨y, yd, hy, e⟩))

/-- a box's style -/
theorem Doc.setSty (h : Doc W r g c m K T) {i : Nat} {nd : Tr.Nd} (hn : T i = some nd) (s : Re.St) : ∃ W', (Instr.storeAt 43 (.pointer (some ⟨g, i * 58 + 3, none⟩)) (.agg (cells s))).run Try.prog W = .ok () W' ∧ Out (fun b => b = g) W W' ∧ Doc W' r g c m K (Tr.set T i { nd with sty := s }) ∧ DG r g K T W W' g K (Tr.set T i { nd with sty := s }) := by
  obtain ⟨cur, h1, h2, h3⟩ := h.cur
  have him : i < m := by have := h.range _ _ hn; omega
  have hcap := h.cap
  have hfit : i * 58 + 3 + (cells s).size ≤ cur.size := by rw [cells_size, h2]; omega
  have hst := store_part h1 (t := 43) (cs := cells s) (o := i * 58 + 3) (by rw [cells_size]; kernel_rfl) (cells_one s) hfit
  have hO : Out (fun b => b = g) W (W.setRow g (splice cur (i * 58 + 3) (cells s))) := (Out.refl _ _).setRow (M := fun b => b = g) rfl _
  have P := h3 i him
  have hne : ∀ k, (k < i * 58 + 3 ∨ i * 58 + 58 ≤ k) → (splice cur (i * 58 + 3) (cells s))[k]? = cur[k]? := fun k hk => splice_out hfit (by rw [cells_size]; omega)
  refine ⟨_, hst, hO, h.put him h1 (h1.setRow _) (splice_size hfit) hO (fun k hk => hne k (by omega)) ?_ (fun z hz => ⟨Tr.set_other _ _ hz, rfl⟩) (fun nd' hn' => ?_), hO.mono fun b _ q => .inr (.inl q), fun b hb => .inl ?_⟩
  · rw [Tr.set_same]
    rw [hn] at P
    refine ⟨by rw [hne _ (by omega)]; exact P.live, fun nd' e => ?_, fun nd' e => ?_, fun nd' e j hj => ?_⟩
    · cases e; rw [hne _ (by omega)]; exact P.up nd rfl
    · cases e; rw [hne _ (by omega)]; exact P.kids nd rfl
    · cases e
      rw [splice_in hfit (by rw [cells_size]; exact hj), cells_get s hj]
  · rw [Tr.set_same] at hn'; cases hn'
    exact (h.row _ _ hn).out (fun b hb (q : b = g) => h.gb (h.row _ _ hn) (by rw [hb, q])) hO
  · rcases hb with e | e | ⟨z, zd, hz, e⟩
    · exact .inl e
    · exact .inr (.inl e)
    · by_cases e2 : z = i
      · subst e2; exact .inr (.inr ⟨_, nd, hn, e⟩)
      · rw [Tr.set_other _ _ e2] at hz; exact .inr (.inr ⟨z, zd, hz, e⟩)

/-- a box comes, at a place that is there -/
theorem Doc.setBox (h : Doc W r g c m K T) {i : Nat} (him : i < m) (hn : T i = none) (u : Int) : ∃ W', (Instr.storeAt 74 (.pointer (some ⟨g, i * 58, none⟩)) (.agg (dcells u (.slice none 0 0) Re.zero))).run Try.prog W = .ok () W' ∧ Out (fun b => b = g) W W' ∧ Doc W' r g c m (fun z => if z = (i : Int) then .slice none 0 0 else K z) (Tr.set T i ⟨u, [], Re.zero⟩) ∧ DG r g K T W W' g (fun z => if z = (i : Int) then .slice none 0 0 else K z) (Tr.set T i ⟨u, [], Re.zero⟩) := by
  obtain ⟨cur, h1, h2, h3⟩ := h.cur
  have hcap := h.cap
  have hsz := dcells_size u (.slice none 0 0) Re.zero
  have hfit : i * 58 + (dcells u (.slice none 0 0) Re.zero).size ≤ cur.size := by rw [hsz, h2]; omega
  have hst := store_part h1 (t := 74) (cs := dcells u (.slice none 0 0) Re.zero) (o := i * 58) (by rw [hsz]; kernel_rfl) (dcells_one _ _ _ _ _) hfit
  have hO : Out (fun b => b = g) W (W.setRow g (splice cur (i * 58) (dcells u (.slice none 0 0) Re.zero))) := (Out.refl _ _).setRow (M := fun b => b = g) rfl _
  have hin : ∀ j, j < 58 → (splice cur (i * 58) (dcells u (.slice none 0 0) Re.zero))[i * 58 + j]? = (dcells u (.slice none 0 0) Re.zero)[j]? := fun j hj => splice_in hfit (by rw [hsz]; exact hj)
  refine ⟨_, hst, hO, h.put him h1 (h1.setRow _) (splice_size hfit) hO (fun k hk => splice_out hfit (by rw [hsz]; omega)) ?_ (fun z hz => ⟨Tr.set_other _ _ hz, if_neg hz⟩) (fun nd' hn' => ?_), hO.mono fun b _ q => .inr (.inl q), fun b hb => ?_⟩
  · rw [Tr.set_same]
    simp only [if_true]
    refine ⟨?_, fun nd' e => ?_, fun nd' e => ?_, fun nd' e j hj => ?_⟩
    · have := hin 0 (by omega); rw [Nat.add_zero, dcells_low _ _ _ (by omega)] at this; exact this
    · cases e; have := hin 1 (by omega); rw [dcells_low _ _ _ (by omega)] at this; exact this
    · cases e; have := hin 2 (by omega); rw [dcells_low _ _ _ (by omega)] at this; exact this
    · cases e; have := hin (3 + j) (by omega); rw [dcells_sty _ _ _ hj] at this; rw [Nat.add_assoc]; exact this
  · rw [Tr.set_same] at hn'; cases hn'
    simp only [if_true]
    exact KS.nil _
  · rcases hb with e | e | ⟨z, zd, hz, e⟩
    · exact .inl (.inl e)
    · exact .inl (.inr (.inl e))
    · by_cases e2 : z = (i : Int)
      · subst e2; simp only [if_true] at e; cases e
      · rw [Tr.set_other _ _ e2] at hz
        simp only [if_neg e2] at e
        exact .inl (.inr (.inr ⟨z, zd, hz, e⟩))

/-- a box goes -/
theorem Doc.clearBox (h : Doc W r g c m K T) {i : Nat} (him : i < m) : ∃ W', (Instr.storeAt 74 (.pointer (some ⟨g, i * 58, none⟩)) (.agg dzero)).run Try.prog W = .ok () W' ∧ Out (fun b => b = g) W W' ∧ Doc W' r g c m K (Tr.del T [(i : Int)]) ∧ DG r g K T W W' g K (Tr.del T [(i : Int)]) := by
  obtain ⟨cur, h1, h2, h3⟩ := h.cur
  have hcap := h.cap
  have hfit : i * 58 + dzero.size ≤ cur.size := by rw [dzero_size, h2]; omega
  have hst := store_part h1 (t := 74) (cs := dzero) (o := i * 58) (by rw [dzero_size]; kernel_rfl) dzero_one hfit
  have hO : Out (fun b => b = g) W (W.setRow g (splice cur (i * 58) dzero)) := (Out.refl _ _).setRow (M := fun b => b = g) rfl _
  have hdel : Tr.del T [(i : Int)] i = none := by simp [Tr.del]
  have hdo : ∀ z, z ≠ (i : Int) → Tr.del T [(i : Int)] z = T z := fun z hz => by simp [Tr.del, hz]
  refine ⟨_, hst, hO, h.put him h1 (h1.setRow _) (splice_size hfit) hO (fun k hk => splice_out hfit (by rw [dzero_size]; omega)) ?_ (fun z hz => ⟨hdo z hz, rfl⟩) (fun nd' hn' => ?_), hO.mono fun b _ q => .inr (.inl q), fun b hb => ?_⟩
  · rw [hdel]
    refine ⟨?_, fun nd' e => (by cases e), fun nd' e => (by cases e), fun nd' e => (by cases e)⟩
    have := splice_in hfit (j := 0) (by rw [dzero_size]; omega)
    rw [Nat.add_zero] at this
    rw [this]; rfl
  · rw [hdel] at hn'; cases hn'
  · rcases hb with e | e | ⟨z, zd, hz, e⟩
    · exact .inl (.inl e)
    · exact .inl (.inr (.inl e))
    · by_cases e2 : z = (i : Int)
      · subst e2; rw [hdel] at hz; cases hz
      · rw [hdo z e2] at hz; exact .inl (.inr (.inr ⟨z, zd, hz, e⟩))
end

end Go.Proofs.Ytbkocceemfhhbaa.Fix
