/- Trees of boxes: one text of several. -/
import Derived.Test.YtbkocceemfhhbaaRecOps
import Derived.Test.YtbkocceemfhhbaaDrawnGen
import Derived.Test.YtbkocceemfhhbaaCut
import Derived.Test.YtbkocceemfhhbaaTrPure
import Derived.Lib.SliceRun
import Derived.Laws.IdiomCopy
import Derived.Laws.CopyOwn
import Derived.Lib.Overlaps
import Derived.Lib.AppendZerosOnto
import Derived.Laws.Externs
import Derived.Deep.Cut
import Derived.Test.YtbkocceemfhhbaaRecSt
import Derived.Maps.OwnSet
import Derived.Maps.RangeWalk
import Derived.Lib.MinMax
/-! Rows of numbers that are a box's kids, in blocks of their own: what the calls of slices do to them. -/
namespace Go.Proofs.Ytbkocceemfhhbaa.Fix
open Go.ChangeShapes Go.WideShapes Go.ChangeAt Go.RowKit
set_option linter.unusedVariables false
set_option maxRecDepth 100000
set_option linter.unusedSimpArgs false

/-- v is a row of the numbers l, in a block of its own -/
def KS (W : World) (v : Value) (l : List Int) : Prop := W.ownsRow 0 3 1 v l.length (l.map (Value.int .i64))

/-- block g is a row of c places that begins with the numbers l -/
def Rw (W : World) (g c : Nat) (l : List Int) : Prop := ∃ cur : Array Value, At W g (.cells cur 3) ∧ cur.size = c ∧ l.length ≤ c ∧ c ≤ maxLen ∧ cur.toList.take l.length = l.map (Value.int .i64)

theorem KS.nil (W : World) : KS W (.slice none 0 0) [] := World.ownsRow_nil _ _ _ _
theorem KS.cases {W : World} {v : Value} {l : List Int} (h : KS W v l) : (v = .slice none 0 0 ∧ l = []) ∨ ∃ g c, v = .slice (some ⟨g, 0, none⟩) l.length c ∧ Rw W g c l := by
  rcases h.2 with ⟨rfl, h0⟩ | ⟨g, cap, cur, rfl, _, hg, h1, h2, h3, h4⟩
  · exact .inl ⟨rfl, List.eq_nil_of_length_eq_zero h0⟩
  · exact .inr ⟨g, cap, rfl, cur, hg, by simpa using h3, h1, h2, by simpa using h4⟩
theorem Rw.ks {W : World} {g c : Nat} {l : List Int} (h : Rw W g c l) : KS W (.slice (some ⟨g, 0, none⟩) l.length c) l := by
  obtain ⟨cur, h1, h2, h3, h4, h5⟩ := h
  exact ⟨by simp, .inr ⟨g, c, cur, rfl, Nat.zero_le _, h1, h3, h4, by simpa using h2, by simpa using h5⟩⟩
theorem Rw.lt {W : World} {g c : Nat} {l : List Int} (h : Rw W g c l) : g < W.heap.size := by obtain ⟨cur, h1, _⟩ := h; exact h1.lt
theorem Rw.out {M : Nat → Prop} {W W' : World} {g c : Nat} {l : List Int} (h : Rw W g c l) (hm : ¬ M g) (k : Out M W W') : Rw W' g c l := by
  obtain ⟨cur, h1, r⟩ := h
  exact ⟨cur, h1.out hm k, r⟩
theorem KS.lt {W : World} {v : Value} {l : List Int} (h : KS W v l) {g : Nat} (hg : v.ownBlock = some g) : g < W.heap.size := (World.ownsRow.lt h g hg).2
theorem KS.out {M : Nat → Prop} {W W' : World} {v : Value} {l : List Int} (h : KS W v l) (hm : ∀ g, v.ownBlock = some g → ¬ M g) (k : Out M W W') : KS W' v l := by
  rcases h.cases with ⟨rfl, rfl⟩ | ⟨g, c, rfl, hr⟩
  · exact KS.nil _
  · exact (hr.out (hm g rfl) k).ks
theorem KS.after {W W' : World} {v : Value} {l : List Int} (h : KS W v l) (hb : Below W.heap.size W W') : KS W' v l := h.out (M := fun _ => False) (fun _ _ q => q) (Out.of_below hb)
theorem Rw.ints {W : World} {g c : Nat} {l : List Int} (h : Rw W g c l) : Ints W (some ⟨g, 0, none⟩) l := by
  obtain ⟨cur, h1, h2, h3, h4, h5⟩ := h
  refine ⟨by omega, fun h0 => ⟨g, 0, rfl, fun k hk => ?_⟩⟩
  rw [h1.cell, Nat.zero_add]
  have : (cur.toList.take l.length)[k]? = (l.map (Value.int .i64))[k]? := by rw [h5]
  rw [List.getElem?_take, if_pos hk] at this
  simpa [List.getElem?_eq_getElem hk] using this
theorem KS.ints {W : World} {v : Value} {l : List Int} (h : KS W v l) : ∃ A c, v = .slice A l.length c ∧ Ints W A l ∧ l.length ≤ c ∧ c ≤ maxLen ∧ (A = none → c = 0) := by
  rcases h.cases with ⟨rfl, rfl⟩ | ⟨g, c, rfl, hr⟩
  · exact ⟨none, 0, rfl, ⟨by simp, fun h => absurd h (by simp)⟩, by simp, by simp [maxLen], fun _ => rfl⟩
  · have hr' := hr
    obtain ⟨cur, h1, h2, h3, h4, h5⟩ := hr
    exact ⟨_, c, rfl, hr'.ints, h3, h4, fun h => by cases h⟩

theorem setCells_row {W : World} {g : Nat} {cur : Array Value} {T : TypeId} (h : At W g (.cells cur T)) (o : Nat) (vs : List Value) (hfit : o + vs.length ≤ cur.size) (h1 : ∀ v ∈ vs, v.oneCell' = true) : W.setCells g o vs = W.setRow g (cur.toList.take o ++ vs ++ cur.toList.drop (o + vs.length)).toArray := by
  have a := run_storeCells_at Try.prog g o T vs 0 cur W h (by simpa using hfit) h1
  have b := run_storeCells_cells (P := Try.prog) g o vs 0 W (fun j hj => by rw [h.cell, Array.getElem?_eq_getElem (by omega)]; rfl) (fun j hj => by rw [h.thaw]) h1
  simp only [Nat.add_zero] at a b
  rw [a] at b
  injection b with _ b
  exact b.symm

theorem drew_setRow (W : World) (g : Nat) (cs : Array Value) : (W.setRow g cs).drew = W.drew.setRow g cs := rfl

/-- an append in a region that draws, its run known -/
theorem exec_append {P : Program} {w w' : World} {o : Oper} {a : Act} (s x : Operand) (t tn : TypeId) (ho : o.op = .call { callee := .builtin .append, args := #[s, x], argTypes := #[t, tn] }) {v u v' : Value} (hs : a.eval s = v) (hx : a.eval x = u)
    (hrun : (Builtin.append_ #[t, tn] o.type #[v, u]).run P w = .ok v' w') : (execOp a.eval o).run P w = .ok (.value v') w' := by
  unfold execOp
  simp only [ho, resolve, invoke, builtin, Sem.run_bind, Sem.run_pure, Result.andThen_ok, List.map_toArray, List.map_cons, List.map_nil, hs, hx, hrun]
theorem exec_copy {P : Program} {w w' : World} {o : Oper} {a : Act} (s x : Operand) (t tn : TypeId) (ho : o.op = .call { callee := .builtin .copy, args := #[s, x], argTypes := #[t, tn] }) {v u v' : Value} (hs : a.eval s = v) (hx : a.eval x = u)
    (hrun : (Builtin.copy_ #[t, tn] o.type #[v, u]).run P w = .ok v' w') : (execOp a.eval o).run P w = .ok (.value v') w' := by
  unfold execOp
  simp only [ho, resolve, invoke, builtin, Sem.run_bind, Sem.run_pure, Result.andThen_ok, List.map_toArray, List.map_cons, List.map_nil, hs, hx, hrun]
theorem wpList_run {P : Program} {w w' : World} {ops : Array Oper} {rest : List Oper} {o : Oper} {a : Act} {Q : Exit → Act → World → Prop} (hw : Region.wanted o (yielded ops a.tmps) = true) {v' : Value}
    (hrun : (execOp a.eval o).run P w = .ok (.value v') w') (h : wpList P ops Q rest (a.put o.dst v') w') : wpList P ops Q (o :: rest) a w := by
  unfold wpList
  rw [if_pos hw]
  refine .inl ?_
  unfold Oper.wp
  rw [hrun]
  exact h

/-- slices.Clone -/
theorem clone_any {v : Value} {l : List Int} {w : World} (h : KS w v l) (hl : l.length ≤ 10000) : Calls Try.prog 39 #[v] w fun e w' => (∃ v', e = .returned v' ∧ w'.ownsRow w.heap.size 3 1 v' l.length (l.map (Value.int .i64))) ∧ Below w.heap.size w w' := by
  have q22 : ∀ (w : World) (a : Option Addr) (n c n' c' : Nat), (binOp .eql 50 (.slice a n c) (.slice none n' c')).run Try.prog w = .ok (.bool a.isNone) w := fun w a n c n' c' => Lib.run_eql_slice_nil w _ _ a n c n' c' Try.underlying50
  rcases h.cases with ⟨rfl, rfl⟩ | ⟨g, c, rfl, hr⟩
  · go_enter Try.func39, Try.ntmps39
    go_wp2
    go_ret
    exact ⟨⟨_, rfl, World.ownsRow_nil _ _ _ _⟩, Below.refl _ _⟩
  · have hown : (w.alloc (.cells #[] 3)).ownsRow w.heap.size 3 1 (.slice (some ⟨w.heap.size, 0, none⟩) 0 0) 0 (([] : List Int).map (Value.int .i64)) := World.ownsRow_made w #[] 0 (Nat.le_refl _) (by simp [maxLen]) rfl
    obtain ⟨v', w', hrun, hown', hB, _⟩ := append_ints (m := l.length) (c := c) hown (Below.alloc' (Below.refl w.heap.size w) _) (by simp) (hr.ints.after (Below.alloc' (Below.refl _ _) _)) rfl (fun h => by cases h) (by omega)
    have HRUN := Lib.hid hrun
    clear hrun hown
    go_enter Try.func39, Try.ntmps39
    go_wp2_with (at_builtin; refine wpList_append_run (by rfl) _ _ 50 rfl rfl rfl HRUN.out ?_)
    go_ret
    exact ⟨⟨_, rfl, by simpa using hown'⟩, hB⟩

/-- slices.Index -/
theorem index_any {v : Value} {l : List Int} {w : World} (h : KS w v l) {i : Nat} {x : Int} (hi : l[i]? = some x) (hf : ∀ j, j < i → l[j]? ≠ some x) : Calls Try.prog 55 #[v, .int .i64 x] w fun e w' => e = .returned (.int .i64 (i : Int)) ∧ w' = w := by
  obtain ⟨A, c, rfl, hI, hc, hm, _⟩ := h.ints
  have hlt := (List.getElem?_eq_some_iff.1 hi).1
  clear h
  unfold maxLen at hm
  generalize hn : l.length = n at *
  have HN := Lib.hid hn; clear hn
  have HA := Lib.hid hI; clear hI
  have HF := Lib.hid hf; clear hf
  have HE := Lib.hid hi; clear hi
  go_enter Try.func55, Try.ntmps55
  go_wp2
  go_loop [8] (fun p => ∃ k : Nat, k ≤ i ∧ p = .int .i64 k) (fun p => n - (intOf p).toNat)
  case atStart => exact ⟨0, by omega, rfl⟩
  case round =>
    obtain ⟨k, hk, rfl⟩ := hrel
    obtain ⟨b, o, rfl, lb, hcell⟩ := HA.out.at_ (k := k) (by rw [HN.out]; omega)
    have hkn : k < n := by omega
    by_cases hki : k = i
    · have hz : l.getD k 0 = x := by rw [hki]; simp [List.getD, HE.out]
      rw [hz] at hcell
      clear hz
      subst hki
      go_wp2
      go_ret
      exact ⟨rfl, rfl⟩
    · have hz : ¬ l.getD k 0 = x := fun e => HF.out k (by omega) (by rw [← e]; simp [List.getD, show k < l.length by rw [HN.out]; omega])
      have hz' : ¬ x = l.getD k 0 := fun e => hz e.symm
      generalize l.getD k 0 = z at *
      have hzb : (x == z) = false := by simpa using hz'
      go_wp2
      go_round
      case rel => exact ⟨k + 1, by omega, by go_num⟩
      case measure => simp [intOf]; omega

/-- where a cut at j of a row of c places begins -/
def cutAt (g c j : Nat) : Addr := if c = j then ⟨g, 0, none⟩ else ⟨g, j, none⟩
theorem slice_row_from (g n c j : Nat) (hj : j ≤ n) (W : World) : (Instr.sliceAt 50 (.slice (some ⟨g, 0, none⟩) n c) (some (.int .i64 (j : Int))) none none).run Try.prog W = .ok (.slice (some (cutAt g c j)) (n - j) (c - j)) W := by
  rw [slice_from _ n c j hj W]
  unfold cutAt
  by_cases h : c = j
  · rw [if_pos h, if_pos h]
  · rw [if_neg h, if_neg h]; simp [addr_add]
theorem slice_row_upto (g n c i : Nat) (hi : i ≤ c) (W : World) : (Instr.sliceAt 50 (.slice (some ⟨g, 0, none⟩) n c) none (some (.int .i64 (i : Int))) none).run Try.prog W = .ok (.slice (some ⟨g, 0, none⟩) i c) W := by
  rw [slice_upto _ n c i hi W]
  by_cases h : c = 0
  · rw [if_pos h]
  · rw [if_neg h]; simp [addr_add]
theorem slice_row_mid (g n c i j : Nat) (hi : i ≤ j) (hj : j ≤ c) (W : World) : (Instr.sliceAt 50 (.slice (some ⟨g, 0, none⟩) n c) (some (.int .i64 (i : Int))) (some (.int .i64 (j : Int))) none).run Try.prog W = .ok (.slice (some (cutAt g c i)) (j - i) (c - i)) W := by
  rw [slice_mid _ n c i j hi hj W]
  unfold cutAt
  by_cases h : c = i
  · rw [if_pos h, if_pos h]
  · rw [if_neg h, if_neg h]; simp [addr_add]
theorem reads_slice {ops : Array Oper} {S : World → Prop} {o : Oper} {a : Act} {t : TypeId} {x : Operand} {lo hi mx : Option Operand} {v : Value} (hw : Region.wanted o (yielded ops a.tmps) = true) (ho : o.op = .slice t x lo hi mx)
    (hrun : ∀ W, (Instr.sliceAt t (a.eval x) (lo.map a.eval) (hi.map a.eval) (mx.map a.eval)).run Try.prog W = .ok v W) : Drawn.Reads Try.prog ops S o v a :=
  .inl ⟨hw, fun W _ => by unfold execOp; simp only [ho, Sem.run_bind, Sem.run_pure, hrun, Result.andThen_ok]⟩
theorem At.drew {W : World} {b : Nat} {o : Obj} (h : At W b o) : At W.drew b o := h
theorem Out.drew {M : Nat → Prop} {X Y : World} (h : Out M X Y) : Out M X Y.drew := ⟨h.1.drew, h.2⟩
theorem ints_one (l : List Int) : ∀ v ∈ l.map (Value.int .i64), v.oneCell' = true := fun v hv => by obtain ⟨z, _, rfl⟩ := List.mem_map.1 hv; rfl

/-- slices.Delete -/
theorem delete_any {g c i j : Nat} {l : List Int} {w : World} (h : Rw w g c l) (hij : i < j) (hj : j ≤ l.length) : Calls Try.prog 56 #[.slice (some ⟨g, 0, none⟩) l.length c, .int .i64 (i : Int), .int .i64 (j : Int)] w fun e w' => e = .returned (.slice (some ⟨g, 0, none⟩) (i + (l.length - j)) c) ∧ Rw w' g c (l.take i ++ l.drop j) ∧ Out (fun b => b = g) w w' := by
  obtain ⟨i0, hi0, hz0, hz1, hz2⟩ := info_parts intZero
  obtain ⟨cur, hA, hs, hc, hm, ht⟩ := h
  unfold maxLen at hm
  have hti : cur.toList.take i = (l.take i).map (Value.int .i64) := by
    rw [List.map_take, ← ht, List.take_take, Nat.min_eq_left (by omega)]
  obtain ⟨news, hnews⟩ : ∃ news, news = (l.drop j).map (Value.int .i64) := ⟨_, rfl⟩
  have hnl : news.length = l.length - j := by rw [hnews]; simp
  have hget : ∀ k u, news[k]? = some u → w.drew.cell? ((cutAt g c j).add k) = some u := fun k u hu => by
    have hk : k < l.length - j := by rw [← hnl]; exact (List.getElem?_eq_some_iff.1 hu).1
    unfold cutAt
    rw [if_neg (by omega), addr_add, hA.drew.cell]
    have e : (cur.toList.take l.length)[j + k]? = (l.map (Value.int .i64))[j + k]? := by rw [ht]
    rw [List.getElem?_take, if_pos (by omega)] at e
    rw [hnews, List.getElem?_map, List.getElem?_drop] at hu
    rw [← hu, ← List.getElem?_map, ← e]
    simp
  have happ := run_append_room (P := Try.prog) w.drew 50 50 3 i0 Try.underlying50 hi0 g i c cur hA.drew (cutAt g c j) (l.length - j) (c - j) news (by rw [hnl, hz1]; omega) hget (by rw [hnews]; exact ints_one _) (by omega) (by rw [hz1, hnl]; omega)
  rw [hz1, Nat.mul_one] at happ
  obtain ⟨X, hX⟩ : ∃ X : Array Value, X = (cur.toList.take i ++ news ++ cur.toList.drop (i + news.length)).toArray := ⟨_, rfl⟩
  rw [← hX] at happ
  have hXs : X.size = c := by rw [hX]; simp; omega
  have hAX : At (w.drew.setRow g X) g (.cells X 3) := hA.drew.setRow X
  have hcl := Lib.run_clear_slice (P := Try.prog) (w.drew.setRow g X) 50 3 0 (.int .i64 0) Try.underlying50 (fun _ => by kernel_rfl) rfl rfl g (i + (l.length - j)) (l.length - (i + (l.length - j))) (c - (i + (l.length - j))) (by omega) (fun k hk => by rw [hAX.cell, Array.getElem?_eq_getElem (by omega)]; rfl) (fun k hk => hAX.thaw _)
  rw [setCells_row hAX _ _ (by simp; omega) (fun v hv => by rw [List.eq_of_mem_replicate hv]; rfl), setRow_setRow] at hcl
  obtain ⟨Y, hY⟩ : ∃ Y : Array Value, Y = (X.toList.take (i + (l.length - j)) ++ List.replicate (l.length - (i + (l.length - j))) (Value.int .i64 0) ++ X.toList.drop (i + (l.length - j) + (List.replicate (l.length - (i + (l.length - j))) (Value.int .i64 0)).length)).toArray := ⟨_, rfl⟩
  rw [← hY] at hcl
  have hYs : Hid (Y.size = c) := Lib.hid (by rw [hY]; simp; omega)
  have hYt : Hid (Y.toList.take (l.take i ++ l.drop j).length = (l.take i ++ l.drop j).map (Value.int .i64)) := Lib.hid (by
    have e : (l.take i ++ l.drop j).length = i + (l.length - j) := by simp; omega
    rw [e, hY, hX, hti, hnews]
    simp only [List.map_append]
    have e1 : ((l.take i).map (Value.int .i64) ++ (l.drop j).map (Value.int .i64)).length = i + (l.length - j) := by simp; omega
    rw [List.append_assoc, List.take_append_of_le_length (by simp; omega), List.take_take, Nat.min_self, List.take_append_of_le_length (by omega), List.take_of_length_le (by omega)])
  have hQ : Hid (At (w.drew.setRow g Y) g (.cells Y 3)) := Lib.hid (hA.drew.setRow Y)
  have hO : Hid (Out (fun b => b = g) w (w.drew.setRow g Y)) := Lib.hid (Out.setRow (M := fun b => b = g) (Out.drew (Out.refl _ _)) rfl Y)
  generalize hn : l.length = n at *
  have HN := Lib.hid hn
  have HAPP := Lib.hid happ
  have HCL := Lib.hid hcl
  have hne : ¬ (i : Int) = (j : Int) := by omega
  have hneb : ((i : Int) == (j : Int)) = false := by simpa using hne
  have hcp : ¬ c = i + (n - j) := by omega
  have hcut : Hid (cutAt g c (i + (n - j)) = ⟨g, i + (n - j), none⟩) := Lib.hid (by unfold cutAt; rw [if_neg hcp])
  have hlen : Hid ((l.take i ++ l.drop j).length = i + (n - j)) := Lib.hid (by simp; omega)
  clear happ hcl hX hY hXs hAX hget hnl hnews hti ht hA hs hn
  go_enter Try.func56, Try.ntmps56
  go_upto_region 5 with (fail)
  refine Drawn.wp_region_gen (S := (fun _ => True)) 8 (by kernel_rfl) ?_ ?_
  · trivial
  intro hS0
  (refine Drawn.gen_take (i := 0) rfl (by kernel_rfl) (by kernel_rfl) (by kernel_rfl) (by kernel_rfl) (by omega) (by assumption) (by first | exact .inr ⟨by rfl, rfl⟩ | exact .inl ⟨by rfl, by intro w2 hS; go_simp; first | done | with_reducible rfl | exact ⟨rfl, rfl⟩⟩) ?_; (try simp only [Act.put, List.setIfInBounds_toArray, List.set_cons_zero, List.set_cons_succ]))
  (refine Drawn.gen_take (i := 1) rfl (by kernel_rfl) (by kernel_rfl) (by kernel_rfl) (by kernel_rfl) (by omega) (by assumption) (by first | exact .inr ⟨by rfl, rfl⟩ | exact .inl ⟨by rfl, by intro w2 hS; go_simp; first | done | with_reducible rfl | exact ⟨rfl, rfl⟩⟩) ?_; (try simp only [Act.put, List.setIfInBounds_toArray, List.set_cons_zero, List.set_cons_succ]))
  (refine Drawn.gen_take (i := 2) rfl (by kernel_rfl) (by kernel_rfl) (by kernel_rfl) (by kernel_rfl) (by omega) (by assumption) (reads_slice (by rfl) rfl (fun W => slice_row_upto g n c i (by omega) W)) ?_; (try simp only [Act.put, List.setIfInBounds_toArray, List.set_cons_zero, List.set_cons_succ]))
  (refine Drawn.gen_take (i := 3) rfl (by kernel_rfl) (by kernel_rfl) (by kernel_rfl) (by kernel_rfl) (by omega) (by assumption) (by first | exact .inr ⟨by rfl, rfl⟩ | exact .inl ⟨by rfl, by intro w2 hS; go_simp; first | done | with_reducible rfl | exact ⟨rfl, rfl⟩⟩) ?_; (try simp only [Act.put, List.setIfInBounds_toArray, List.set_cons_zero, List.set_cons_succ]))
  (refine Drawn.gen_take (i := 4) rfl (by kernel_rfl) (by kernel_rfl) (by kernel_rfl) (by kernel_rfl) (by omega) (by assumption) (by first | exact .inr ⟨by rfl, rfl⟩ | exact .inl ⟨by rfl, by intro w2 hS; go_simp; first | done | with_reducible rfl | exact ⟨rfl, rfl⟩⟩) ?_; (try simp only [Act.put, List.setIfInBounds_toArray, List.set_cons_zero, List.set_cons_succ]))
  (refine Drawn.gen_take (i := 5) rfl (by kernel_rfl) (by kernel_rfl) (by kernel_rfl) (by kernel_rfl) (by omega) (by assumption) (reads_slice (by rfl) rfl (fun W => slice_row_from g n c j (by omega) W)) ?_; (try simp only [Act.put, List.setIfInBounds_toArray, List.set_cons_zero, List.set_cons_succ]))
  refine Drawn.gen_one (i := 6) (by kernel_rfl) rfl (by rfl) ?_
  refine Drawn.Step.value (exec_append (.tmp 22) (.tmp 25) 50 50 rfl rfl rfl HAPP.out) ?_
  refine ⟨fun _ => trivial, ?_⟩
  (try simp only [Act.put, List.setIfInBounds_toArray, List.set_cons_zero, List.set_cons_succ])
  (refine Drawn.gen_take (i := 7) rfl (by kernel_rfl) (by kernel_rfl) (by kernel_rfl) (by kernel_rfl) (by omega) (by assumption) (by first | exact .inr ⟨by rfl, rfl⟩ | exact .inl ⟨by rfl, by intro w2 hS; go_simp; first | done | with_reducible rfl | exact ⟨rfl, rfl⟩⟩) ?_; (try simp only [Act.put, List.setIfInBounds_toArray, List.set_cons_zero, List.set_cons_succ]))
  refine Drawn.gen_end (by kernel_rfl) ?_
  have hcl := HCL.out
  go_wp2
  go_ret
  exact ⟨rfl, ⟨Y, hQ.out, hYs.out, by rw [hlen.out]; omega, by unfold maxLen; omega, hYt.out⟩, hO.out⟩

theorem Out.grown {M : Nat → Prop} {X Y : World} {row : Option Nat} (h : X.grownBy Y row) (hr : ∀ b, row = some b → M b) : Out M X Y :=
  ⟨⟨h.os, h.tape, h.output, h.size, fun _ hb => absurd hb (Nat.not_lt_zero _)⟩, fun b hb hm => h.block b hb (fun e => hm (hr b e.symm))⟩
theorem At.shape {W : World} {b : Nat} {cs : Array Value} {T : TypeId} (h : At W b (.cells cs T)) : W.shape? b = some (T, cs.size) := by
  unfold At at h
  simp [World.shape?, h]
theorem intSize : (Try.prog.info? 3).map (·.size) = some 1 := by kernel_rfl

/-- slices.Insert: at the end -/
theorem insert_end {v : Value} {l : List Int} {w : World} {vb : Nat} {x : Int} (h : KS w v l) (hl : l.length ≤ 10000) (hv : At w vb (.cells #[.int .i64 x] 3)) : Calls Try.prog 57 #[v, .int .i64 (l.length : Int), .slice (some ⟨vb, 0, none⟩) 1 1] w fun e w' => ∃ v', e = .returned v' ∧ KS w' v' (l ++ [x]) ∧ Out (fun b => v.ownBlock = some b) w w' ∧ (v'.ownBlock = v.ownBlock ∨ v'.ownBlock = some w.heap.size) := by
  obtain ⟨i0, hi0, hz0, hz1, hz2⟩ := info_parts intZero
  obtain ⟨v', w', hr, ho, hg, _, hloc⟩ := run_append_own_at (P := Try.prog) w 0 50 50 3 i0 (.int .i64 0) 1 8 Try.underlying50 hi0 hz0 hz1 hz2 rfl (by decide) v _ _ h ⟨vb, 0, none⟩ 1 1 [.int .i64 x] rfl
    (fun j u hu => by
      have hj : j = 0 := by have := (List.getElem?_eq_some_iff.1 hu).1; simpa using this
      subst hj
      rw [addr_add, hv.cell]; simpa using hu)
    (by simp [Value.oneCell']) (by simp only [maxLen]; omega) (by omega) (Nat.zero_le _)
  have hQ : Hid (KS w' v' (l ++ [x])) := Lib.hid (by
    have e1 : (l ++ [x]).length = l.length + 1 := by simp
    unfold KS
    rw [e1, List.map_append]; exact ho)
  have hO : Hid (Out (fun b => v.ownBlock = some b) w w') := Lib.hid (Out.grown hg fun b e => e)
  have HL := Lib.hid hloc
  obtain ⟨A, c, rfl, hI, hc, hm, hnil⟩ := h.ints
  have hcs : ∀ W : World, (Instr.sliceAt 50 (.slice A l.length c) (some (.int .i64 (l.length : Int))) none none).run Try.prog W = .ok (.slice (if c = l.length then A else A.map (·.add (l.length * 1))) (l.length - l.length) (c - l.length)) W := fun W => slice_from A l.length c l.length (Nat.le_refl _) W
  unfold maxLen at hm
  clear h hI hloc hg ho hnil
  generalize hn : l.length = n at *
  have HN := Lib.hid hn
  have HRUN := Lib.hid hr
  clear hr hn
  by_cases hcn : c = n
  · go_enter Try.func57, Try.ntmps57
    go_wp2_with (at_builtin; refine wpList_append_run (by rfl) _ _ 50 rfl rfl rfl HRUN.out ?_)
    go_ret
    exact ⟨v', rfl, hQ.out, hO.out, HL.out⟩
  · go_enter Try.func57, Try.ntmps57
    go_wp2_with (at_builtin; refine wpList_append_run (by rfl) _ _ 50 rfl rfl rfl HRUN.out ?_)
    go_ret
    exact ⟨v', rfl, hQ.out, hO.out, HL.out⟩

/-- slices.Insert: within, where there is room -/
theorem insert_room {g c i vb : Nat} {l : List Int} {w : World} {x : Int} (h : Rw w g c l) (hi : i < l.length) (hr : l.length < c) (hv : At w vb (.cells #[.int .i64 x] 3)) (hne : vb ≠ g) : Calls Try.prog 57 #[.slice (some ⟨g, 0, none⟩) l.length c, .int .i64 (i : Int), .slice (some ⟨vb, 0, none⟩) 1 1] w fun e w' => e = .returned (.slice (some ⟨g, 0, none⟩) (l.length + 1) c) ∧ Rw w' g c (Tr.wi l i x) ∧ Out (fun b => b = g) w w' := by
  obtain ⟨cur, hA, hs, hc, hm, ht⟩ := h
  unfold maxLen at hm
  have hov : ∀ lb cb, (callFunc 62 #[.slice (some ⟨vb, 0, none⟩) 1 1, .slice (some ⟨g, i + 1, none⟩) lb cb]).run Try.prog w = .ok (.value (.bool false)) w := fun lb cb => by
    rw [run_callFunc_extern Try.func62 (by kernel_rfl) (by kernel_rfl) (by kernel_rfl) (e := Extern.SlicesOverlaps.overlaps #[50, 50] #[4]) (by kernel_rfl),
      Lib.run_overlaps_apart w 50 4 3 Try.underlying50 1 (fun _ => by kernel_rfl) ⟨vb, 0, none⟩ ⟨g, i + 1, none⟩ 1 1 lb cb hne _ _ _ _ hv.shape hA.shape (by omega) (hv.thaw _) (hv.thaw _)]
    rfl
  have hti : ∀ k, k ≤ l.length → cur.toList.take k = (l.take k).map (Value.int .i64) := fun k hk => by
    rw [List.map_take, ← ht, List.take_take, Nat.min_eq_left hk]
  obtain ⟨news, hnews⟩ : ∃ news, news = (l.drop i).map (Value.int .i64) := ⟨_, rfl⟩
  have hnl : news.length = l.length - i := by rw [hnews]; simp
  have hcp1 := run_copy_row (P := Try.prog) w.drew 50 50 3 3 g (i + 1) (l.length + 1 - (i + 1)) (c - (i + 1)) ⟨g, i, none⟩ (l.length + 1 - i) (c - i) cur 3 news Try.underlying50 intSize hA.drew (by rw [hnl]; simp only [Nat.min_def]; split <;> omega)
    (fun k u hu => by
      have hk : k < l.length - i := by rw [← hnl]; exact (List.getElem?_eq_some_iff.1 hu).1
      rw [addr_add, hA.drew.cell]
      have e : (cur.toList.take l.length)[i + k]? = (l.map (Value.int .i64))[i + k]? := by rw [ht]
      rw [List.getElem?_take, if_pos (by omega)] at e
      rw [hnews, List.getElem?_map, List.getElem?_drop] at hu
      rw [← hu, ← List.getElem?_map, ← e]
      simp) (by omega) (by rw [hnews]; exact ints_one _)
  obtain ⟨X, hX⟩ : ∃ X : Array Value, X = (cur.toList.take (i + 1) ++ news ++ cur.toList.drop (i + 1 + news.length)).toArray := ⟨_, rfl⟩
  rw [← hX] at hcp1
  have hXs : X.size = c := by rw [hX]; simp; omega
  have hAX : At (w.drew.setRow g X) g (.cells X 3) := hA.drew.setRow X
  have hvX : At (w.drew.setRow g X) vb (.cells #[.int .i64 x] 3) := hv.drew.offRow hne X
  have hcp2 := run_copy_row (P := Try.prog) (w.drew.setRow g X) 50 50 3 3 g i (l.length + 1 - i) (c - i) ⟨vb, 0, none⟩ 1 1 X 3 [.int .i64 x] Try.underlying50 intSize hAX (by simp only [Nat.min_def, List.length_singleton]; split <;> omega)
    (fun k u hu => by
      have hk : k = 0 := by have := (List.getElem?_eq_some_iff.1 hu).1; simpa using this
      subst hk
      rw [addr_add, hvX.cell]; simpa using hu) (by simp; omega) (by simp [Value.oneCell'])
  rw [setRow_setRow] at hcp2
  obtain ⟨Y, hY⟩ : ∃ Y : Array Value, Y = (X.toList.take i ++ [Value.int .i64 x] ++ X.toList.drop (i + [Value.int .i64 x].length)).toArray := ⟨_, rfl⟩
  rw [← hY] at hcp2
  have hYs : Hid (Y.size = c) := Lib.hid (by rw [hY]; simp; omega)
  have hYt : Hid (Y.toList.take (Tr.wi l i x).length = (Tr.wi l i x).map (Value.int .i64)) := Lib.hid (by
    rw [Tr.length_wi, hY, hX]
    simp only [Tr.wi, List.map_append, List.map_cons, List.length_singleton]
    have e0 : (cur.toList.take (i + 1)).length = i + 1 := by simp; omega
    have e1 : (cur.toList.take i).length = i := by simp; omega
    have e2 : List.take i (cur.toList.take (i + 1) ++ news ++ cur.toList.drop (i + 1 + news.length)) = cur.toList.take i := by
      rw [List.append_assoc, List.take_append_of_le_length (by omega), List.take_take, Nat.min_eq_left (by omega)]
    have e3 : List.drop (i + 1) (cur.toList.take (i + 1) ++ news ++ cur.toList.drop (i + 1 + news.length)) = news ++ cur.toList.drop (i + 1 + news.length) := by
      rw [List.append_assoc, List.drop_append_of_le_length (by omega), List.drop_of_length_le (by omega), List.nil_append]
    rw [e2, e3, ← hti i (by omega), ← hnews]
    have e4 : (cur.toList.take i ++ [Value.int .i64 x] ++ news).length = l.length + 1 := by simp [hnl]; omega
    rw [← List.append_assoc, List.take_append_of_le_length (by omega), List.take_of_length_le (by omega)]
    simp)
  have hQ : Hid (At (w.drew.setRow g Y) g (.cells Y 3)) := Lib.hid (hA.drew.setRow Y)
  have hO : Hid (Out (fun b => b = g) w (w.drew.setRow g Y)) := Lib.hid (Out.setRow (M := fun b => b = g) (Out.drew (Out.refl _ _)) rfl Y)
  have hwl : Hid ((Tr.wi l i x).length = l.length + 1) := Lib.hid (Tr.length_wi _ _ _)
  generalize hn : l.length = n at *
  have HN := Lib.hid hn
  have hw1 : IntKind.i64.wrap ((i : Int) + 1) = (i : Int) + 1 := by rw [IntWalk.i64_in _ (by omega)]
  have hz2 : ¬ ((i : Int) = (n : Int)) := by omega
  have hz3 : ((i : Int) == (n : Int)) = false := by simpa using hz2
  have hb1 : (0 : Int) ≤ (i : Int) + 1 := by omega
  have hb2 : ¬ (c = i + 1) := by omega
  have hb3 : (i : Int) ≤ (n : Int) + 1 := by omega
  have hb4 : ¬ (c = i) := by omega
  have htn : ((i : Int) + 1).toNat = i + 1 := by omega
  have HC1 := Lib.hid hcp1
  have HC2 := Lib.hid hcp2
  have HS1 : Hid (∀ W, (Instr.sliceAt 50 (.slice (some ⟨g, 0, none⟩) (n + 1) c) (some (.int .i64 ((i : Int) + 1))) none none).run Try.prog W = .ok (.slice (some ⟨g, i + 1, none⟩) (n + 1 - (i + 1)) (c - (i + 1))) W) := Lib.hid fun W => by
    have := slice_row_from g (n + 1) c (i + 1) (by omega) W
    rw [cutAt, if_neg hb2] at this
    rw [show (i : Int) + 1 = ((i + 1 : Nat) : Int) by omega]
    exact this
  have HS2 : Hid (∀ W, (Instr.sliceAt 50 (.slice (some ⟨g, 0, none⟩) (n + 1) c) (some (.int .i64 (i : Int))) none none).run Try.prog W = .ok (.slice (some ⟨g, i, none⟩) (n + 1 - i) (c - i)) W) := Lib.hid fun W => by
    have := slice_row_from g (n + 1) c i (by omega) W
    rw [cutAt, if_neg hb4] at this
    exact this
  clear hcp1 hcp2 hX hY hXs hAX hvX hnl hnews hti ht hA hs hn hv
  go_enter Try.func57, Try.ntmps57
  go_upto_region 15 with (simp only [hov])
  refine Drawn.wp_region_gen (S := (fun _ => True)) 9 (by kernel_rfl) ?_ ?_
  · trivial
  intro hS0
  (refine Drawn.gen_take (i := 0) rfl (by kernel_rfl) (by kernel_rfl) (by kernel_rfl) (by kernel_rfl) (by omega) (by assumption) (by first | exact .inr ⟨by rfl, rfl⟩ | exact .inl ⟨by rfl, by intro w2 hS; go_simp; first | done | with_reducible rfl | exact ⟨rfl, rfl⟩⟩) ?_; (try simp only [Act.put, List.setIfInBounds_toArray, List.set_cons_zero, List.set_cons_succ]))
  (refine Drawn.gen_take (i := 1) rfl (by kernel_rfl) (by kernel_rfl) (by kernel_rfl) (by kernel_rfl) (by omega) (by assumption) (by first | exact .inr ⟨by rfl, rfl⟩ | exact .inl ⟨by rfl, by intro w2 hS; go_simp; first | done | with_reducible rfl | exact ⟨rfl, rfl⟩⟩) ?_; (try simp only [Act.put, List.setIfInBounds_toArray, List.set_cons_zero, List.set_cons_succ]))
  (refine Drawn.gen_take (i := 2) rfl (by kernel_rfl) (by kernel_rfl) (by kernel_rfl) (by kernel_rfl) (by omega) (by assumption) (by first | exact .inr ⟨by rfl, rfl⟩ | exact .inl ⟨by rfl, by intro w2 hS; go_simp; first | done | with_reducible rfl | exact ⟨rfl, rfl⟩⟩) ?_; (try simp only [Act.put, List.setIfInBounds_toArray, List.set_cons_zero, List.set_cons_succ]))
  (refine Drawn.gen_take (i := 3) rfl (by kernel_rfl) (by kernel_rfl) (by kernel_rfl) (by kernel_rfl) (by omega) (by assumption) (by first | exact .inr ⟨by rfl, rfl⟩ | exact .inl ⟨by rfl, by intro w2 hS; go_simp; first | done | with_reducible rfl | exact ⟨rfl, rfl⟩⟩) ?_; (try simp only [Act.put, List.setIfInBounds_toArray, List.set_cons_zero, List.set_cons_succ]))
  (refine Drawn.gen_take (i := 4) rfl (by kernel_rfl) (by kernel_rfl) (by kernel_rfl) (by kernel_rfl) (by omega) (by assumption) (reads_slice (by rfl) rfl (fun W => HS1.out W)) ?_; (try simp only [Act.put, List.setIfInBounds_toArray, List.set_cons_zero, List.set_cons_succ]))
  (refine Drawn.gen_take (i := 5) rfl (by kernel_rfl) (by kernel_rfl) (by kernel_rfl) (by kernel_rfl) (by omega) (by assumption) (by first | exact .inr ⟨by rfl, rfl⟩ | exact .inl ⟨by rfl, by intro w2 hS; go_simp; first | done | with_reducible rfl | exact ⟨rfl, rfl⟩⟩) ?_; (try simp only [Act.put, List.setIfInBounds_toArray, List.set_cons_zero, List.set_cons_succ]))
  (refine Drawn.gen_take (i := 6) rfl (by kernel_rfl) (by kernel_rfl) (by kernel_rfl) (by kernel_rfl) (by omega) (by assumption) (by first | exact .inr ⟨by rfl, rfl⟩ | exact .inl ⟨by rfl, by intro w2 hS; go_simp; first | done | with_reducible rfl | exact ⟨rfl, rfl⟩⟩) ?_; (try simp only [Act.put, List.setIfInBounds_toArray, List.set_cons_zero, List.set_cons_succ]))
  (refine Drawn.gen_take (i := 7) rfl (by kernel_rfl) (by kernel_rfl) (by kernel_rfl) (by kernel_rfl) (by omega) (by assumption) (reads_slice (by rfl) rfl (fun W => HS2.out W)) ?_; (try simp only [Act.put, List.setIfInBounds_toArray, List.set_cons_zero, List.set_cons_succ]))
  refine Drawn.gen_one (i := 8) (by kernel_rfl) rfl (by rfl) ?_
  refine Drawn.Step.value (exec_copy (.tmp 73) (.tmp 76) 50 50 rfl rfl rfl HC1.out) ?_
  refine ⟨fun _ => trivial, ?_⟩
  (try simp only [Act.put, List.setIfInBounds_toArray, List.set_cons_zero, List.set_cons_succ])
  refine Drawn.gen_end (by kernel_rfl) ?_
  have hcp2 := HC2.out
  go_wp2
  go_ret
  exact ⟨rfl, ⟨Y, hQ.out, hYs.out, by rw [hwl.out]; omega, by unfold maxLen; omega, hYt.out⟩, hO.out⟩

/-- slices.Insert: within, where there is no room -/
theorem insert_grow {g i vb : Nat} {l : List Int} {w : World} {x : Int} (h : Rw w g l.length l) (hi : i < l.length) (hl : l.length ≤ 10000) (hv : At w vb (.cells #[.int .i64 x] 3)) : Calls Try.prog 57 #[.slice (some ⟨g, 0, none⟩) l.length l.length, .int .i64 (i : Int), .slice (some ⟨vb, 0, none⟩) 1 1] w fun e w' => (∃ c, e = .returned (.slice (some ⟨w.heap.size, 0, none⟩) (l.length + 1) c) ∧ Rw w' w.heap.size c (Tr.wi l i x)) ∧ Below w.heap.size w w' := by
  obtain ⟨i0, hi0, hz0, hz1, hz2⟩ := info_parts intZero
  have hgl := h.lt
  have hI := h.ints
  obtain ⟨cur, hA, hs, hc, hm, ht⟩ := h
  clear hm
  have hti : ∀ k, k ≤ l.length → cur.toList.take k = (l.take k).map (Value.int .i64) := fun k hk => by
    rw [List.map_take, ← ht, List.take_take, Nat.min_eq_left hk]
  have hcell : ∀ k u, (l.map (Value.int .i64))[k]? = some u → cur[k]? = some u := fun k u hu => by
    have hk : k < l.length := by have := (List.getElem?_eq_some_iff.1 hu).1; simpa using this
    have e : (cur.toList.take l.length)[k]? = (l.map (Value.int .i64))[k]? := by rw [ht]
    rw [List.getElem?_take, if_pos hk, hu] at e
    simpa using e
  have hold : (Builtin.firstCells i0.size i (.slice (some ⟨g, 0, none⟩) i l.length)).run Try.prog w.drew = .ok (cur.toList.take i).toArray w.drew := by
    rw [hz1]
    exact run_firstCells_some w.drew 1 i ⟨g, 0, none⟩ i l.length (cur.toList.take i) (by rw [List.length_take]; simp; omega) (fun k u hu => by
      rw [addr_add, hA.drew.cell]
      rw [List.getElem?_take] at hu
      split at hu
      · simpa using hu
      · cases hu)
  have happ := Lib.run_append_grow_zeros (P := Try.prog) w 50 3 50 3 i0 (.int .i64 0) .i64 .i64 Try.underlying50 Try.underlying3 hi0 hz0 (some ⟨g, 0, none⟩) i l.length _ hold (l.length + 1 - i) (by omega) (by omega) (by omega) (by omega) (by rw [hz2]; omega) (by rw [hz2]; exact growslice_fits (by omega) (by omega))
  obtain ⟨G, hG⟩ : ∃ G, G = grownCap w (i + (l.length + 1 - i)) l.length 3 := ⟨_, rfl⟩
  have hGn : l.length + 1 ≤ G := by have := grownCap_ge w (i + (l.length + 1 - i)) l.length 3; omega
  have hGm : G ≤ maxLen := by rw [hG]; exact grownCap_le_maxLen _ _ _ _ (by simp only [maxLen]; omega)
  rw [← hG, show i + (l.length + 1 - i) = l.length + 1 by omega] at happ
  obtain ⟨R, hR⟩ : ∃ R : Array Value, R = (cur.toList.take i).toArray ++ Builtin.zeroCells (Value.int .i64 0).cells (l.length + 1 - i) ++ Builtin.zeroCells (Value.int .i64 0).cells (G - (l.length + 1)) := ⟨_, rfl⟩
  rw [← hR] at happ
  have hRs : R.size = G := by rw [hR]; simp [size_zeroCells, Value.cells]; omega
  have hRt : R.toList.take i = cur.toList.take i := by
    rw [hR]
    simp only [Array.toList_append, List.append_assoc]
    rw [List.take_append_of_le_length (by simp; omega), List.take_of_length_le (by simp; omega)]
  clear hR
  obtain ⟨b, hb⟩ : ∃ b, b = w.heap.size := ⟨_, rfl⟩
  obtain ⟨W1, hW1⟩ : ∃ W1, W1 = w.drew.alloc (.cells R 3) := ⟨_, rfl⟩
  have hA1 : At W1 b (.cells R 3) := by rw [hW1, hb]; exact At.new _ _
  have hg1 : At W1 g (.cells cur 3) := by rw [hW1]; exact hA.drew.alloc _
  have hv1 : At W1 vb (.cells #[.int .i64 x] 3) := by rw [hW1]; exact hv.drew.alloc _
  have hB1 : Below b w W1 := by rw [hW1, hb]; exact (Below.refl _ _).drew.alloc (by simp) _
  have hvb : vb ≠ b := by rw [hb]; exact Nat.ne_of_lt hv.lt
  have hgb : g ≠ b := by rw [hb]; exact Nat.ne_of_lt hgl
  rw [← hW1, ← hb] at happ
  have hcp1 := run_copy_row (P := Try.prog) W1 50 50 3 3 b i (l.length + 1 - i) (G - i) ⟨vb, 0, none⟩ 1 1 R 3 [.int .i64 x] Try.underlying50 intSize hA1 (by simp only [Nat.min_def, List.length_singleton]; split <;> omega)
    (fun k u hu => by
      have hk : k = 0 := by have := (List.getElem?_eq_some_iff.1 hu).1; simpa using this
      subst hk
      rw [addr_add, hv1.cell]; simpa using hu) (by simp; omega) (by simp [Value.oneCell'])
  obtain ⟨X, hX⟩ : ∃ X : Array Value, X = (R.toList.take i ++ [Value.int .i64 x] ++ R.toList.drop (i + [Value.int .i64 x].length)).toArray := ⟨_, rfl⟩
  rw [← hX] at hcp1
  have hXs : X.size = G := by rw [hX]; simp; omega
  have hAX : At (W1.setRow b X).drew b (.cells X 3) := (hA1.setRow X).drew
  have hgX : At (W1.setRow b X).drew g (.cells cur 3) := (hg1.offRow hgb X).drew
  obtain ⟨news, hnews⟩ : ∃ news, news = (l.drop i).map (Value.int .i64) := ⟨_, rfl⟩
  have hnl : news.length = l.length - i := by rw [hnews]; simp
  have hcp2 := run_copy_row (P := Try.prog) (W1.setRow b X).drew 50 50 3 3 b (i + 1) (l.length + 1 - (i + 1)) (G - (i + 1)) ⟨g, i, none⟩ (l.length - i) (l.length - i) X 3 news Try.underlying50 intSize hAX (by rw [hnl]; simp only [Nat.min_def]; split <;> omega)
    (fun k u hu => by
      rw [addr_add, hgX.cell]
      rw [hnews, List.getElem?_map, List.getElem?_drop, ← List.getElem?_map] at hu
      exact hcell _ _ hu) (by omega) (by rw [hnews]; exact ints_one _)
  obtain ⟨Y, hY⟩ : ∃ Y : Array Value, Y = (X.toList.take (i + 1) ++ news ++ X.toList.drop (i + 1 + news.length)).toArray := ⟨_, rfl⟩
  rw [← hY, show ((W1.setRow b X).drew).setRow b Y = (W1.setRow b Y).drew by rw [← drew_setRow, setRow_setRow]] at hcp2
  have hYs : Hid (Y.size = G) := Lib.hid (by rw [hY]; simp; omega)
  have hYt : Hid (Y.toList.take (Tr.wi l i x).length = (Tr.wi l i x).map (Value.int .i64)) := Lib.hid (by
    rw [Tr.length_wi, hY, hX]
    simp only [Tr.wi, List.map_append, List.map_cons, List.length_singleton]
    have e1 : (R.toList.take i).length = i := by simp; omega
    have e2 : List.take (i + 1) (R.toList.take i ++ [Value.int .i64 x] ++ R.toList.drop (i + 1)) = R.toList.take i ++ [Value.int .i64 x] := by
      rw [List.take_append_of_le_length (by simp; omega), List.take_of_length_le (by simp; omega)]
    rw [e2, hRt, ← hti i (by omega), ← hnews]
    have e4 : (cur.toList.take i ++ [Value.int .i64 x] ++ news).length = l.length + 1 := by simp [hnl]; omega
    rw [List.take_append_of_le_length (by omega), List.take_of_length_le (by omega)]
    simp)
  have hQ : Hid (At (W1.setRow b Y).drew b (.cells Y 3)) := Lib.hid (hA1.setRow Y).drew
  have hO : Hid (Below b w (W1.setRow b Y).drew) := Lib.hid (below_setRow hB1 (Nat.le_refl _) Y).drew
  have hwl : Hid ((Tr.wi l i x).length = l.length + 1) := Lib.hid (Tr.length_wi _ _ _)
  unfold maxLen at hGm
  rw [← hb]
  clear hG
  generalize hn : l.length = n at *
  have HN := Lib.hid hn
  have hw1 : IntKind.i64.wrap ((i : Int) + 1) = (i : Int) + 1 := by rw [IntWalk.i64_in _ (by omega)]
  have hw2 : IntKind.i64.wrap ((n : Int) + 1 - (i : Int)) = (n : Int) + 1 - (i : Int) := by rw [IntWalk.i64_in _ (by omega)]
  have hz2 : ¬ ((i : Int) = (n : Int)) := by omega
  have hz3 : ((i : Int) == (n : Int)) = false := by simpa using hz2
  have hb1 : (0 : Int) ≤ (i : Int) + 1 := by omega
  have hb2 : ¬ (G = i + 1) := by omega
  have hb5 : ¬ (G = i) := by omega
  have hb4 : ¬ (n = i) := by omega
  have HC1 := Lib.hid hcp1
  have HC2 := Lib.hid hcp2
  have HAPP : Hid ((Builtin.append_ #[50, 3] 50 #[.slice (some ⟨g, 0, none⟩) i n, .int .i64 ((n : Int) + 1 - (i : Int))]).run Try.prog w = .ok (.slice (some ⟨b, 0, none⟩) (n + 1) G) W1) := Lib.hid (by
    rw [show (n : Int) + 1 - (i : Int) = ((n + 1 - i : Nat) : Int) by omega]; exact happ)
  have HS1 : Hid (∀ W, (Instr.sliceAt 50 (.slice (some ⟨b, 0, none⟩) (n + 1) G) (some (.int .i64 ((i : Int) + 1))) none none).run Try.prog W = .ok (.slice (some ⟨b, i + 1, none⟩) (n + 1 - (i + 1)) (G - (i + 1))) W) := Lib.hid fun W => by
    have := slice_row_from b (n + 1) G (i + 1) (by omega) W
    rw [cutAt, if_neg hb2] at this
    rw [show (i : Int) + 1 = ((i + 1 : Nat) : Int) by omega]
    exact this
  have HS2 : Hid (∀ W, (Instr.sliceAt 50 (.slice (some ⟨g, 0, none⟩) n n) (some (.int .i64 (i : Int))) none none).run Try.prog W = .ok (.slice (some ⟨g, i, none⟩) (n - i) (n - i)) W) := Lib.hid fun W => by
    have := slice_row_from g n n i (by omega) W
    rw [cutAt, if_neg hb4] at this
    exact this
  have HB := Lib.hid hb
  clear hcp1 hcp2 hX hY hXs hAX hgX hnl hnews hti ht hA hs hn hv happ hold hI hcell hA1 hg1 hv1 hB1 hvb hgb hRs hRt hW1 hb hc
  go_enter Try.func57, Try.ntmps57
  go_upto_region 10 with (at_builtin; refine wpList_run (by rfl) (exec_append (.tmp 34) (.tmp 39) 50 3 rfl rfl rfl HAPP.out) ?_)
  have hcp1 := HC1.out
  go_upto_region 11 with (fail)
  refine Drawn.wp_region_gen (S := (fun _ => True)) 9 (by kernel_rfl) ?_ ?_
  · trivial
  intro hS0
  (refine Drawn.gen_take (i := 0) rfl (by kernel_rfl) (by kernel_rfl) (by kernel_rfl) (by kernel_rfl) (by omega) (by assumption) (by first | exact .inr ⟨by rfl, rfl⟩ | exact .inl ⟨by rfl, by intro w2 hS; go_simp; first | done | with_reducible rfl | exact ⟨rfl, rfl⟩⟩) ?_; (try simp only [Act.put, List.setIfInBounds_toArray, List.set_cons_zero, List.set_cons_succ]))
  (refine Drawn.gen_take (i := 1) rfl (by kernel_rfl) (by kernel_rfl) (by kernel_rfl) (by kernel_rfl) (by omega) (by assumption) (by first | exact .inr ⟨by rfl, rfl⟩ | exact .inl ⟨by rfl, by intro w2 hS; go_simp; first | done | with_reducible rfl | exact ⟨rfl, rfl⟩⟩) ?_; (try simp only [Act.put, List.setIfInBounds_toArray, List.set_cons_zero, List.set_cons_succ]))
  (refine Drawn.gen_take (i := 2) rfl (by kernel_rfl) (by kernel_rfl) (by kernel_rfl) (by kernel_rfl) (by omega) (by assumption) (by first | exact .inr ⟨by rfl, rfl⟩ | exact .inl ⟨by rfl, by intro w2 hS; go_simp; first | done | with_reducible rfl | exact ⟨rfl, rfl⟩⟩) ?_; (try simp only [Act.put, List.setIfInBounds_toArray, List.set_cons_zero, List.set_cons_succ]))
  (refine Drawn.gen_take (i := 3) rfl (by kernel_rfl) (by kernel_rfl) (by kernel_rfl) (by kernel_rfl) (by omega) (by assumption) (by first | exact .inr ⟨by rfl, rfl⟩ | exact .inl ⟨by rfl, by intro w2 hS; go_simp; first | done | with_reducible rfl | exact ⟨rfl, rfl⟩⟩) ?_; (try simp only [Act.put, List.setIfInBounds_toArray, List.set_cons_zero, List.set_cons_succ]))
  (refine Drawn.gen_take (i := 4) rfl (by kernel_rfl) (by kernel_rfl) (by kernel_rfl) (by kernel_rfl) (by omega) (by assumption) (reads_slice (by rfl) rfl (fun W => HS1.out W)) ?_; (try simp only [Act.put, List.setIfInBounds_toArray, List.set_cons_zero, List.set_cons_succ]))
  (refine Drawn.gen_take (i := 5) rfl (by kernel_rfl) (by kernel_rfl) (by kernel_rfl) (by kernel_rfl) (by omega) (by assumption) (by first | exact .inr ⟨by rfl, rfl⟩ | exact .inl ⟨by rfl, by intro w2 hS; go_simp; first | done | with_reducible rfl | exact ⟨rfl, rfl⟩⟩) ?_; (try simp only [Act.put, List.setIfInBounds_toArray, List.set_cons_zero, List.set_cons_succ]))
  (refine Drawn.gen_take (i := 6) rfl (by kernel_rfl) (by kernel_rfl) (by kernel_rfl) (by kernel_rfl) (by omega) (by assumption) (by first | exact .inr ⟨by rfl, rfl⟩ | exact .inl ⟨by rfl, by intro w2 hS; go_simp; first | done | with_reducible rfl | exact ⟨rfl, rfl⟩⟩) ?_; (try simp only [Act.put, List.setIfInBounds_toArray, List.set_cons_zero, List.set_cons_succ]))
  (refine Drawn.gen_take (i := 7) rfl (by kernel_rfl) (by kernel_rfl) (by kernel_rfl) (by kernel_rfl) (by omega) (by assumption) (reads_slice (by rfl) rfl (fun W => HS2.out W)) ?_; (try simp only [Act.put, List.setIfInBounds_toArray, List.set_cons_zero, List.set_cons_succ]))
  refine Drawn.gen_one (i := 8) (by kernel_rfl) rfl (by rfl) ?_
  refine Drawn.Step.value (exec_copy (.tmp 50) (.tmp 53) 50 50 rfl rfl rfl HC2.out) ?_
  refine ⟨fun _ => trivial, ?_⟩
  (try simp only [Act.put, List.setIfInBounds_toArray, List.set_cons_zero, List.set_cons_succ])
  refine Drawn.gen_end (by kernel_rfl) ?_
  go_wp2
  go_ret
  exact ⟨⟨G, rfl, ⟨Y, hQ.out, hYs.out, by rw [hwl.out]; omega, by unfold maxLen; omega, hYt.out⟩⟩, hO.out⟩

/-- slices.Insert -/
theorem insert_any {v : Value} {l : List Int} {w : World} {i vb : Nat} {x : Int} (h : KS w v l) (hi : i ≤ l.length) (hl : l.length ≤ 10000) (hv : At w vb (.cells #[.int .i64 x] 3)) (hne : v.ownBlock ≠ some vb) : Calls Try.prog 57 #[v, .int .i64 (i : Int), .slice (some ⟨vb, 0, none⟩) 1 1] w fun e w' => ∃ v', e = .returned v' ∧ KS w' v' (Tr.wi l i x) ∧ Out (fun b => v.ownBlock = some b) w w' ∧ (v'.ownBlock = v.ownBlock ∨ v'.ownBlock = some w.heap.size) := by
  by_cases hin : i = l.length
  · subst hin
    refine (insert_end h hl hv).mono ?_
    rintro e w' ⟨v', rfl, h1, h2, h3⟩
    exact ⟨v', rfl, by rw [Tr.wi, List.take_length, List.drop_length]; exact h1, h2, h3⟩
  · rcases h.cases with ⟨rfl, rfl⟩ | ⟨g, c, rfl, hr⟩
    · simp at hi; simp [hi] at hin
    · have hvg : vb ≠ g := fun e => hne (by rw [e]; rfl)
      by_cases hc : l.length < c
      · refine (insert_room hr (by omega) hc hv hvg).mono ?_
        rintro e w' ⟨rfl, h1, h2⟩
        exact ⟨_, rfl, by have := h1.ks; rw [Tr.length_wi] at this; exact this, h2.mono fun b _ e => by subst e; rfl, .inl rfl⟩
      · have hcl : c = l.length := by obtain ⟨_, _, _, h3, _⟩ := hr; omega
        subst hcl
        refine (insert_grow hr (by omega) hl hv).mono ?_
        rintro e w' ⟨⟨c, rfl, h1⟩, h2⟩
        exact ⟨_, rfl, by have := h1.ks; rw [Tr.length_wi] at this; exact this, Out.of_below h2, .inr rfl⟩

end Go.Proofs.Ytbkocceemfhhbaa.Fix

/-! A map from numbers to blocks (pointers to them), as a function. -/
namespace Go.Proofs.Ytbkocceemfhhbaa.Fix
open Go.ChangeShapes Go.WideShapes Go.ChangeAt Go.RowKit
set_option linter.unusedVariables false
set_option maxRecDepth 100000

def ptr : Option Nat → Value
  | none => .pointer none
  | some b => .pointer (some ⟨b, 0, none⟩)
def ptD : Option Nat → DataW Nat
  | none => .nil
  | some b => .held b
/-- how a pointer reads -/
def ptR : Value → Option (DataW Nat × List MemPlace)
  | .pointer none => some (.nil, [])
  | .pointer (some a) => if a = ⟨a.block, 0, none⟩ then some (.held a.block, []) else none
  | _ => none

theorem ptR_ptr (o : Option Nat) : ptR (ptr o) = some (ptD o, []) := by cases o <;> simp [ptr, ptR, ptD]
theorem ptR_inv {v : Value} {o : Option Nat} {ps : List MemPlace} (h : ptR v = some (ptD o, ps)) : v = ptr o := by
  cases v with
  | pointer p =>
    cases p with
    | none => cases o <;> simp [ptR, ptD] at h; rfl
    | some a =>
      simp only [ptR] at h
      split at h
      · rename_i ha
        cases o <;> simp [ptD] at h
        rw [ha, h.1]; rfl
      · cases h
  | _ => simp [ptR] at h
theorem ptR_some {v : Value} {y : DataW Nat × List MemPlace} (h : ptR v = some y) : ∃ o, v = ptr o ∧ y = (ptD o, []) := by
  cases v with
  | pointer p =>
    cases p with
    | none => simp [ptR] at h; exact ⟨none, rfl, h.symm⟩
    | some a =>
      simp only [ptR] at h
      split at h
      · rename_i ha
        injection h with h
        exact ⟨some a.block, by rw [ha]; rfl, h.symm⟩
      · cases h
  | _ => simp [ptR] at h
theorem ptD_inj {o o' : Option Nat} (h : ptD o = ptD o') : o = o' := by cases o <;> cases o' <;> simp [ptD] at h <;> simp [h]

theorem keyLaw : Maps.Keyed Try.prog 3 := Maps.int_keyed Try.underlying3
def Wf (z : Int) : Prop := (Lit.int .i64 z).wf = true
theorem wf_iff (z : Int) : Wf z ↔ -9223372036854775808 ≤ z ∧ z ≤ 9223372036854775807 := by
  unfold Wf
  constructor
  · intro h; exact bounds_i64 h
  · intro h; exact WalkArith.wf_i64 h
theorem key_int {z : Int} (h : Wf z) : keyOf Try.prog 3 (.int .i64 z) = some (.int .i64 z) := Maps.keyOf_int_mk Try.underlying3 h
theorem keyLit (z : Int) : WideAt.IsKeyLit (.int .i64 z) := trivial
theorem key_ne {y z : Int} (h : y ≠ z) : Lit.int .i64 y ≠ Lit.int .i64 z := fun e => by injection e with _ e; exact h e

/-- block b is a map of n numbers that leads to the blocks f -/
def PM (W : World) (b n : Nat) (f : Int → Option Nat) : Prop :=
  ∃ D : DataW Nat, W.ownsMap Try.prog 3 ptR b n D ∧ Maps.size D = n ∧ ∀ z, Wf z → D.atKey (.int .i64 z) .nil = ptD (f z) ∧ Maps.has D (.int .i64 z) = (f z).isSome

theorem ownsMap_tight {P : Program} {k : TypeId} {R : Value → Option (DataW Nat × List MemPlace)} {W : World} {b n : Nat} {D : DataW Nat} (h : W.ownsMap P k R b n D) : W.ownsMap P k R b (Maps.size D) D := by
  obtain ⟨es, clock, hb, F, hs, rfl⟩ := h
  exact ⟨es, clock, hb, F, by simp [Maps.size, length_sorted], rfl⟩

theorem PM.lt {W : World} {b n : Nat} {f : Int → Option Nat} (h : PM W b n f) : b < W.heap.size := by obtain ⟨D, h, _⟩ := h; exact h.lt
theorem PM.out {M : Nat → Prop} {W W' : World} {b n : Nat} {f : Int → Option Nat} (h : PM W b n f) (hm : ¬ M b) (k : Out M W W') : PM W' b n f := by
  have hl := h.lt
  obtain ⟨D, ⟨es, clock, hb, r⟩, r2⟩ := h
  exact ⟨D, ⟨es, clock, (k.2 b hl hm).trans hb, r⟩, r2⟩
theorem PM.congr {W : World} {b n : Nat} {f g : Int → Option Nat} (h : PM W b n f) (e : ∀ z, Wf z → f z = g z) : PM W b n g := by
  obtain ⟨D, h1, h2, h3⟩ := h
  exact ⟨D, h1, h2, fun z hz => by rw [← e z hz]; exact h3 z hz⟩

theorem PM.look {W : World} {b n : Nat} {f : Int → Option Nat} (h : PM W b n f) {z : Int} (hz : Wf z) : (Instr.lookup 70 (.map (some b)) (.int .i64 z) false).run Try.prog W = .ok (ptr (f z)) W := by
  obtain ⟨D, h1, _, h3⟩ := h
  obtain ⟨v, ps, hr, hv⟩ := h1.lookup (z := ptr none) (zd := .nil) (zp := []) keyLaw Try.underlying70 (by kernel_rfl) (ptR_ptr none) (key_int hz)
  rw [(h3 z hz).1] at hv
  rw [hr, ptR_inv hv]

theorem PM.len {W : World} {b n : Nat} {f : Int → Option Nat} (h : PM W b n f) (ty : TypeId) : (Builtin.len_ #[70] ty #[.map (some b)]).run Try.prog W = .ok (.int .i64 (n : Int)) W := by
  obtain ⟨D, h1, h2, h3⟩ := h
  rw [h1.len Try.underlying70 ty, h2]

/-- the map with one more -/
def fset (f : Int → Option Nat) (z : Int) (b : Nat) : Int → Option Nat := fun y => if y = z then some b else f y
def fdel (f : Int → Option Nat) (z : Int) : Int → Option Nat := fun y => if y = z then none else f y

theorem Out.turned {W W' : World} {b : Nat} (h : W.mapTurned W' b) : Out (fun x => x = b) W W' := by
  have hg := h.grown
  exact ⟨⟨hg.os, hg.tape, hg.output, hg.size, fun _ hb => absurd hb (Nat.not_lt_zero _)⟩, fun x hx hm => hg.block x hx (fun e => hm (by injection e))⟩

theorem PM.store {W : World} {b n : Nat} {f : Int → Option Nat} (h : PM W b n f) (hn : n < maxLen) {z : Int} (hz : Wf z) (hf : f z = none) (c : Nat) :
    ∃ W', (Instr.mapUpdate 70 (.map (some b)) (.int .i64 z) (.pointer (some ⟨c, 0, none⟩))).run Try.prog W = .ok () W' ∧ PM W' b (n + 1) (fset f z c) ∧ Out (fun x => x = b) W W' := by
  obtain ⟨D, h1, h2, h3⟩ := h
  obtain ⟨W', hr, ho, ht⟩ := h1.store keyLaw Try.underlying70 hn (key_int hz) (ptR_ptr (some c))
  have hsz : Maps.size (D.put (.int .i64 z) (ptD (some c))) = n + 1 := by
    rw [Maps.size_put (h1.tidy keyLaw), (h3 z hz).2, hf, h2]; rfl
  refine ⟨W', hr, ⟨_, hsz ▸ ownsMap_tight ho, hsz, fun y hy => ?_⟩, Out.turned ht⟩
  unfold fset
  by_cases e : y = z
  · subst e
    rw [if_pos rfl, Maps.atKey_put_same h1.isMap (keyLit y), Maps.has_put_same h1.isMap (keyLit y)]
    exact ⟨rfl, rfl⟩
  · rw [if_neg e, Maps.atKey_put_other (key_ne e), Maps.has_put_other (key_ne e)]
    exact h3 y hy

theorem PM.drop {W : World} {b n : Nat} {f : Int → Option Nat} (h : PM W b n f) {z : Int} (hz : Wf z) (hf : (f z).isSome = true) (ty : TypeId) :
    ∃ W', (Builtin.delete_ #[70, 3] ty #[.map (some b), .int .i64 z]).run Try.prog W = .ok (.tuple #[]) W' ∧ PM W' b (n - 1) (fdel f z) ∧ Out (fun x => x = b) W W' ∧ 1 ≤ n := by
  obtain ⟨D, h1, h2, h3⟩ := h
  obtain ⟨W', hr, ho, ht⟩ := h1.drop keyLaw Try.underlying70 (key_int hz) ty
  have hs := Maps.size_del (k := .int .i64 z) (h1.tidy keyLaw)
  rw [(h3 z hz).2, hf, h2] at hs
  have hsz : Maps.size (D.del (.int .i64 z)) = n - 1 := by simp at hs; omega
  refine ⟨W', hr, ⟨_, hsz ▸ ownsMap_tight ho, hsz, fun y hy => ?_⟩, Out.turned ht, by simp at hs; omega⟩
  unfold fdel
  by_cases e : y = z
  · subst e
    rw [if_pos rfl, Maps.atKey_del_same, Maps.has_del_same]
    exact ⟨rfl, rfl⟩
  · rw [if_neg e, Maps.atKey_del_other (key_ne e), Maps.has_del_other (key_ne e)]
    exact h3 y hy

theorem PM.made (W : World) : PM (W.alloc (.map #[] 0)) W.heap.size 0 (fun _ => none) :=
  ⟨.map [], World.ownsMap_made _ _ _ _, rfl, fun z hz => ⟨rfl, rfl⟩⟩

end Go.Proofs.Ytbkocceemfhhbaa.Fix

/-! A tree of boxes in memory: a block with a map, a block for each box, a row for its kids. -/
namespace Go.Proofs.Ytbkocceemfhhbaa.Fix
open Go.ChangeShapes Go.WideShapes Go.ChangeAt Go.RowKit
set_option linter.unusedVariables false
set_option maxRecDepth 100000

/-! a style that stands somewhere in a block -/
def StyAt (W : World) (b o : Nat) (s : Re.St) : Prop := ∀ j, j < 55 → W.cell? ⟨b, o + j, none⟩ = some (cell s j)

theorem loadVar_sty {W : World} {b o : Nat} {s : Re.St} (h : StyAt W b o s) : (loadVar 43 ⟨b, o, none⟩).run Try.prog W = .ok (.agg (cells s)) W := by
  have hl := run_loadCells_list (P := Try.prog) W ⟨b, o, none⟩ (cells s).toList (fun j v hj => by
    have hj' : j < 55 := by have := (List.getElem?_eq_some_iff.1 hj).1; simpa [cells_size] using this
    rw [addr_add, h j hj']
    rw [Array.getElem?_toList, cells_get s hj'] at hj
    exact hj)
  rw [Array.length_toList, cells_size] at hl
  have hi : (isAgg 43).run Try.prog W = .ok true W := by kernel_rfl
  have hz : (sizeOf 43).run Try.prog W = .ok 55 W := by kernel_rfl
  simp only [loadVar, Sem.run_bind, hi, hz, hl, Result.andThen_ok, if_true, Sem.run_pure]
theorem load_sty {W : World} {b o : Nat} {s : Re.St} (h : StyAt W b o s) : (Instr.loadAt 43 (.pointer (some ⟨b, o, none⟩))).run Try.prog W = .ok (.agg (cells s)) W := by
  simp only [Instr.loadAt, Instr.sureAddr, Sem.run_bind, Sem.run_pure, Result.andThen_ok, loadVar_sty h]
theorem wpList_load_sty {ops : Array Oper} {rest : List Oper} {o : Oper} {a : Act} {w : World} {Q : Exit → Act → World → Prop} (hw : Region.wanted o (yielded ops a.tmps) = true) (x : Operand) (ho : o.op = .load 43 x) {b k : Nat} (hx : a.eval x = .pointer (some ⟨b, k, none⟩)) {s : Re.St} (hs : StyAt w b k s)
    (h : wpList Try.prog ops Q rest (a.put o.dst (.agg (cells s))) w) : wpList Try.prog ops Q (o :: rest) a w :=
  wpList_value hw (by unfold execOp; simp only [ho, hx, Sem.run_bind, load_sty hs, Result.andThen_ok, Sem.run_pure]) h

/-! a box -/
def bcells (u : Int) (v : Value) (s : Re.St) : Array Value := #[.int .i64 u, v] ++ cells s

theorem bcells_size (u : Int) (v : Value) (s : Re.St) : (bcells u v s).size = 57 := by simp [bcells, cells_size]
theorem bcells_sty (u : Int) (v : Value) (s : Re.St) {j : Nat} (h : j < 55) : (bcells u v s)[2 + j]? = some (cell s j) := by
  unfold bcells
  rw [Array.getElem?_append_right (by simp), show 2 + j - (#[Value.int .i64 u, v] : Array Value).size = j by simp, cells_get s h]
theorem bcells_up (u : Int) (v : Value) (s : Re.St) : (bcells u v s)[0]? = some (.int .i64 u) := by
  unfold bcells
  rw [Array.getElem?_append_left (by simp)]; rfl
theorem bcells_kids (u : Int) (v : Value) (s : Re.St) : (bcells u v s)[1]? = some v := by
  unfold bcells
  rw [Array.getElem?_append_left (by simp)]; rfl
theorem bcells_set_up (u u' : Int) (v : Value) (s : Re.St) : (bcells u v s).setIfInBounds 0 (.int .i64 u') = bcells u' v s := by
  unfold bcells
  rw [Array.setIfInBounds_append_left (by simp)]; rfl
theorem bcells_set_kids (u : Int) (v v' : Value) (s : Re.St) : (bcells u v s).setIfInBounds 1 v' = bcells u v' s := by
  unfold bcells
  rw [Array.setIfInBounds_append_left (by simp)]; rfl

theorem build_box (u : Int) (A : Option Addr) (n c : Nat) (s : Re.St) (W : World) : (Instr.build 69 #[(0, .int .i64 u), (1, .slice A n c), (2, .agg (cells s))]).run Try.prog W = .ok (.agg (bcells u (.slice A n c) s)) W := by kernel_rfl
theorem build_box_up (u : Int) (W : World) : (Instr.build 69 #[(0, .int .i64 u)]).run Try.prog W = .ok (.agg (bcells u (.slice none 0 0) Re.zero)) W := by kernel_rfl
theorem build_box_zero (W : World) : (Instr.build 69 #[]).run Try.prog W = .ok (.agg (bcells 0 (.slice none 0 0) Re.zero)) W := by kernel_rfl
theorem build_tree (b : Nat) (W : World) : (Instr.build 72 #[(0, .map (some b))]).run Try.prog W = .ok (.agg #[.map (some b)]) W := by kernel_rfl

theorem At.uniq {W : World} {b : Nat} {o o' : Obj} (h : At W b o) (k : At W b o') : o = o' := Option.some.inj (h.symm.trans k)
theorem KS.rowAt {W : World} {v : Value} {l : List Int} (h : KS W v l) {g : Nat} (hg : v.ownBlock = some g) : ∃ cur : Array Value, At W g (.cells cur 3) := by
  rcases h.cases with ⟨rfl, _⟩ | ⟨g', c, rfl, cur, h1, _⟩
  · simp [Value.ownBlock] at hg
  · simp [Value.ownBlock] at hg; subst hg; exact ⟨cur, h1⟩
theorem PM.obj {W : World} {b n : Nat} {f : Int → Option Nat} (h : PM W b n f) : ∃ es clock, At W b (.map es clock) := by obtain ⟨D, ⟨es, clock, hb, _⟩, _⟩ := h; exact ⟨es, clock, hb⟩

/-- where a tree lies: its map, each box's block, each box's row of kids -/
structure Lay where
  mb : Nat
  bl : Int → Nat
  sl : Int → Value

/-- the tree T of n boxes lies in block t -/
structure Rep (W : World) (t : Nat) (L : Lay) (T : Tr.T) (n : Nat) : Prop where
  at_ : At W t (.cells #[.map (some L.mb)] 72)
  map : PM W L.mb n (fun z => (T z).map fun _ => L.bl z)
  box : ∀ z nd, T z = some nd → At W (L.bl z) (.cells (bcells nd.up (L.sl z) nd.sty) 69)
  row : ∀ z nd, T z = some nd → KS W (L.sl z) nd.kids
  inj : ∀ y z, T y ≠ none → T z ≠ none → L.bl y = L.bl z → y = z
  apart : ∀ y z g, T y ≠ none → T z ≠ none → (L.sl y).ownBlock = some g → (L.sl z).ownBlock = some g → y = z
  small : ∀ z nd, T z = some nd → 0 ≤ z ∧ z < 4096 ∧ -1 ≤ nd.up ∧ nd.up < 4096 ∧ nd.kids.length ≤ 4096

/-- the blocks of a tree -/
def owned (t : Nat) (L : Lay) (T : Tr.T) (b : Nat) : Prop := b = t ∨ b = L.mb ∨ ∃ z nd, T z = some nd ∧ (b = L.bl z ∨ (L.sl z).ownBlock = some b)

section
variable {W W' : World} {t n : Nat} {L : Lay} {T : Tr.T}

theorem Rep.out {M : Nat → Prop} (h : Rep W t L T n) (hm : ∀ b, owned t L T b → ¬ M b) (k : Out M W W') : Rep W' t L T n where
  at_ := h.at_.out (hm _ (.inl rfl)) k
  map := h.map.out (hm _ (.inr (.inl rfl))) k
  box := fun z nd hz => (h.box z nd hz).out (hm _ (.inr (.inr ⟨z, nd, hz, .inl rfl⟩))) k
  row := fun z nd hz => (h.row z nd hz).out (fun g hg => hm _ (.inr (.inr ⟨z, nd, hz, .inr hg⟩))) k
  inj := h.inj
  apart := h.apart
  small := h.small
theorem Rep.after (h : Rep W t L T n) (hb : Below W.heap.size W W') : Rep W' t L T n := h.out (M := fun _ => False) (fun _ _ q => q) (Out.of_below hb)
theorem Rep.alloc (h : Rep W t L T n) (o : Obj) : Rep (W.alloc o) t L T n := h.after (Below.alloc' (Below.refl _ _) o)
theorem Rep.lt (h : Rep W t L T n) {b : Nat} (hb : owned t L T b) : b < W.heap.size := by
  rcases hb with rfl | rfl | ⟨z, nd, hz, rfl | hg⟩
  · exact h.at_.lt
  · exact h.map.lt
  · exact (h.box z nd hz).lt
  · exact (h.row z nd hz).lt hg

theorem Rep.t_mb (h : Rep W t L T n) : t ≠ L.mb := fun e => by
  obtain ⟨es, clock, h1⟩ := h.map.obj
  have := h.at_.uniq (e ▸ h1); cases this
theorem Rep.bl_t (h : Rep W t L T n) {z : Int} {nd : Tr.Nd} (hz : T z = some nd) : L.bl z ≠ t := fun e => by
  have := (h.box z nd hz).uniq (e ▸ h.at_); injection this with _ e2; exact absurd e2 (by decide)
theorem Rep.bl_mb (h : Rep W t L T n) {z : Int} {nd : Tr.Nd} (hz : T z = some nd) : L.bl z ≠ L.mb := fun e => by
  obtain ⟨es, clock, h1⟩ := h.map.obj
  have := (h.box z nd hz).uniq (e ▸ h1); cases this
theorem Rep.sl_t (h : Rep W t L T n) {z : Int} {nd : Tr.Nd} (hz : T z = some nd) : (L.sl z).ownBlock ≠ some t := fun e => by
  obtain ⟨cur, h1⟩ := (h.row z nd hz).rowAt e
  have := h1.uniq h.at_; injection this with _ e2; exact absurd e2 (by decide)
theorem Rep.sl_mb (h : Rep W t L T n) {z : Int} {nd : Tr.Nd} (hz : T z = some nd) : (L.sl z).ownBlock ≠ some L.mb := fun e => by
  obtain ⟨cur, h1⟩ := (h.row z nd hz).rowAt e
  obtain ⟨es, clock, h2⟩ := h.map.obj
  have := h1.uniq h2; cases this
theorem Rep.sl_bl (h : Rep W t L T n) {z y : Int} {nd yd : Tr.Nd} (hz : T z = some nd) (hy : T y = some yd) : (L.sl z).ownBlock ≠ some (L.bl y) := fun e => by
  obtain ⟨cur, h1⟩ := (h.row z nd hz).rowAt e
  have := h1.uniq (h.box y yd hy); injection this with _ e2; exact absurd e2 (by decide)

theorem Rep.sl_nbl (h : Rep W t L T n) {z y : Int} {nd yd : Tr.Nd} (hz : T z = some nd) (hy : T y = some yd) : ∀ g, (L.sl z).ownBlock = some g → ¬ (fun b => b = L.bl y) g := fun g hg (q : g = L.bl y) => h.sl_bl hz hy (by rw [hg, q])
theorem Rep.sl_nmb (h : Rep W t L T n) {z : Int} {nd : Tr.Nd} (hz : T z = some nd) : ∀ g, (L.sl z).ownBlock = some g → ¬ (fun b => b = L.mb) g := fun g hg (q : g = L.mb) => h.sl_mb hz (by rw [hg, q])

theorem Rep.wf (h : Rep W t L T n) {z : Int} {nd : Tr.Nd} (hz : T z = some nd) : Wf z := by have := h.small z nd hz; rw [wf_iff]; omega
theorem Rep.look (h : Rep W t L T n) {z : Int} (hz : Wf z) : (Instr.lookup 70 (.map (some L.mb)) (.int .i64 z) false).run Try.prog W = .ok (ptr ((T z).map fun _ => L.bl z)) W := h.map.look hz
theorem Rep.look_none (h : Rep W t L T n) {z : Int} (hz : Wf z) (hn : T z = none) : (Instr.lookup 70 (.map (some L.mb)) (.int .i64 z) false).run Try.prog W = .ok (.pointer none) W := by
  have := h.look hz; rw [hn] at this; exact this
theorem Rep.look_some (h : Rep W t L T n) {z : Int} {nd : Tr.Nd} (hn : T z = some nd) : (Instr.lookup 70 (.map (some L.mb)) (.int .i64 z) false).run Try.prog W = .ok (.pointer (some ⟨L.bl z, 0, none⟩)) W := by
  have := h.look (h.wf hn); rw [hn] at this; exact this
theorem Rep.cUp (h : Rep W t L T n) {z : Int} {nd : Tr.Nd} (hz : T z = some nd) : W.cell? ⟨L.bl z, 0, none⟩ = some (.int .i64 nd.up) := by rw [(h.box z nd hz).cell, bcells_up]
theorem Rep.cKids (h : Rep W t L T n) {z : Int} {nd : Tr.Nd} (hz : T z = some nd) : W.cell? ⟨L.bl z, 1, none⟩ = some (L.sl z) := by rw [(h.box z nd hz).cell, bcells_kids]
theorem Rep.sty (h : Rep W t L T n) {z : Int} {nd : Tr.Nd} (hz : T z = some nd) : StyAt W (L.bl z) 2 nd.sty := fun j hj => by rw [(h.box z nd hz).cell, bcells_sty _ _ _ hj]
theorem Rep.cT (h : Rep W t L T n) : W.cell? ⟨t, 0, none⟩ = some (.map (some L.mb)) := by rw [h.at_.cell]; rfl

/-- what lies behind a call that turns a tree: only its own blocks have turned, its blocks are its own or new -/
def Grow (t : Nat) (L L' : Lay) (T T' : Tr.T) (W W' : World) : Prop := Out (owned t L T) W W' ∧ ∀ b, owned t L' T' b → owned t L T b ∨ W.heap.size ≤ b

theorem Grow.refl (t : Nat) (L : Lay) (T : Tr.T) (W : World) : Grow t L L T T W W := ⟨Out.refl _ _, fun _ h => .inl h⟩
theorem Grow.of_below (h : Below W.heap.size W W') : Grow t L L T T W W' := ⟨Out.of_below h, fun _ h => .inl h⟩
theorem Grow.trans {W'' : World} {L' L'' : Lay} {T' T'' : Tr.T} (h : Grow t L L' T T' W W') (k : Grow t L' L'' T' T'' W' W'') : Grow t L L'' T T'' W W'' := by
  refine ⟨⟨h.1.1.trans k.1.1, fun b hb hm => (k.1.2 b (Nat.lt_of_lt_of_le hb h.1.size) fun q => ?_).trans (h.1.2 b hb hm)⟩, fun b hb => ?_⟩
  · rcases h.2 b q with q | q
    · exact hm q
    · omega
  · rcases k.2 b hb with q | q
    · exact h.2 b q
    · exact .inr (Nat.le_trans h.1.size q)

/-- a box's number of the one that it is in -/
theorem Rep.setUp (h : Rep W t L T n) {z u : Int} {nd : Tr.Nd} (hz : T z = some nd) (hu : -1 ≤ u ∧ u < 4096) : Rep (W.setCell ⟨L.bl z, 0, none⟩ (.int .i64 u)) t L (Tr.set T z { nd with up := u }) n ∧ Grow t L L T (Tr.set T z { nd with up := u }) W (W.setCell ⟨L.bl z, 0, none⟩ (.int .i64 u)) := by
  have hO : Out (fun b => b = L.bl z) W (W.setCell ⟨L.bl z, 0, none⟩ (.int .i64 u)) := (Out.refl _ _).set (M := fun b => b = L.bl z) rfl 0 _
  have hnn : ∀ y, (Tr.set T z { nd with up := u } y ≠ none ↔ T y ≠ none) := fun y => by
    by_cases e : y = z
    · subst e; simp [Tr.set_same, hz]
    · rw [Tr.set_other _ _ e]
  refine ⟨⟨h.at_.out (fun e => h.bl_t hz e.symm) hO, (h.map.out (fun e => h.bl_mb hz e.symm) hO).congr fun y _ => ?_, fun y yd hy => ?_, fun y yd hy => ?_, fun x y hx hy => h.inj x y ((hnn x).1 hx) ((hnn y).1 hy), fun x y g hx hy => h.apart x y g ((hnn x).1 hx) ((hnn y).1 hy), fun y yd hy => ?_⟩, hO.mono fun b _ e => .inr (.inr ⟨z, nd, hz, .inl e⟩), fun b hb => .inl ?_⟩
  · by_cases e : y = z
    · subst e; rw [Tr.set_same, hz]; rfl
    · rw [Tr.set_other _ _ e]
  · by_cases e : y = z
    · subst e; rw [Tr.set_same] at hy; cases hy
      have := (h.box y nd hz).set 0 (.int .i64 u)
      rw [bcells_set_up] at this
      exact this
    · rw [Tr.set_other _ _ e] at hy
      exact (h.box y yd hy).off (fun q => e (h.inj y z (by simp [hy]) (by simp [hz]) q)) _ _
  · by_cases e : y = z
    · subst e; rw [Tr.set_same] at hy; cases hy
      exact (h.row y nd hz).out (h.sl_nbl hz hz) hO
    · rw [Tr.set_other _ _ e] at hy
      exact (h.row y yd hy).out (h.sl_nbl hy hz) hO
  · by_cases e : y = z
    · subst e; rw [Tr.set_same] at hy; cases hy
      have := h.small y nd hz
      exact ⟨this.1, this.2.1, hu.1, hu.2, this.2.2.2.2⟩
    · rw [Tr.set_other _ _ e] at hy; exact h.small y yd hy
  · rcases hb with e | e | ⟨y, yd, hy, e⟩
    · exact .inl e
    · exact .inr (.inl e)
    · by_cases e2 : y = z
      · subst e2; exact .inr (.inr ⟨y, nd, hz, e⟩)
      · rw [Tr.set_other _ _ e2] at hy; exact .inr (.inr ⟨y, yd, hy, e⟩)

/-- a box's style -/
theorem Rep.setSty (h : Rep W t L T n) {z : Int} {s : Re.St} {nd : Tr.Nd} (hz : T z = some nd) : Rep (W.setRow (L.bl z) (bcells nd.up (L.sl z) s)) t L (Tr.set T z { nd with sty := s }) n ∧ Grow t L L T (Tr.set T z { nd with sty := s }) W (W.setRow (L.bl z) (bcells nd.up (L.sl z) s)) := by
  have hO : Out (fun b => b = L.bl z) W (W.setRow (L.bl z) (bcells nd.up (L.sl z) s)) := (Out.refl _ _).setRow (M := fun b => b = L.bl z) rfl _
  have hnn : ∀ y, (Tr.set T z { nd with sty := s } y ≠ none ↔ T y ≠ none) := fun y => by
    by_cases e : y = z
    · subst e; simp [Tr.set_same, hz]
    · rw [Tr.set_other _ _ e]
  refine ⟨⟨h.at_.out (fun e => h.bl_t hz e.symm) hO, (h.map.out (fun e => h.bl_mb hz e.symm) hO).congr fun y _ => ?_, fun y yd hy => ?_, fun y yd hy => ?_, fun x y hx hy => h.inj x y ((hnn x).1 hx) ((hnn y).1 hy), fun x y g hx hy => h.apart x y g ((hnn x).1 hx) ((hnn y).1 hy), fun y yd hy => ?_⟩, hO.mono fun b _ e => .inr (.inr ⟨z, nd, hz, .inl e⟩), fun b hb => .inl ?_⟩
  · by_cases e : y = z
    · subst e; rw [Tr.set_same, hz]; rfl
    · rw [Tr.set_other _ _ e]
  · by_cases e : y = z
    · subst e; rw [Tr.set_same] at hy; cases hy
      exact (h.box y nd hz).setRow _
    · rw [Tr.set_other _ _ e] at hy
      exact (h.box y yd hy).offRow (fun q => e (h.inj y z (by simp [hy]) (by simp [hz]) q)) _
  · by_cases e : y = z
    · subst e; rw [Tr.set_same] at hy; cases hy
      exact (h.row y nd hz).out (h.sl_nbl hz hz) hO
    · rw [Tr.set_other _ _ e] at hy
      exact (h.row y yd hy).out (h.sl_nbl hy hz) hO
  · by_cases e : y = z
    · subst e; rw [Tr.set_same] at hy; cases hy
      exact h.small y nd hz
    · rw [Tr.set_other _ _ e] at hy; exact h.small y yd hy
  · rcases hb with e | e | ⟨y, yd, hy, e⟩
    · exact .inl e
    · exact .inr (.inl e)
    · by_cases e2 : y = z
      · subst e2; exact .inr (.inr ⟨y, nd, hz, e⟩)
      · rw [Tr.set_other _ _ e2] at hy; exact .inr (.inr ⟨y, yd, hy, e⟩)

/-- a box's kids: its row has turned, or is a new one -/
theorem Rep.setKids (h : Rep W t L T n) {z : Int} {nd : Tr.Nd} {l : List Int} {v : Value} (hz : T z = some nd) (hO1 : Out (fun b => (L.sl z).ownBlock = some b) W W') (hv : KS W' v l) (hloc : v.ownBlock = (L.sl z).ownBlock ∨ v.ownBlock = none ∨ ∃ b, v.ownBlock = some b ∧ W.heap.size ≤ b) (hl : l.length ≤ 4096) :
    Rep (W'.setCell ⟨L.bl z, 1, none⟩ v) t { L with sl := fun y => if y = z then v else L.sl y } (Tr.set T z { nd with kids := l }) n ∧ Grow t L { L with sl := fun y => if y = z then v else L.sl y } T (Tr.set T z { nd with kids := l }) W (W'.setCell ⟨L.bl z, 1, none⟩ v) := by
  have hO2 : Out (fun b => b = L.bl z) W' (W'.setCell ⟨L.bl z, 1, none⟩ v) := (Out.refl _ _).set (M := fun b => b = L.bl z) rfl 1 _
  have hnn : ∀ y, (Tr.set T z { nd with kids := l } y ≠ none ↔ T y ≠ none) := fun y => by
    by_cases e : y = z
    · subst e; simp [Tr.set_same, hz]
    · rw [Tr.set_other _ _ e]
  have hrow : ∀ y yd, y ≠ z → T y = some yd → ∀ g, (L.sl y).ownBlock = some g → ¬ (L.sl z).ownBlock = some g := fun y yd e hy g hg q => e (h.apart y z g (by simp [hy]) (by simp [hz]) hg q)
  have hvz : v.ownBlock ≠ some (L.bl z) := by
    rcases hloc with e | e | ⟨b, e, hb⟩
    · rw [e]; exact h.sl_bl hz hz
    · rw [e]; simp
    · rw [e]; intro q; injection q with q; have := (h.box z nd hz).lt; omega
  have hO3 : Out (owned t L T) W (W'.setCell ⟨L.bl z, 1, none⟩ v) := by
    refine Out.trans (hO1.mono fun b _ e => .inr (.inr ⟨z, nd, hz, .inr e⟩)) ?_
    exact hO2.mono fun b _ e => .inr (.inr ⟨z, nd, hz, .inl e⟩)
  refine ⟨⟨(h.at_.out (fun e => h.sl_t hz e) hO1).out (fun e => h.bl_t hz e.symm) hO2, ((h.map.out (fun e => h.sl_mb hz e) hO1).out (fun e => h.bl_mb hz e.symm) hO2).congr fun y _ => ?_, fun y yd hy => ?_, fun y yd hy => ?_, fun x y hx hy => h.inj x y ((hnn x).1 hx) ((hnn y).1 hy), fun x y g hx hy => ?_, fun y yd hy => ?_⟩, hO3, fun b hb => ?_⟩
  · by_cases e : y = z
    · subst e; rw [Tr.set_same, hz]; rfl
    · rw [Tr.set_other _ _ e]
  · by_cases e : y = z
    · subst e; rw [Tr.set_same] at hy; cases hy
      have := ((h.box y nd hz).out (fun e => h.sl_bl hz hz e) hO1).set 1 v
      rw [bcells_set_kids] at this
      simp only [if_true]
      exact this
    · rw [Tr.set_other _ _ e] at hy
      simp only [if_neg e]
      exact ((h.box y yd hy).out (fun e => h.sl_bl hz hy e) hO1).off (fun q => e (h.inj y z (by simp [hy]) (by simp [hz]) q)) _ _
  · by_cases e : y = z
    · subst e; rw [Tr.set_same] at hy; cases hy
      simp only [if_true]
      exact hv.out (M := fun b => b = L.bl y) (fun g hg (q : g = L.bl y) => hvz (by rw [hg, q])) hO2
    · rw [Tr.set_other _ _ e] at hy
      simp only [if_neg e]
      exact ((h.row y yd hy).out (hrow y yd e hy) hO1).out (h.sl_nbl hy hz) hO2
  · have new : ∀ y, T y ≠ none → y ≠ z → (L.sl y).ownBlock = some g → v.ownBlock = some g → False := fun y hy e h1 h2 => by
      obtain ⟨yd, hyd⟩ := Option.ne_none_iff_exists'.1 hy
      rcases hloc with q | q | ⟨b, q, hb⟩
      · exact hrow y yd e hyd g h1 (q ▸ h2)
      · rw [q] at h2; cases h2
      · rw [q] at h2; injection h2 with h2; have := (h.row y yd hyd).lt h1; omega
    by_cases e1 : x = z
    · by_cases e2 : y = z
      · intro _ _; rw [e1, e2]
      · intro h1 h2
        simp only [if_pos e1] at h1
        simp only [if_neg e2] at h2
        exact (new y ((hnn y).1 hy) e2 h2 h1).elim
    · by_cases e2 : y = z
      · intro h1 h2
        simp only [if_neg e1] at h1
        simp only [if_pos e2] at h2
        exact (new x ((hnn x).1 hx) e1 h1 h2).elim
      · intro h1 h2
        simp only [if_neg e1] at h1
        simp only [if_neg e2] at h2
        exact h.apart x y g ((hnn x).1 hx) ((hnn y).1 hy) h1 h2
  · by_cases e : y = z
    · subst e; rw [Tr.set_same] at hy; cases hy
      have := h.small y nd hz
      exact ⟨this.1, this.2.1, this.2.2.1, this.2.2.2.1, hl⟩
    · rw [Tr.set_other _ _ e] at hy; exact h.small y yd hy
  · rcases hb with e | e | ⟨y, yd, hy, e⟩
    · exact .inl (.inl e)
    · exact .inl (.inr (.inl e))
    · by_cases e2 : y = z
      · subst e2
        rcases e with e | e
        · exact .inl (.inr (.inr ⟨y, nd, hz, .inl e⟩))
        · simp only [if_true] at e
          rcases hloc with q | q | ⟨c, q, hc⟩
          · exact .inl (.inr (.inr ⟨y, nd, hz, .inr (q ▸ e)⟩))
          · rw [q] at e; cases e
          · rw [q] at e; injection e with e; subst e; exact .inr hc
      · rw [Tr.set_other _ _ e2] at hy
        simp only [if_neg e2] at e
        exact .inl (.inr (.inr ⟨y, yd, hy, e⟩))

/-- a box comes, in a new block -/
theorem Rep.add (h : Rep W t L T n) {z : Int} {b : Nat} {u : Int} {s : Re.St} (hz : T z = none) (hr : 0 ≤ z ∧ z < 4096) (hu : -1 ≤ u ∧ u < 4096) (hb : At W b (.cells (bcells u (.slice none 0 0) s) 69)) (hnew : ¬ owned t L T b) {W' : World} (hO : Out (fun x => x = L.mb) W W') (hm : PM W' L.mb (n + 1) (fset (fun z => (T z).map fun _ => L.bl z) z b)) :
    Rep W' t { L with bl := fun y => if y = z then b else L.bl y, sl := fun y => if y = z then .slice none 0 0 else L.sl y } (Tr.set T z ⟨u, [], s⟩) (n + 1) ∧ Out (owned t L T) W W' ∧ ∀ x, owned t { L with bl := fun y => if y = z then b else L.bl y, sl := fun y => if y = z then .slice none 0 0 else L.sl y } (Tr.set T z ⟨u, [], s⟩) x → owned t L T x ∨ x = b := by
  have hne : ∀ y yd, T y = some yd → y ≠ z := fun y yd hy e => by rw [e, hz] at hy; cases hy
  have hbm : b ≠ L.mb := fun e => hnew (.inr (.inl e))
  have old : ∀ y, y ≠ z → (Tr.set T z ⟨u, [], s⟩ y ≠ none → T y ≠ none) := fun y e => by rw [Tr.set_other _ _ e]; exact id
  refine ⟨⟨h.at_.out (fun e => h.t_mb e) hO, hm.congr fun y _ => ?_, fun y yd hy => ?_, fun y yd hy => ?_, fun x y hx hy => ?_, fun x y g hx hy => ?_, fun y yd hy => ?_⟩, hO.mono fun x _ e => .inr (.inl e), fun x hx => ?_⟩
  · unfold fset
    by_cases e : y = z
    · subst e; simp [Tr.set_same]
    · simp [e, Tr.set_other _ _ e]
  · by_cases e : y = z
    · subst e; rw [Tr.set_same] at hy; cases hy
      simp only [if_true]
      exact hb.out hbm hO
    · rw [Tr.set_other _ _ e] at hy
      simp only [if_neg e]
      exact (h.box y yd hy).out (fun q => h.bl_mb hy q) hO
  · by_cases e : y = z
    · subst e; rw [Tr.set_same] at hy; cases hy
      simp only [if_true]
      exact KS.nil _
    · rw [Tr.set_other _ _ e] at hy
      simp only [if_neg e]
      exact (h.row y yd hy).out (h.sl_nmb hy) hO
  · have new : ∀ y, T y ≠ none → L.bl y ≠ b := fun y hy q => by
      obtain ⟨yd, hyd⟩ := Option.ne_none_iff_exists'.1 hy
      exact hnew (.inr (.inr ⟨y, yd, hyd, .inl q.symm⟩))
    by_cases e1 : x = z
    · by_cases e2 : y = z
      · intro _; rw [e1, e2]
      · intro q; simp only [if_pos e1, if_neg e2] at q; exact (new y (old y e2 hy) q.symm).elim
    · by_cases e2 : y = z
      · intro q; simp only [if_neg e1, if_pos e2] at q; exact (new x (old x e1 hx) q).elim
      · intro q; simp only [if_neg e1, if_neg e2] at q; exact h.inj x y (old x e1 hx) (old y e2 hy) q
  · by_cases e1 : x = z
    · intro q; simp only [if_pos e1] at q; cases q
    · by_cases e2 : y = z
      · intro _ q; simp only [if_pos e2] at q; cases q
      · intro q r; simp only [if_neg e1] at q; simp only [if_neg e2] at r
        exact h.apart x y g (old x e1 hx) (old y e2 hy) q r
  · by_cases e : y = z
    · subst e; rw [Tr.set_same] at hy; cases hy
      exact ⟨hr.1, hr.2, hu.1, hu.2, by simp⟩
    · rw [Tr.set_other _ _ e] at hy; exact h.small y yd hy
  · rcases hx with e | e | ⟨y, yd, hy, e⟩
    · exact .inl (.inl e)
    · exact .inl (.inr (.inl e))
    · by_cases e2 : y = z
      · simp only [if_pos e2] at e
        rcases e with e | e
        · exact .inr e
        · cases e
      · rw [Tr.set_other _ _ e2] at hy
        simp only [if_neg e2] at e
        exact .inl (.inr (.inr ⟨y, yd, hy, e⟩))

/-- a box goes -/
theorem Rep.drop (h : Rep W t L T n) {z : Int} {W' : World} (hO : Out (fun x => x = L.mb) W W') (hm : PM W' L.mb (n - 1) (fdel (fun z => (T z).map fun _ => L.bl z) z)) :
    Rep W' t L (Tr.del T [z]) (n - 1) ∧ Grow t L L T (Tr.del T [z]) W W' := by
  have sub : ∀ y yd, Tr.del T [z] y = some yd → T y = some yd ∧ y ≠ z := fun y yd hy => by
    unfold Tr.del at hy
    by_cases e : y = z
    · simp [e] at hy
    · simp [e] at hy; exact ⟨hy, e⟩
  have nn : ∀ y, Tr.del T [z] y ≠ none → T y ≠ none := fun y hy => by
    obtain ⟨yd, hyd⟩ := Option.ne_none_iff_exists'.1 hy
    rw [(sub y yd hyd).1]; simp
  refine ⟨⟨h.at_.out (fun e => h.t_mb e) hO, hm.congr fun y _ => ?_, fun y yd hy => (h.box y yd (sub y yd hy).1).out (fun q => h.bl_mb (sub y yd hy).1 q) hO, fun y yd hy => (h.row y yd (sub y yd hy).1).out (h.sl_nmb (sub y yd hy).1) hO, fun x y hx hy => h.inj x y (nn x hx) (nn y hy), fun x y g hx hy => h.apart x y g (nn x hx) (nn y hy), fun y yd hy => h.small y yd (sub y yd hy).1⟩, hO.mono fun x _ e => .inr (.inl e), fun x hx => .inl ?_⟩
  · unfold fdel Tr.del
    by_cases e : y = z
    · simp [e]
    · simp [e]
  · rcases hx with e | e | ⟨y, yd, hy, e⟩
    · exact .inl e
    · exact .inr (.inl e)
    · exact .inr (.inr ⟨y, yd, (sub y yd hy).1, e⟩)
end

end Go.Proofs.Ytbkocceemfhhbaa.Fix

/-! The contracts of the calls that only read a tree. -/
namespace Go.Proofs.Ytbkocceemfhhbaa.Fix
open Go.ChangeShapes Go.WideShapes Go.ChangeAt Go.RowKit
set_option linter.unusedVariables false
set_option linter.unusedSimpArgs false
set_option maxRecDepth 100000

section
variable {w : World} {t n : Nat} {L : Lay} {T : Tr.T}

theorem tall_any {w : World} {t n : Nat} {L : Lay} {T : Tr.T} (h : Rep w t L T n) : Calls Try.prog 38 #[.pointer (some ⟨t, 0, none⟩)] w fun e w' => e = .returned (.map (some L.mb)) ∧ w = w' := by
  have c0 := h.cT
  clear h
  generalize L.mb = mb at *
  go_enter Try.func38, Try.ntmps38
  go_wp2
  go_ret
  exact ⟨rfl, rfl⟩

theorem thas_any (h : Rep w t L T n) {z : Int} (hz : Wf z) : Calls Try.prog 14 #[.pointer (some ⟨t, 0, none⟩), .int .i64 z] w fun e w' => e = .returned (.bool (T z).isSome) ∧ w = w' := by
  have HR := Lib.hid h
  cases hT : T z with
  | none =>
    have hl := h.look_none hz hT
    clear h
    go_enter Try.func14, Try.ntmps14
    go_wp2_with (first | (go_at_call 38; (with_reducible refine (tall_any (by first | assumption | exact HR.out)).mono ?_); rintro e w' ⟨rfl, rfl⟩))
    go_ret
    exact ⟨rfl, rfl⟩
  | some nd =>
    have hl := h.look_some hT
    clear h
    go_enter Try.func14, Try.ntmps14
    go_wp2_with (first | (go_at_call 38; (with_reducible refine (tall_any (by first | assumption | exact HR.out)).mono ?_); rintro e w' ⟨rfl, rfl⟩))
    go_ret
    exact ⟨rfl, rfl⟩

/-- which box it is in -/
def upOf (T : Tr.T) (z : Int) : Int := match T z with
  | none => -1
  | some nd => nd.up

theorem tup_any (h : Rep w t L T n) {z : Int} (hz : Wf z) : Calls Try.prog 16 #[.pointer (some ⟨t, 0, none⟩), .int .i64 z] w fun e w' => e = .returned (.int .i64 (upOf T z)) ∧ w = w' := by
  have key := thas_any h hz
  unfold upOf
  cases hT : T z with
  | none =>
    rw [hT] at key
    clear h
    go_enter Try.func16, Try.ntmps16
    go_wp2_with (go_at_call 14; (with_reducible refine key.mono ?_); rintro e w' ⟨rfl, rfl⟩)
    go_ret
    exact ⟨rfl, rfl⟩
  | some nd =>
    rw [hT] at key
    have hl := h.look_some hT
    have c0 := h.cT
    have c1 := h.cUp hT
    clear h
    go_enter Try.func16, Try.ntmps16
    go_wp2_with (go_at_call 14; (with_reducible refine key.mono ?_); rintro e w' ⟨rfl, rfl⟩)
    go_ret
    exact ⟨rfl, rfl⟩

theorem tlen_any (h : Rep w t L T n) : Calls Try.prog 27 #[.pointer (some ⟨t, 0, none⟩)] w fun e w' => e = .returned (.int .i64 (n : Int)) ∧ w = w' := by
  have HR := Lib.hid h
  have hl := fun ty => h.map.len ty
  clear h
  go_enter Try.func27, Try.ntmps27
  go_wp2_with (first | (go_at_call 38; (with_reducible refine (tall_any (by first | assumption | exact HR.out)).mono ?_); rintro e w' ⟨rfl, rfl⟩))
  go_ret
  exact ⟨rfl, rfl⟩

theorem tkids_any (h : Rep w t L T n) {z : Int} (hz : Wf z) : Calls Try.prog 23 #[.pointer (some ⟨t, 0, none⟩), .int .i64 z] w fun e w' => (∃ v, e = .returned v ∧ w'.ownsRow w.heap.size 3 1 v ((T z).elim [] (·.kids)).length (((T z).elim [] (·.kids)).map (Value.int .i64))) ∧ Below w.heap.size w w' := by
  have key := thas_any h hz
  cases hT : T z with
  | none =>
    rw [hT] at key
    clear h
    go_enter Try.func23, Try.ntmps23
    go_wp2_with (go_at_call 14; (with_reducible refine key.mono ?_); rintro e w' ⟨rfl, rfl⟩)
    go_ret
    exact ⟨⟨_, rfl, World.ownsRow_nil _ _ _ _⟩, Below.refl _ _⟩
  | some nd =>
    rw [hT] at key
    have hl := h.look_some hT
    have c0 := h.cT
    have c1 := h.cKids hT
    have key2 := clone_any (h.row z nd hT) (by have := (h.small z nd hT).2.2.2.2; omega)
    obtain ⟨A, c, hs, _⟩ := (h.row z nd hT).ints
    rw [hs] at key2 c1
    show Calls _ _ _ _ fun e w' => (∃ v, e = .returned v ∧ w'.ownsRow w.heap.size 3 1 v nd.kids.length (nd.kids.map (Value.int .i64))) ∧ Below w.heap.size w w'
    clear h
    generalize nd.kids = l at *
    generalize l.length = m at *
    clear hs
    go_enter Try.func23, Try.ntmps23
    go_wp2_with (first | (go_at_call 14; (with_reducible refine key.mono ?_); rintro e w' ⟨rfl, rfl⟩) | (go_at_call 39; (with_reducible refine key2.mono ?_); rintro e w' ⟨⟨v, rfl, ho⟩, hb⟩))
    go_ret
    exact ⟨⟨_, rfl, ho⟩, hb⟩

theorem results_sty1 {fn : Func} {p : Tmp} (h : fn.results = #[.cell p 43]) (tmps : Array Value) {W : World} {b : Nat} {s : Re.St} (hp : tmps.getD p undef = .pointer (some ⟨b, 0, none⟩)) (ha : At W b (.cells (cells s) 43)) :
    (results fn tmps).run Try.prog W = .ok (.agg (cells s)) W := by
  have hp' : tmps[p]?.getD undef = .pointer (some ⟨b, 0, none⟩) := by simpa using hp
  simp [results, h, hp', asAddr, loadVar_style ha]

theorem tstyle_any (h : Rep w t L T n) {z : Int} (hz : Wf z) : Calls Try.prog 20 #[.pointer (some ⟨t, 0, none⟩), .int .i64 z] w fun e w' => e = .returned (.agg (cells ((T z).elim Re.zero (·.sty)))) ∧ Below w.heap.size w w' := by
  have h1 := h.alloc (.cells (cells Re.zero) 43)
  have key := thas_any h1 hz
  have hA : At (w.alloc (.cells (cells Re.zero) 43)) w.heap.size (.cells (cells Re.zero) 43) := At.new _ _
  have hB : Below w.heap.size w (w.alloc (.cells (cells Re.zero) 43)) := Below.alloc' (Below.refl _ _) _
  cases hT : T z with
  | none =>
    rw [hT] at key
    clear h h1
    generalize hW : w.alloc (.cells (cells Re.zero) 43) = w1 at *
    go_enter Try.func20, Try.ntmps20
    go_wp2_with (first | (refine wpList_alloc_style (by rfl) rfl ?_; rw [hW]; clear hW) | (refine wpList_alloc_style (by rfl) rfl ?_) | (refine wpList_build_zero (by rfl) rfl ?_) | (refine wpList_load_style (by rfl) _ rfl rfl (by first | assumption | (with_reducible exact At.new _ _)) ?_) | (refine wpList_store_same (by rfl) _ _ rfl rfl rfl (by first | assumption | (with_reducible exact At.new _ _)) ?_) | (refine wpList_store_style (by rfl) _ _ rfl rfl rfl (by first | assumption | (with_reducible exact At.new _ _)) ?_) | (go_at_call 14; (with_reducible refine key.mono ?_); rintro e w' ⟨rfl, rfl⟩))
    refine bodyPost_ret (results_sty1 rfl _ (by rfl) hA) rfl ⟨rfl, hB⟩
  | some nd =>
    rw [hT] at key
    have hl := h1.look_some hT
    have c0 := h1.cT
    have hS := Lib.hid (h1.sty hT)
    show Calls _ _ _ _ fun e w' => e = .returned (.agg (cells nd.sty)) ∧ _
    clear h h1
    generalize nd.sty = s at *
    generalize hW : w.alloc (.cells (cells Re.zero) 43) = w1 at *
    generalize hb : w.heap.size = b at *
    go_enter Try.func20, Try.ntmps20
    go_wp2_with (first | (refine wpList_alloc_style (by rfl) rfl ?_; rw [hW, hb]; clear hW) | (refine wpList_load_sty (by rfl) _ rfl rfl hS.out ?_) | (refine wpList_store_style (by rfl) _ _ rfl rfl rfl hA ?_) | (go_at_call 14; (with_reducible refine key.mono ?_); rintro e w' ⟨rfl, rfl⟩))
    refine bodyPost_ret (results_sty1 rfl _ (by rfl) (hA.setRow _)) rfl ⟨rfl, below_setRow hB (Nat.le_refl _) _⟩
end

section
variable {w : World} {t n : Nat} {L : Lay} {T : Tr.T}

/-- the least number that no box has -/
def IsFree (T : Tr.T) (z : Int) : Prop := 0 ≤ z ∧ T z = none ∧ ∀ y, 0 ≤ y → y < z → T y ≠ none

theorem tfree_any (h : Rep w t L T n) : Calls Try.prog 47 #[.pointer (some ⟨t, 0, none⟩)] w fun e w' => (∃ z, e = .returned (.int .i64 z) ∧ IsFree T z) ∧ w' = w := by
  have hs : ∀ z, T z ≠ none → z < 4096 := fun z hz => by obtain ⟨nd, hn⟩ := Option.ne_none_iff_exists'.1 hz; exact (h.small z nd hn).2.1
  have HR := Lib.hid h
  clear h
  go_enter Try.func47, Try.ntmps47
  go_wp2
  go_loop [3] (fun p => ∃ k : Nat, k ≤ 4096 ∧ p = .int .i64 k ∧ ∀ y : Int, 0 ≤ y → y < k → T y ≠ none) (fun p => 4096 - (intOf p).toNat)
  case atStart => exact ⟨0, by omega, rfl, fun y h0 h1 => by omega⟩
  case round =>
    obtain ⟨k, hk, rfl, hb⟩ := hrel
    have key := thas_any HR.out (z := (k : Int)) (by rw [wf_iff]; omega)
    have HB := Lib.hid hb
    clear hb
    cases hT : T (k : Int) with
    | none =>
      rw [hT] at key
      go_wp2_with (go_at_call 14; (with_reducible refine key.mono ?_); rintro e w' ⟨rfl, rfl⟩)
      go_ret
      exact ⟨⟨_, rfl, by omega, hT, HB.out⟩, rfl⟩
    | some nd =>
      rw [hT] at key
      have hk4 := hs k (by simp [hT])
      go_wp2_with (go_at_call 14; (with_reducible refine key.mono ?_); rintro e w' ⟨rfl, rfl⟩)
      go_round
      case rel => exact ⟨k + 1, by omega, by go_num, fun y h0 h1 => by
        by_cases e : y = k
        · subst e; simp [hT]
        · exact HB.out y h0 (by omega)⟩
      case measure => simp [intOf]; omega

/-- how many kids a box has, without one of them -/
theorem tothers_any (h : Rep w t L T n) {u x : Int} {p : Tr.Nd} (hu : T u = some p) (hx : Wf x) : Calls Try.prog 44 #[.pointer (some ⟨t, 0, none⟩), .int .i64 u, .int .i64 x] w fun e w' => e = .returned (.int .i64 (if upOf T x = u then (p.kids.length : Int) - 1 else p.kids.length)) ∧ w = w' := by
  have key := tup_any h hx
  have hl := h.look_some hu
  have c0 := h.cT
  have c1 := h.cKids hu
  have hs := (h.small u p hu).2.2.2.2
  obtain ⟨A, c, hv, _⟩ := (h.row u p hu).ints
  rw [hv] at c1
  clear h hv
  generalize p.kids.length = m at *
  generalize upOf T x = y at *
  have hw : IntKind.i64.wrap ((m : Int) - 1) = (m : Int) - 1 := by rw [IntWalk.i64_in _ (by omega)]
  by_cases e : y = u
  · rw [if_pos e]
    have eb : (y == u) = true := by simpa using e
    have HE := Lib.hid e
    clear e
    subst_eqs
    go_enter Try.func44, Try.ntmps44
    go_wp2_with (go_at_call 16; (with_reducible refine key.mono ?_); rintro e w' ⟨rfl, rfl⟩)
    go_ret
    exact ⟨rfl, rfl⟩
  · rw [if_neg e]
    have eb : (y == u) = false := by simpa using e
    go_enter Try.func44, Try.ntmps44
    go_wp2_with (go_at_call 16; (with_reducible refine key.mono ?_); rintro e w' ⟨rfl, rfl⟩)
    go_ret
    exact ⟨rfl, rfl⟩
end

end Go.Proofs.Ytbkocceemfhhbaa.Fix

/-! The contracts of Depth and height of a tree. -/
namespace Go.Proofs.Ytbkocceemfhhbaa.Fix
open Go.ChangeShapes Go.WideShapes Go.ChangeAt Go.RowKit
set_option linter.unusedVariables false
set_option linter.unusedSimpArgs false
set_option maxRecDepth 100000

section
variable {w : World} {t n : Nat} {L : Lay} {T : Tr.T}

theorem tdepth_none (h : Rep w t L T n) {z : Int} (hz : Wf z) (hn : T z = none) : Calls Try.prog 18 #[.pointer (some ⟨t, 0, none⟩), .int .i64 z] w fun e w' => e = .returned (.int .i64 (-1)) ∧ w' = w := by
  have key := thas_any h hz
  rw [hn] at key
  clear h
  go_enter Try.func18, Try.ntmps18
  go_wp2
  refine wp_loop_rounds 1 ?_
  rw [rounds_succ]
  go_wp2_with (go_at_call 14; (with_reducible refine key.mono ?_); rintro e w' ⟨rfl, rfl⟩)
  go_ret
  exact ⟨rfl, rfl⟩

theorem tdepth_some (h : Rep w t L T n) (hr : ∀ nd, T 0 = some nd → nd.up = -1) {z : Int} {d : Nat} (hd : Tr.Dp T z d) (hd63 : d ≤ 1000) : Calls Try.prog 18 #[.pointer (some ⟨t, 0, none⟩), .int .i64 z] w fun e w' => e = .returned (.int .i64 (d : Int)) ∧ w' = w := by
  have hm : T (-1) = none := by
    cases e : T (-1) with
    | none => rfl
    | some nd => have := (h.small _ nd e).1; omega
  have HR := Lib.hid h
  have HROOT := Lib.hid hr
  have HD := Lib.hid hd
  clear h hr hd
  go_enter Try.func18, Try.ntmps18
  go_wp2
  go_loop [1, 5] (fun i p => (∃ (y : Int) (m : Nat) (k : Int), i = .int .i64 y ∧ p = .int .i64 k ∧ m ≤ d ∧ k = (d : Int) - m - 1 ∧ Tr.Dp T y m) ∨ (i = .int .i64 (-1) ∧ p = .int .i64 (d : Int))) (fun _ p => (d - intOf p).toNat)
  case atStart => exact .inl ⟨z, d, -1, rfl, rfl, Nat.le_refl _, by omega, HD.out⟩
  case round =>
    rcases hrel with ⟨y, m, k, rfl, rfl, hmd, hk, hD⟩ | ⟨rfl, rfl⟩
    · obtain ⟨nd, hT⟩ := hD.live
      have key := thas_any HR.out (HR.out.wf hT)
      have key2 := tup_any HR.out (HR.out.wf hT)
      rw [hT] at key
      have hu : Hid (upOf T y = nd.up) := Lib.hid (by unfold upOf; rw [hT])
      generalize upOf T y = u at *
      have hw : IntKind.i64.wrap (k + 1) = k + 1 := by rw [IntWalk.i64_in _ (by omega)]
      have HK := Lib.hid hk
      have HDD := Lib.hid hD
      clear hk hD
      go_wp2_with (first | (go_at_call 14; (with_reducible refine key.mono ?_); rintro e w' ⟨rfl, rfl⟩) | (go_at_call 16; (with_reducible refine key2.mono ?_); rintro e w' ⟨rfl, rfl⟩))
      go_round
      case rel =>
        have hk := HK.out
        rw [hu.out]
        cases HDD.out with
        | root h0 => rw [HROOT.out nd hT]; exact .inr ⟨rfl, by rw [hk]; congr 1; omega⟩
        | step h1 h0 h2 =>
          rw [hT] at h1; cases h1
          exact .inl ⟨nd.up, _, k + 1, rfl, rfl, by omega, by omega, h2⟩
      case measure => have hk := HK.out; simp [intOf]; omega
    · have key := thas_any HR.out (z := -1) (by rw [wf_iff]; omega)
      rw [hm] at key
      go_wp2_with (go_at_call 14; (with_reducible refine key.mono ?_); rintro e w' ⟨rfl, rfl⟩)
      go_ret
      exact ⟨rfl, rfl⟩

theorem hgt_lt {T : Tr.T} {f : Nat} {x : Int} (h : Tr.Fit T f x) : Tr.hgt T f x < f := by
  induction f generalizing x with
  | zero => exact h.elim
  | succ f ih =>
    obtain ⟨nd, h1, hk⟩ := h
    rw [Tr.hgt_some h1]
    have := (Tr.foldl_max_le (f := Tr.hgt T f) (ks := nd.kids) (m := 0) (B := f)).2 ⟨Nat.zero_le _, fun k hkm => by have := ih (hk k hkm); omega⟩
    omega

/-- the first j kids -/
def hpart (T : Tr.T) (f : Nat) (l : List Int) (j : Nat) : Nat := (l.take j).foldl (fun m k => max m (1 + Tr.hgt T f k)) 0

theorem theight_any (f : Nat) : ∀ {w : World} {t n : Nat} {L : Lay} {T : Tr.T} (x : Int), f ≤ 100 → Rep w t L T n → Tr.Fit T f x → Calls Try.prog 45 #[.pointer (some ⟨t, 0, none⟩), .int .i64 x] w fun e w' => e = .returned (.int .i64 (Tr.hgt T f x : Int)) ∧ w' = w := by
  induction f with
  | zero => intro _ _ _ _ _ _ _ _ h; exact h.elim
  | succ f ih =>
    intro w t n L T x hf h hfit
    obtain ⟨nd, hT, hk⟩ := hfit
    have hl := h.look_some hT
    have c0 := h.cT
    have c1 := h.cKids hT
    obtain ⟨A, c, hs, hI, _⟩ := (h.row x nd hT).ints
    rw [hs] at c1
    rw [Tr.hgt_some hT]
    have hp : Hid (nd.kids.foldl (fun m k => max m (1 + Tr.hgt T f k)) 0 = hpart T f nd.kids nd.kids.length) := Lib.hid (by unfold hpart; rw [List.take_length])
    rw [hp.out]
    have hlen := (h.small x nd hT).2.2.2.2
    generalize hls : nd.kids = l at *
    generalize hm : l.length = m at *
    have HM := Lib.hid hm
    have HR := Lib.hid h
    have HI := Lib.hid hI
    have HK := Lib.hid hk
    clear h hI hk hm hs hls hp
    go_enter Try.func45, Try.ntmps45
    go_wp2
    go_loop [5, 18] (fun p i => ∃ k q : Nat, k ≤ m ∧ i = .int .i64 k ∧ p = .int .i64 q ∧ q = hpart T f l k) (fun _ i => m - (intOf i).toNat)
    case atStart => exact ⟨0, 0, by omega, rfl, rfl, rfl⟩
    case round =>
      obtain ⟨k, q, hkm, rfl, rfl, hq⟩ := hrel
      have HQ := Lib.hid hq
      clear hq
      by_cases hlt : k < m
      · obtain ⟨b, o, rfl, lb, hcell⟩ := HI.out.at_ (k := k) (by rw [HM.out]; exact hlt)
        have hmem : l.getD k 0 ∈ l := by
          rw [List.getD, List.getElem?_eq_getElem (by rw [HM.out]; exact hlt)]; exact List.getElem_mem _
        have hfk := HK.out _ hmem
        have key := ih _ (by omega) HR.out hfk
        have hh := hgt_lt hfk
        have hstep : Hid (hpart T f l (k + 1) = max (hpart T f l k) (1 + Tr.hgt T f (l.getD k 0))) := Lib.hid (by
          unfold hpart
          rw [take_snoc_int l k (by rw [HM.out]; exact hlt), List.foldl_append]; rfl)
        generalize l.getD k 0 = z at *
        generalize Tr.hgt T f z = hz at *
        have hw : IntKind.i64.wrap (1 + (hz : Int)) = 1 + (hz : Int) := by rw [IntWalk.i64_in _ (by omega)]
        clear hfk hmem
        go_wp2_with (go_at_call 45; (with_reducible refine key.mono ?_); rintro e w' ⟨rfl, rfl⟩)
        go_round
        case rel => exact ⟨k + 1, max q (1 + hz), by omega, by go_num, by congr 1; omega, by rw [hstep.out, HQ.out]⟩
        case measure => simp [intOf]; omega
      · obtain rfl : k = m := by omega
        go_wp2
        go_ret
        exact ⟨by rw [HQ.out]; rfl, rfl⟩
end

end Go.Proofs.Ytbkocceemfhhbaa.Fix
