/- Rows of numbers that are a box's kids, in blocks of their own: what the calls of slices do to them. -/
import Derived.Test.YtmjnlnnedjmcfaaRecOps
import Derived.Test.YtmjnlnnedjmcfaaDrawnGen
import Derived.Test.YtmjnlnnedjmcfaaCut
import Derived.Test.YtmjnlnnedjmcfaaTrOps
import Derived.Lib.SliceRun
import Derived.Laws.IdiomCopy
import Derived.Laws.CopyOwn
import Derived.Lib.Overlaps
import Derived.Lib.AppendZerosOnto
import Derived.Laws.Externs
import Derived.Deep.Cut
namespace Go.Proofs.Ytmjnlnnedjmcfaa.Fix
open Go.ChangeShapes Go.WideShapes Go.ChangeAt Go.RowKit
set_option linter.unusedVariables false
set_option maxRecDepth 100000
set_option linter.unusedSimpArgs false

/-- v is a row of the numbers l, in a block of its own -/
def KS (W : World) (v : Value) (l : List Int) : Prop := W.ownsRow 0 3 1 v l.length (l.map (Value.int .i64))

/-- block g is a row of c places that begins with the numbers l -/
def Rw (W : World) (g c : Nat) (l : List Int) : Prop := ∃ cur : Array Value, At W g (.cells cur 3) ∧ cur.size = c ∧ l.length ≤ c ∧ c ≤ maxLen ∧ cur.toList.take l.length = l.map (Value.int .i64)

theorem KS.nil (W : World) : KS W (.slice none 0 0) [] := World.ownsRow_nil _ _ _ _
theorem KS.cases {W : World} {v : Value} {l : List Int} (h : KS W v l) : (v = .slice none 0 0 ∧ l = []) ∨ ∃ g c, v = .slice (some ⟨g, 0, none⟩) l.length c ∧ Rw W g c l := by
  rcases h.2 with ⟨rfl, h0⟩ | ⟨g, cap, cur, rfl, _, hg, h1, h2, h3, h4⟩
  · exact .inl ⟨rfl, List.eq_nil_of_length_eq_zero h0⟩
  · exact .inr ⟨g, cap, rfl, cur, hg, by simpa using h3, h1, h2, by simpa using h4⟩
theorem Rw.ks {W : World} {g c : Nat} {l : List Int} (h : Rw W g c l) : KS W (.slice (some ⟨g, 0, none⟩) l.length c) l := by
  obtain ⟨cur, h1, h2, h3, h4, h5⟩ := h
  exact ⟨by simp, .inr ⟨g, c, cur, rfl, Nat.zero_le _, h1, h3, h4, by simpa using h2, by simpa using h5⟩⟩
theorem Rw.lt {W : World} {g c : Nat} {l : List Int} (h : Rw W g c l) : g < W.heap.size := by obtain ⟨cur, h1, _⟩ := h; exact h1.lt
theorem Rw.out {M : Nat → Prop} {W W' : World} {g c : Nat} {l : List Int} (h : Rw W g c l) (hm : ¬ M g) (k : Out M W W') : Rw W' g c l := by
  obtain ⟨cur, h1, r⟩ := h
  exact ⟨cur, h1.out hm k, r⟩
theorem KS.lt {W : World} {v : Value} {l : List Int} (h : KS W v l) {g : Nat} (hg : v.ownBlock = some g) : g < W.heap.size := (World.ownsRow.lt h g hg).2
theorem KS.out {M : Nat → Prop} {W W' : World} {v : Value} {l : List Int} (h : KS W v l) (hm : ∀ g, v.ownBlock = some g → ¬ M g) (k : Out M W W') : KS W' v l := by
  rcases h.cases with ⟨rfl, rfl⟩ | ⟨g, c, rfl, hr⟩
  · exact KS.nil _
  · exact (hr.out (hm g rfl) k).ks
theorem KS.after {W W' : World} {v : Value} {l : List Int} (h : KS W v l) (hb : Below W.heap.size W W') : KS W' v l := h.out (M := fun _ => False) (fun _ _ q => q) (Out.of_below hb)
theorem Rw.ints {W : World} {g c : Nat} {l : List Int} (h : Rw W g c l) : Ints W (some ⟨g, 0, none⟩) l := by
  obtain ⟨cur, h1, h2, h3, h4, h5⟩ := h
  refine ⟨by omega, fun h0 => ⟨g, 0, rfl, fun k hk => ?_⟩⟩
  rw [h1.cell, Nat.zero_add]
  have : (cur.toList.take l.length)[k]? = (l.map (Value.int .i64))[k]? := by rw [h5]
  rw [List.getElem?_take, if_pos hk] at this
  simpa [List.getElem?_eq_getElem hk] using this
theorem KS.ints {W : World} {v : Value} {l : List Int} (h : KS W v l) : ∃ A c, v = .slice A l.length c ∧ Ints W A l ∧ l.length ≤ c ∧ c ≤ maxLen ∧ (A = none → c = 0) := by
  rcases h.cases with ⟨rfl, rfl⟩ | ⟨g, c, rfl, hr⟩
  · exact ⟨none, 0, rfl, ⟨by simp, fun h => absurd h (by simp)⟩, by simp, by simp [maxLen], fun _ => rfl⟩
  · have hr' := hr
    obtain ⟨cur, h1, h2, h3, h4, h5⟩ := hr
    exact ⟨_, c, rfl, hr'.ints, h3, h4, fun h => by cases h⟩

theorem setCells_row {W : World} {g : Nat} {cur : Array Value} {T : TypeId} (h : At W g (.cells cur T)) (o : Nat) (vs : List Value) (hfit : o + vs.length ≤ cur.size) (h1 : ∀ v ∈ vs, v.oneCell' = true) : W.setCells g o vs = W.setRow g (cur.toList.take o ++ vs ++ cur.toList.drop (o + vs.length)).toArray := by
  have a := run_storeCells_at Try.prog g o T vs 0 cur W h (by simpa using hfit) h1
  have b := run_storeCells_cells (P := Try.prog) g o vs 0 W (fun j hj => by rw [h.cell, Array.getElem?_eq_getElem (by omega)]; rfl) (fun j hj => by rw [h.thaw]) h1
  simp only [Nat.add_zero] at a b
  rw [a] at b
  injection b with _ b
  exact b.symm

theorem drew_setRow (W : World) (g : Nat) (cs : Array Value) : (W.setRow g cs).drew = W.drew.setRow g cs := rfl

/-- an append in a region that draws, its run known -/
theorem exec_append {P : Program} {w w' : World} {o : Oper} {a : Act} (s x : Operand) (t tn : TypeId) (ho : o.op = .call { callee := .builtin .append, args := #[s, x], argTypes := #[t, tn] }) {v u v' : Value} (hs : a.eval s = v) (hx : a.eval x = u)
    (hrun : (Builtin.append_ #[t, tn] o.type #[v, u]).run P w = .ok v' w') : (execOp a.eval o).run P w = .ok (.value v') w' := by
  unfold execOp
  simp only [ho, resolve, invoke, builtin, Sem.run_bind, Sem.run_pure, Result.andThen_ok, List.map_toArray, List.map_cons, List.map_nil, hs, hx, hrun]
theorem exec_copy {P : Program} {w w' : World} {o : Oper} {a : Act} (s x : Operand) (t tn : TypeId) (ho : o.op = .call { callee := .builtin .copy, args := #[s, x], argTypes := #[t, tn] }) {v u v' : Value} (hs : a.eval s = v) (hx : a.eval x = u)
    (hrun : (Builtin.copy_ #[t, tn] o.type #[v, u]).run P w = .ok v' w') : (execOp a.eval o).run P w = .ok (.value v') w' := by
  unfold execOp
  simp only [ho, resolve, invoke, builtin, Sem.run_bind, Sem.run_pure, Result.andThen_ok, List.map_toArray, List.map_cons, List.map_nil, hs, hx, hrun]
theorem wpList_run {P : Program} {w w' : World} {ops : Array Oper} {rest : List Oper} {o : Oper} {a : Act} {Q : Exit → Act → World → Prop} (hw : Region.wanted o (yielded ops a.tmps) = true) {v' : Value}
    (hrun : (execOp a.eval o).run P w = .ok (.value v') w') (h : wpList P ops Q rest (a.put o.dst v') w') : wpList P ops Q (o :: rest) a w := by
  unfold wpList
  rw [if_pos hw]
  refine .inl ?_
  unfold Oper.wp
  rw [hrun]
  exact h

/-- slices.Clone -/
theorem clone_any {v : Value} {l : List Int} {w : World} (h : KS w v l) (hl : l.length ≤ 10000) : Calls Try.prog 39 #[v] w fun e w' => (∃ v', e = .returned v' ∧ w'.ownsRow w.heap.size 3 1 v' l.length (l.map (Value.int .i64))) ∧ Below w.heap.size w w' := by
  have q22 : ∀ (w : World) (a : Option Addr) (n c n' c' : Nat), (binOp .eql 50 (.slice a n c) (.slice none n' c')).run Try.prog w = .ok (.bool a.isNone) w := fun w a n c n' c' => Lib.run_eql_slice_nil w _ _ a n c n' c' Try.underlying50
  rcases h.cases with ⟨rfl, rfl⟩ | ⟨g, c, rfl, hr⟩
  · go_enter Try.func39, Try.ntmps39
    go_wp2
    go_ret
    exact ⟨⟨_, rfl, World.ownsRow_nil _ _ _ _⟩, Below.refl _ _⟩
  · have hown : (w.alloc (.cells #[] 3)).ownsRow w.heap.size 3 1 (.slice (some ⟨w.heap.size, 0, none⟩) 0 0) 0 (([] : List Int).map (Value.int .i64)) := World.ownsRow_made w #[] 0 (Nat.le_refl _) (by simp [maxLen]) rfl
    obtain ⟨v', w', hrun, hown', hB, _⟩ := append_ints (m := l.length) (c := c) hown (Below.alloc' (Below.refl w.heap.size w) _) (by simp) (hr.ints.after (Below.alloc' (Below.refl _ _) _)) rfl (fun h => by cases h) (by omega)
    have HRUN := Lib.hid hrun
    clear hrun hown
    go_enter Try.func39, Try.ntmps39
    go_wp2_with (at_builtin; refine wpList_append_run (by rfl) _ _ 50 rfl rfl rfl HRUN.out ?_)
    go_ret
    exact ⟨⟨_, rfl, by simpa using hown'⟩, hB⟩

/-- slices.Index -/
theorem index_any {v : Value} {l : List Int} {w : World} (h : KS w v l) {i : Nat} {x : Int} (hi : l[i]? = some x) (hf : ∀ j, j < i → l[j]? ≠ some x) : Calls Try.prog 55 #[v, .int .i64 x] w fun e w' => e = .returned (.int .i64 (i : Int)) ∧ w' = w := by
  obtain ⟨A, c, rfl, hI, hc, hm, _⟩ := h.ints
  have hlt := (List.getElem?_eq_some_iff.1 hi).1
  clear h
  unfold maxLen at hm
  generalize hn : l.length = n at *
  have HN := Lib.hid hn; clear hn
  have HA := Lib.hid hI; clear hI
  have HF := Lib.hid hf; clear hf
  have HE := Lib.hid hi; clear hi
  go_enter Try.func55, Try.ntmps55
  go_wp2
  go_loop [8] (fun p => ∃ k : Nat, k ≤ i ∧ p = .int .i64 k) (fun p => n - (intOf p).toNat)
  case atStart => exact ⟨0, by omega, rfl⟩
  case round =>
    obtain ⟨k, hk, rfl⟩ := hrel
    obtain ⟨b, o, rfl, lb, hcell⟩ := HA.out.at_ (k := k) (by rw [HN.out]; omega)
    have hkn : k < n := by omega
    by_cases hki : k = i
    · have hz : l.getD k 0 = x := by rw [hki]; simp [List.getD, HE.out]
      rw [hz] at hcell
      clear hz
      subst hki
      go_wp2
      go_ret
      exact ⟨rfl, rfl⟩
    · have hz : ¬ l.getD k 0 = x := fun e => HF.out k (by omega) (by rw [← e]; simp [List.getD, show k < l.length by rw [HN.out]; omega])
      have hz' : ¬ x = l.getD k 0 := fun e => hz e.symm
      generalize l.getD k 0 = z at *
      have hzb : (x == z) = false := by simpa using hz'
      go_wp2
      go_round
      case rel => exact ⟨k + 1, by omega, by go_num⟩
      case measure => simp [intOf]; omega

/-- where a cut at j of a row of c places begins -/
def cutAt (g c j : Nat) : Addr := if c = j then ⟨g, 0, none⟩ else ⟨g, j, none⟩
theorem slice_row_from (g n c j : Nat) (hj : j ≤ n) (W : World) : (Instr.sliceAt 50 (.slice (some ⟨g, 0, none⟩) n c) (some (.int .i64 (j : Int))) none none).run Try.prog W = .ok (.slice (some (cutAt g c j)) (n - j) (c - j)) W := by
  rw [slice_from _ n c j hj W]
  unfold cutAt
  by_cases h : c = j
  · rw [if_pos h, if_pos h]
  · rw [if_neg h, if_neg h]; simp [addr_add]
theorem slice_row_upto (g n c i : Nat) (hi : i ≤ c) (W : World) : (Instr.sliceAt 50 (.slice (some ⟨g, 0, none⟩) n c) none (some (.int .i64 (i : Int))) none).run Try.prog W = .ok (.slice (some ⟨g, 0, none⟩) i c) W := by
  rw [slice_upto _ n c i hi W]
  by_cases h : c = 0
  · rw [if_pos h]
  · rw [if_neg h]; simp [addr_add]
theorem slice_row_mid (g n c i j : Nat) (hi : i ≤ j) (hj : j ≤ c) (W : World) : (Instr.sliceAt 50 (.slice (some ⟨g, 0, none⟩) n c) (some (.int .i64 (i : Int))) (some (.int .i64 (j : Int))) none).run Try.prog W = .ok (.slice (some (cutAt g c i)) (j - i) (c - i)) W := by
  rw [slice_mid _ n c i j hi hj W]
  unfold cutAt
  by_cases h : c = i
  · rw [if_pos h, if_pos h]
  · rw [if_neg h, if_neg h]; simp [addr_add]
theorem reads_slice {ops : Array Oper} {S : World → Prop} {o : Oper} {a : Act} {t : TypeId} {x : Operand} {lo hi mx : Option Operand} {v : Value} (hw : Region.wanted o (yielded ops a.tmps) = true) (ho : o.op = .slice t x lo hi mx)
    (hrun : ∀ W, (Instr.sliceAt t (a.eval x) (lo.map a.eval) (hi.map a.eval) (mx.map a.eval)).run Try.prog W = .ok v W) : Drawn.Reads Try.prog ops S o v a :=
  .inl ⟨hw, fun W _ => by unfold execOp; simp only [ho, Sem.run_bind, Sem.run_pure, hrun, Result.andThen_ok]⟩
theorem At.drew {W : World} {b : Nat} {o : Obj} (h : At W b o) : At W.drew b o := h
theorem Out.drew {M : Nat → Prop} {X Y : World} (h : Out M X Y) : Out M X Y.drew := ⟨h.1.drew, h.2⟩
theorem ints_one (l : List Int) : ∀ v ∈ l.map (Value.int .i64), v.oneCell' = true := fun v hv => by obtain ⟨z, _, rfl⟩ := List.mem_map.1 hv; rfl

/-- slices.Delete -/
theorem delete_any {g c i j : Nat} {l : List Int} {w : World} (h : Rw w g c l) (hij : i < j) (hj : j ≤ l.length) : Calls Try.prog 56 #[.slice (some ⟨g, 0, none⟩) l.length c, .int .i64 (i : Int), .int .i64 (j : Int)] w fun e w' => e = .returned (.slice (some ⟨g, 0, none⟩) (i + (l.length - j)) c) ∧ Rw w' g c (l.take i ++ l.drop j) ∧ Out (fun b => b = g) w w' := by
  obtain ⟨i0, hi0, hz0, hz1, hz2⟩ := info_parts intZero
  obtain ⟨cur, hA, hs, hc, hm, ht⟩ := h
  unfold maxLen at hm
  have hti : cur.toList.take i = (l.take i).map (Value.int .i64) := by
    rw [List.map_take, ← ht, List.take_take, Nat.min_eq_left (by omega)]
  obtain ⟨news, hnews⟩ : ∃ news, news = (l.drop j).map (Value.int .i64) := ⟨_, rfl⟩
  have hnl : news.length = l.length - j := by rw [hnews]; simp
  have hget : ∀ k u, news[k]? = some u → w.drew.cell? ((cutAt g c j).add k) = some u := fun k u hu => by
    have hk : k < l.length - j := by rw [← hnl]; exact (List.getElem?_eq_some_iff.1 hu).1
    unfold cutAt
    rw [if_neg (by omega), addr_add, hA.drew.cell]
    have e : (cur.toList.take l.length)[j + k]? = (l.map (Value.int .i64))[j + k]? := by rw [ht]
    rw [List.getElem?_take, if_pos (by omega)] at e
    rw [hnews, List.getElem?_map, List.getElem?_drop] at hu
    rw [← hu, ← List.getElem?_map, ← e]
    simp
  have happ := run_append_room (P := Try.prog) w.drew 50 50 3 i0 Try.underlying50 hi0 g i c cur hA.drew (cutAt g c j) (l.length - j) (c - j) news (by rw [hnl, hz1]; omega) hget (by rw [hnews]; exact ints_one _) (by omega) (by rw [hz1, hnl]; omega)
  rw [hz1, Nat.mul_one] at happ
  obtain ⟨X, hX⟩ : ∃ X : Array Value, X = (cur.toList.take i ++ news ++ cur.toList.drop (i + news.length)).toArray := ⟨_, rfl⟩
  rw [← hX] at happ
  have hXs : X.size = c := by rw [hX]; simp; omega
  have hAX : At (w.drew.setRow g X) g (.cells X 3) := hA.drew.setRow X
  have hcl := Lib.run_clear_slice (P := Try.prog) (w.drew.setRow g X) 50 3 0 (.int .i64 0) Try.underlying50 (fun _ => by kernel_rfl) rfl rfl g (i + (l.length - j)) (l.length - (i + (l.length - j))) (c - (i + (l.length - j))) (by omega) (fun k hk => by rw [hAX.cell, Array.getElem?_eq_getElem (by omega)]; rfl) (fun k hk => hAX.thaw _)
  rw [setCells_row hAX _ _ (by simp; omega) (fun v hv => by rw [List.eq_of_mem_replicate hv]; rfl), setRow_setRow] at hcl
  obtain ⟨Y, hY⟩ : ∃ Y : Array Value, Y = (X.toList.take (i + (l.length - j)) ++ List.replicate (l.length - (i + (l.length - j))) (Value.int .i64 0) ++ X.toList.drop (i + (l.length - j) + (List.replicate (l.length - (i + (l.length - j))) (Value.int .i64 0)).length)).toArray := ⟨_, rfl⟩
  rw [← hY] at hcl
  have hYs : Hid (Y.size = c) := Lib.hid (by rw [hY]; simp; omega)
  have hYt : Hid (Y.toList.take (l.take i ++ l.drop j).length = (l.take i ++ l.drop j).map (Value.int .i64)) := Lib.hid (by
    have e : (l.take i ++ l.drop j).length = i + (l.length - j) := by simp; omega
    rw [e, hY, hX, hti, hnews]
    simp only [List.map_append]
    have e1 : ((l.take i).map (Value.int .i64) ++ (l.drop j).map (Value.int .i64)).length = i + (l.length - j) := by simp; omega
    rw [List.append_assoc, List.take_append_of_le_length (by simp; omega), List.take_take, Nat.min_self, List.take_append_of_le_length (by omega), List.take_of_length_le (by omega)])
  have hQ : Hid (At (w.drew.setRow g Y) g (.cells Y 3)) := Lib.hid (hA.drew.setRow Y)
  have hO : Hid (Out (fun b => b = g) w (w.drew.setRow g Y)) := Lib.hid (Out.setRow (M := fun b => b = g) (Out.drew (Out.refl _ _)) rfl Y)
  generalize hn : l.length = n at *
  have HN := Lib.hid hn
  have HAPP := Lib.hid happ
  have HCL := Lib.hid hcl
  have hne : ¬ (i : Int) = (j : Int) := by omega
  have hneb : ((i : Int) == (j : Int)) = false := by simpa using hne
  have hcp : ¬ c = i + (n - j) := by omega
  have hcut : Hid (cutAt g c (i + (n - j)) = ⟨g, i + (n - j), none⟩) := Lib.hid (by unfold cutAt; rw [if_neg hcp])
  have hlen : Hid ((l.take i ++ l.drop j).length = i + (n - j)) := Lib.hid (by simp; omega)
  clear happ hcl hX hY hXs hAX hget hnl hnews hti ht hA hs hn
  go_enter Try.func56, Try.ntmps56
  go_upto_region 5 with (fail)
  refine Drawn.wp_region_gen (S := (fun _ => True)) 8 (by kernel_rfl) ?_ ?_
  · trivial
  intro hS0
  (refine Drawn.gen_take (i := 0) rfl (by kernel_rfl) (by kernel_rfl) (by kernel_rfl) (by kernel_rfl) (by omega) (by assumption) (by first | exact .inr ⟨by rfl, rfl⟩ | exact .inl ⟨by rfl, by intro w2 hS; go_simp; first | done | with_reducible rfl | exact ⟨rfl, rfl⟩⟩) ?_; (try simp only [Act.put, List.setIfInBounds_toArray, List.set_cons_zero, List.set_cons_succ]))
  (refine Drawn.gen_take (i := 1) rfl (by kernel_rfl) (by kernel_rfl) (by kernel_rfl) (by kernel_rfl) (by omega) (by assumption) (by first | exact .inr ⟨by rfl, rfl⟩ | exact .inl ⟨by rfl, by intro w2 hS; go_simp; first | done | with_reducible rfl | exact ⟨rfl, rfl⟩⟩) ?_; (try simp only [Act.put, List.setIfInBounds_toArray, List.set_cons_zero, List.set_cons_succ]))
  (refine Drawn.gen_take (i := 2) rfl (by kernel_rfl) (by kernel_rfl) (by kernel_rfl) (by kernel_rfl) (by omega) (by assumption) (reads_slice (by rfl) rfl (fun W => slice_row_upto g n c i (by omega) W)) ?_; (try simp only [Act.put, List.setIfInBounds_toArray, List.set_cons_zero, List.set_cons_succ]))
  (refine Drawn.gen_take (i := 3) rfl (by kernel_rfl) (by kernel_rfl) (by kernel_rfl) (by kernel_rfl) (by omega) (by assumption) (by first | exact .inr ⟨by rfl, rfl⟩ | exact .inl ⟨by rfl, by intro w2 hS; go_simp; first | done | with_reducible rfl | exact ⟨rfl, rfl⟩⟩) ?_; (try simp only [Act.put, List.setIfInBounds_toArray, List.set_cons_zero, List.set_cons_succ]))
  (refine Drawn.gen_take (i := 4) rfl (by kernel_rfl) (by kernel_rfl) (by kernel_rfl) (by kernel_rfl) (by omega) (by assumption) (by first | exact .inr ⟨by rfl, rfl⟩ | exact .inl ⟨by rfl, by intro w2 hS; go_simp; first | done | with_reducible rfl | exact ⟨rfl, rfl⟩⟩) ?_; (try simp only [Act.put, List.setIfInBounds_toArray, List.set_cons_zero, List.set_cons_succ]))
  (refine Drawn.gen_take (i := 5) rfl (by kernel_rfl) (by kernel_rfl) (by kernel_rfl) (by kernel_rfl) (by omega) (by assumption) (reads_slice (by rfl) rfl (fun W => slice_row_from g n c j (by omega) W)) ?_; (try simp only [Act.put, List.setIfInBounds_toArray, List.set_cons_zero, List.set_cons_succ]))
  refine Drawn.gen_one (i := 6) (by kernel_rfl) rfl (by rfl) ?_
  refine Drawn.Step.value (exec_append (.tmp 22) (.tmp 25) 50 50 rfl rfl rfl HAPP.out) ?_
  refine ⟨fun _ => trivial, ?_⟩
  (try simp only [Act.put, List.setIfInBounds_toArray, List.set_cons_zero, List.set_cons_succ])
  (refine Drawn.gen_take (i := 7) rfl (by kernel_rfl) (by kernel_rfl) (by kernel_rfl) (by kernel_rfl) (by omega) (by assumption) (by first | exact .inr ⟨by rfl, rfl⟩ | exact .inl ⟨by rfl, by intro w2 hS; go_simp; first | done | with_reducible rfl | exact ⟨rfl, rfl⟩⟩) ?_; (try simp only [Act.put, List.setIfInBounds_toArray, List.set_cons_zero, List.set_cons_succ]))
  refine Drawn.gen_end (by kernel_rfl) ?_
  have hcl := HCL.out
  go_wp2
  go_ret
  exact ⟨rfl, ⟨Y, hQ.out, hYs.out, by rw [hlen.out]; omega, by unfold maxLen; omega, hYt.out⟩, hO.out⟩

theorem Out.grown {M : Nat → Prop} {X Y : World} {row : Option Nat} (h : X.grownBy Y row) (hr : ∀ b, row = some b → M b) : Out M X Y :=
  ⟨⟨h.os, h.tape, h.output, h.size, fun _ hb => absurd hb (Nat.not_lt_zero _)⟩, fun b hb hm => h.block b hb (fun e => hm (hr b e.symm))⟩
theorem At.shape {W : World} {b : Nat} {cs : Array Value} {T : TypeId} (h : At W b (.cells cs T)) : W.shape? b = some (T, cs.size) := by
  unfold At at h
  simp [World.shape?, h]
theorem intSize : (Try.prog.info? 3).map (·.size) = some 1 := by kernel_rfl

/-- slices.Insert: at the end -/
theorem insert_end {v : Value} {l : List Int} {w : World} {vb : Nat} {x : Int} (h : KS w v l) (hl : l.length ≤ 10000) (hv : At w vb (.cells #[.int .i64 x] 3)) : Calls Try.prog 57 #[v, .int .i64 (l.length : Int), .slice (some ⟨vb, 0, none⟩) 1 1] w fun e w' => ∃ v', e = .returned v' ∧ KS w' v' (l ++ [x]) ∧ Out (fun b => v.ownBlock = some b) w w' ∧ (v'.ownBlock = v.ownBlock ∨ v'.ownBlock = some w.heap.size) := by
  obtain ⟨i0, hi0, hz0, hz1, hz2⟩ := info_parts intZero
  obtain ⟨v', w', hr, ho, hg, _, hloc⟩ := run_append_own_at (P := Try.prog) w 0 50 50 3 i0 (.int .i64 0) 1 8 Try.underlying50 hi0 hz0 hz1 hz2 rfl (by decide) v _ _ h ⟨vb, 0, none⟩ 1 1 [.int .i64 x] rfl
    (fun j u hu => by
      have hj : j = 0 := by have := (List.getElem?_eq_some_iff.1 hu).1; simpa using this
      subst hj
      rw [addr_add, hv.cell]; simpa using hu)
    (by simp [Value.oneCell']) (by simp only [maxLen]; omega) (by omega) (Nat.zero_le _)
  have hQ : Hid (KS w' v' (l ++ [x])) := Lib.hid (by
    have e1 : (l ++ [x]).length = l.length + 1 := by simp
    unfold KS
    rw [e1, List.map_append]; exact ho)
  have hO : Hid (Out (fun b => v.ownBlock = some b) w w') := Lib.hid (Out.grown hg fun b e => e)
  have HL := Lib.hid hloc
  obtain ⟨A, c, rfl, hI, hc, hm, hnil⟩ := h.ints
  have hcs : ∀ W : World, (Instr.sliceAt 50 (.slice A l.length c) (some (.int .i64 (l.length : Int))) none none).run Try.prog W = .ok (.slice (if c = l.length then A else A.map (·.add (l.length * 1))) (l.length - l.length) (c - l.length)) W := fun W => slice_from A l.length c l.length (Nat.le_refl _) W
  unfold maxLen at hm
  clear h hI hloc hg ho hnil
  generalize hn : l.length = n at *
  have HN := Lib.hid hn
  have HRUN := Lib.hid hr
  clear hr hn
  by_cases hcn : c = n
  · go_enter Try.func57, Try.ntmps57
    go_wp2_with (at_builtin; refine wpList_append_run (by rfl) _ _ 50 rfl rfl rfl HRUN.out ?_)
    go_ret
    exact ⟨v', rfl, hQ.out, hO.out, HL.out⟩
  · go_enter Try.func57, Try.ntmps57
    go_wp2_with (at_builtin; refine wpList_append_run (by rfl) _ _ 50 rfl rfl rfl HRUN.out ?_)
    go_ret
    exact ⟨v', rfl, hQ.out, hO.out, HL.out⟩

/-- slices.Insert: within, where there is room -/
theorem insert_room {g c i vb : Nat} {l : List Int} {w : World} {x : Int} (h : Rw w g c l) (hi : i < l.length) (hr : l.length < c) (hv : At w vb (.cells #[.int .i64 x] 3)) (hne : vb ≠ g) : Calls Try.prog 57 #[.slice (some ⟨g, 0, none⟩) l.length c, .int .i64 (i : Int), .slice (some ⟨vb, 0, none⟩) 1 1] w fun e w' => e = .returned (.slice (some ⟨g, 0, none⟩) (l.length + 1) c) ∧ Rw w' g c (Tr.wi l i x) ∧ Out (fun b => b = g) w w' := by
  obtain ⟨cur, hA, hs, hc, hm, ht⟩ := h
  unfold maxLen at hm
  have hov : ∀ lb cb, (callFunc 62 #[.slice (some ⟨vb, 0, none⟩) 1 1, .slice (some ⟨g, i + 1, none⟩) lb cb]).run Try.prog w = .ok (.value (.bool false)) w := fun lb cb => by
    rw [run_callFunc_extern Try.func62 (by kernel_rfl) (by kernel_rfl) (by kernel_rfl) (e := Extern.SlicesOverlaps.overlaps #[50, 50] #[4]) (by kernel_rfl),
      Lib.run_overlaps_apart w 50 4 3 Try.underlying50 1 (fun _ => by kernel_rfl) ⟨vb, 0, none⟩ ⟨g, i + 1, none⟩ 1 1 lb cb hne _ _ _ _ hv.shape hA.shape (by omega) (hv.thaw _) (hv.thaw _)]
    rfl
  have hti : ∀ k, k ≤ l.length → cur.toList.take k = (l.take k).map (Value.int .i64) := fun k hk => by
    rw [List.map_take, ← ht, List.take_take, Nat.min_eq_left hk]
  obtain ⟨news, hnews⟩ : ∃ news, news = (l.drop i).map (Value.int .i64) := ⟨_, rfl⟩
  have hnl : news.length = l.length - i := by rw [hnews]; simp
  have hcp1 := run_copy_row (P := Try.prog) w.drew 50 50 3 3 g (i + 1) (l.length + 1 - (i + 1)) (c - (i + 1)) ⟨g, i, none⟩ (l.length + 1 - i) (c - i) cur 3 news Try.underlying50 intSize hA.drew (by rw [hnl]; simp only [Nat.min_def]; split <;> omega)
    (fun k u hu => by
      have hk : k < l.length - i := by rw [← hnl]; exact (List.getElem?_eq_some_iff.1 hu).1
      rw [addr_add, hA.drew.cell]
      have e : (cur.toList.take l.length)[i + k]? = (l.map (Value.int .i64))[i + k]? := by rw [ht]
      rw [List.getElem?_take, if_pos (by omega)] at e
      rw [hnews, List.getElem?_map, List.getElem?_drop] at hu
      rw [← hu, ← List.getElem?_map, ← e]
      simp) (by omega) (by rw [hnews]; exact ints_one _)
  obtain ⟨X, hX⟩ : ∃ X : Array Value, X = (cur.toList.take (i + 1) ++ news ++ cur.toList.drop (i + 1 + news.length)).toArray := ⟨_, rfl⟩
  rw [← hX] at hcp1
  have hXs : X.size = c := by rw [hX]; simp; omega
  have hAX : At (w.drew.setRow g X) g (.cells X 3) := hA.drew.setRow X
  have hvX : At (w.drew.setRow g X) vb (.cells #[.int .i64 x] 3) := hv.drew.offRow hne X
  have hcp2 := run_copy_row (P := Try.prog) (w.drew.setRow g X) 50 50 3 3 g i (l.length + 1 - i) (c - i) ⟨vb, 0, none⟩ 1 1 X 3 [.int .i64 x] Try.underlying50 intSize hAX (by simp only [Nat.min_def, List.length_singleton]; split <;> omega)
    (fun k u hu => by
      have hk : k = 0 := by have := (List.getElem?_eq_some_iff.1 hu).1; simpa using this
      subst hk
      rw [addr_add, hvX.cell]; simpa using hu) (by simp; omega) (by simp [Value.oneCell'])
  rw [setRow_setRow] at hcp2
  obtain ⟨Y, hY⟩ : ∃ Y : Array Value, Y = (X.toList.take i ++ [Value.int .i64 x] ++ X.toList.drop (i + [Value.int .i64 x].length)).toArray := ⟨_, rfl⟩
  rw [← hY] at hcp2
  have hYs : Hid (Y.size = c) := Lib.hid (by rw [hY]; simp; omega)
  have hYt : Hid (Y.toList.take (Tr.wi l i x).length = (Tr.wi l i x).map (Value.int .i64)) := Lib.hid (by
    rw [Tr.length_wi, hY, hX]
    simp only [Tr.wi, List.map_append, List.map_cons, List.length_singleton]
    have e0 : (cur.toList.take (i + 1)).length = i + 1 := by simp; omega
    have e1 : (cur.toList.take i).length = i := by simp; omega
    have e2 : List.take i (cur.toList.take (i + 1) ++ news ++ cur.toList.drop (i + 1 + news.length)) = cur.toList.take i := by
      rw [List.append_assoc, List.take_append_of_le_length (by omega), List.take_take, Nat.min_eq_left (by omega)]
    have e3 : List.drop (i + 1) (cur.toList.take (i + 1) ++ news ++ cur.toList.drop (i + 1 + news.length)) = news ++ cur.toList.drop (i + 1 + news.length) := by
      rw [List.append_assoc, List.drop_append_of_le_length (by omega), List.drop_of_length_le (by omega), List.nil_append]
    rw [e2, e3, ← hti i (by omega), ← hnews]
    have e4 : (cur.toList.take i ++ [Value.int .i64 x] ++ news).length = l.length + 1 := by simp [hnl]; omega
    rw [← List.append_assoc, List.take_append_of_le_length (by omega), List.take_of_length_le (by omega)]
    simp)
  have hQ : Hid (At (w.drew.setRow g Y) g (.cells Y 3)) := Lib.hid (hA.drew.setRow Y)
  have hO : Hid (Out (fun b => b = g) w (w.drew.setRow g Y)) := Lib.hid (Out.setRow (M := fun b => b = g) (Out.drew (Out.refl _ _)) rfl Y)
  have hwl : Hid ((Tr.wi l i x).length = l.length + 1) := Lib.hid (Tr.length_wi _ _ _)
  generalize hn : l.length = n at *
  have HN := Lib.hid hn
  have hw1 : IntKind.i64.wrap ((i : Int) + 1) = (i : Int) + 1 := by rw [IntWalk.i64_in _ (by omega)]
  have hz2 : ¬ ((i : Int) = (n : Int)) := by omega
  have hz3 : ((i : Int) == (n : Int)) = false := by simpa using hz2
  have hb1 : (0 : Int) ≤ (i : Int) + 1 := by omega
  have hb2 : ¬ (c = i + 1) := by omega
  have hb3 : (i : Int) ≤ (n : Int) + 1 := by omega
  have hb4 : ¬ (c = i) := by omega
  have htn : ((i : Int) + 1).toNat = i + 1 := by omega
  have HC1 := Lib.hid hcp1
  have HC2 := Lib.hid hcp2
  have HS1 : Hid (∀ W, (Instr.sliceAt 50 (.slice (some ⟨g, 0, none⟩) (n + 1) c) (some (.int .i64 ((i : Int) + 1))) none none).run Try.prog W = .ok (.slice (some ⟨g, i + 1, none⟩) (n + 1 - (i + 1)) (c - (i + 1))) W) := Lib.hid fun W => by
    have := slice_row_from g (n + 1) c (i + 1) (by omega) W
    rw [cutAt, if_neg hb2] at this
    rw [show (i : Int) + 1 = ((i + 1 : Nat) : Int) by omega]
    exact this
  have HS2 : Hid (∀ W, (Instr.sliceAt 50 (.slice (some ⟨g, 0, none⟩) (n + 1) c) (some (.int .i64 (i : Int))) none none).run Try.prog W = .ok (.slice (some ⟨g, i, none⟩) (n + 1 - i) (c - i)) W) := Lib.hid fun W => by
    have := slice_row_from g (n + 1) c i (by omega) W
    rw [cutAt, if_neg hb4] at this
    exact this
  clear hcp1 hcp2 hX hY hXs hAX hvX hnl hnews hti ht hA hs hn hv
  go_enter Try.func57, Try.ntmps57
  go_upto_region 15 with (simp only [hov])
  refine Drawn.wp_region_gen (S := (fun _ => True)) 9 (by kernel_rfl) ?_ ?_
  · trivial
  intro hS0
  (refine Drawn.gen_take (i := 0) rfl (by kernel_rfl) (by kernel_rfl) (by kernel_rfl) (by kernel_rfl) (by omega) (by assumption) (by first | exact .inr ⟨by rfl, rfl⟩ | exact .inl ⟨by rfl, by intro w2 hS; go_simp; first | done | with_reducible rfl | exact ⟨rfl, rfl⟩⟩) ?_; (try simp only [Act.put, List.setIfInBounds_toArray, List.set_cons_zero, List.set_cons_succ]))
  (refine Drawn.gen_take (i := 1) rfl (by kernel_rfl) (by kernel_rfl) (by kernel_rfl) (by kernel_rfl) (by omega) (by assumption) (by first | exact .inr ⟨by rfl, rfl⟩ | exact .inl ⟨by rfl, by intro w2 hS; go_simp; first | done | with_reducible rfl | exact ⟨rfl, rfl⟩⟩) ?_; (try simp only [Act.put, List.setIfInBounds_toArray, List.set_cons_zero, List.set_cons_succ]))
  (refine Drawn.gen_take (i := 2) rfl (by kernel_rfl) (by kernel_rfl) (by kernel_rfl) (by kernel_rfl) (by omega) (by assumption) (by first | exact .inr ⟨by rfl, rfl⟩ | exact .inl ⟨by rfl, by intro w2 hS; go_simp; first | done | with_reducible rfl | exact ⟨rfl, rfl⟩⟩) ?_; (try simp only [Act.put, List.setIfInBounds_toArray, List.set_cons_zero, List.set_cons_succ]))
  (refine Drawn.gen_take (i := 3) rfl (by kernel_rfl) (by kernel_rfl) (by kernel_rfl) (by kernel_rfl) (by omega) (by assumption) (by first | exact .inr ⟨by rfl, rfl⟩ | exact .inl ⟨by rfl, by intro w2 hS; go_simp; first | done | with_reducible rfl | exact ⟨rfl, rfl⟩⟩) ?_; (try simp only [Act.put, List.setIfInBounds_toArray, List.set_cons_zero, List.set_cons_succ]))
  (refine Drawn.gen_take (i := 4) rfl (by kernel_rfl) (by kernel_rfl) (by kernel_rfl) (by kernel_rfl) (by omega) (by assumption) (reads_slice (by rfl) rfl (fun W => HS1.out W)) ?_; (try simp only [Act.put, List.setIfInBounds_toArray, List.set_cons_zero, List.set_cons_succ]))
  (refine Drawn.gen_take (i := 5) rfl (by kernel_rfl) (by kernel_rfl) (by kernel_rfl) (by kernel_rfl) (by omega) (by assumption) (by first | exact .inr ⟨by rfl, rfl⟩ | exact .inl ⟨by rfl, by intro w2 hS; go_simp; first | done | with_reducible rfl | exact ⟨rfl, rfl⟩⟩) ?_; (try simp only [Act.put, List.setIfInBounds_toArray, List.set_cons_zero, List.set_cons_succ]))
  (refine Drawn.gen_take (i := 6) rfl (by kernel_rfl) (by kernel_rfl) (by kernel_rfl) (by kernel_rfl) (by omega) (by assumption) (by first | exact .inr ⟨by rfl, rfl⟩ | exact .inl ⟨by rfl, by intro w2 hS; go_simp; first | done | with_reducible rfl | exact ⟨rfl, rfl⟩⟩) ?_; (try simp only [Act.put, List.setIfInBounds_toArray, List.set_cons_zero, List.set_cons_succ]))
  (refine Drawn.gen_take (i := 7) rfl (by kernel_rfl) (by kernel_rfl) (by kernel_rfl) (by kernel_rfl) (by omega) (by assumption) (reads_slice (by rfl) rfl (fun W => HS2.out W)) ?_; (try simp only [Act.put, List.setIfInBounds_toArray, List.set_cons_zero, List.set_cons_succ]))
  refine Drawn.gen_one (i := 8) (by kernel_rfl) rfl (by rfl) ?_
  refine Drawn.Step.value (exec_copy (.tmp 73) (.tmp 76) 50 50 rfl rfl rfl HC1.out) ?_
  refine ⟨fun _ => trivial, ?_⟩
  (try simp only [Act.put, List.setIfInBounds_toArray, List.set_cons_zero, List.set_cons_succ])
  refine Drawn.gen_end (by kernel_rfl) ?_
  have hcp2 := HC2.out
  go_wp2
  go_ret
  exact ⟨rfl, ⟨Y, hQ.out, hYs.out, by rw [hwl.out]; omega, by unfold maxLen; omega, hYt.out⟩, hO.out⟩

/-- slices.Insert: within, where there is no room -/
theorem insert_grow {g i vb : Nat} {l : List Int} {w : World} {x : Int} (h : Rw w g l.length l) (hi : i < l.length) (hl : l.length ≤ 10000) (hv : At w vb (.cells #[.int .i64 x] 3)) : Calls Try.prog 57 #[.slice (some ⟨g, 0, none⟩) l.length l.length, .int .i64 (i : Int), .slice (some ⟨vb, 0, none⟩) 1 1] w fun e w' => (∃ c, e = .returned (.slice (some ⟨w.heap.size, 0, none⟩) (l.length + 1) c) ∧ Rw w' w.heap.size c (Tr.wi l i x)) ∧ Below w.heap.size w w' := by
  obtain ⟨i0, hi0, hz0, hz1, hz2⟩ := info_parts intZero
  have hgl := h.lt
  have hI := h.ints
  obtain ⟨cur, hA, hs, hc, hm, ht⟩ := h
  clear hm
  have hti : ∀ k, k ≤ l.length → cur.toList.take k = (l.take k).map (Value.int .i64) := fun k hk => by
    rw [List.map_take, ← ht, List.take_take, Nat.min_eq_left hk]
  have hcell : ∀ k u, (l.map (Value.int .i64))[k]? = some u → cur[k]? = some u := fun k u hu => by
    have hk : k < l.length := by have := (List.getElem?_eq_some_iff.1 hu).1; simpa using this
    have e : (cur.toList.take l.length)[k]? = (l.map (Value.int .i64))[k]? := by rw [ht]
    rw [List.getElem?_take, if_pos hk, hu] at e
    simpa using e
  have hold : (Builtin.firstCells i0.size i (.slice (some ⟨g, 0, none⟩) i l.length)).run Try.prog w.drew = .ok (cur.toList.take i).toArray w.drew := by
    rw [hz1]
    exact run_firstCells_some w.drew 1 i ⟨g, 0, none⟩ i l.length (cur.toList.take i) (by rw [List.length_take]; simp; omega) (fun k u hu => by
      rw [addr_add, hA.drew.cell]
      rw [List.getElem?_take] at hu
      split at hu
      · simpa using hu
      · cases hu)
  have happ := Lib.run_append_grow_zeros (P := Try.prog) w 50 3 50 3 i0 (.int .i64 0) .i64 .i64 Try.underlying50 Try.underlying3 hi0 hz0 (some ⟨g, 0, none⟩) i l.length _ hold (l.length + 1 - i) (by omega) (by omega) (by omega) (by omega) (by rw [hz2]; omega) (by rw [hz2]; exact growslice_fits (by omega) (by omega))
  obtain ⟨G, hG⟩ : ∃ G, G = grownCap w (i + (l.length + 1 - i)) l.length 3 := ⟨_, rfl⟩
  have hGn : l.length + 1 ≤ G := by have := grownCap_ge w (i + (l.length + 1 - i)) l.length 3; omega
  have hGm : G ≤ maxLen := by rw [hG]; exact grownCap_le_maxLen _ _ _ _ (by simp only [maxLen]; omega)
  rw [← hG, show i + (l.length + 1 - i) = l.length + 1 by omega] at happ
  obtain ⟨R, hR⟩ : ∃ R : Array Value, R = (cur.toList.take i).toArray ++ Builtin.zeroCells (Value.int .i64 0).cells (l.length + 1 - i) ++ Builtin.zeroCells (Value.int .i64 0).cells (G - (l.length + 1)) := ⟨_, rfl⟩
  rw [← hR] at happ
  have hRs : R.size = G := by rw [hR]; simp [size_zeroCells, Value.cells]; omega
  have hRt : R.toList.take i = cur.toList.take i := by
    rw [hR]
    simp only [Array.toList_append, List.append_assoc]
    rw [List.take_append_of_le_length (by simp; omega), List.take_of_length_le (by simp; omega)]
  clear hR
  obtain ⟨b, hb⟩ : ∃ b, b = w.heap.size := ⟨_, rfl⟩
  obtain ⟨W1, hW1⟩ : ∃ W1, W1 = w.drew.alloc (.cells R 3) := ⟨_, rfl⟩
  have hA1 : At W1 b (.cells R 3) := by rw [hW1, hb]; exact At.new _ _
  have hg1 : At W1 g (.cells cur 3) := by rw [hW1]; exact hA.drew.alloc _
  have hv1 : At W1 vb (.cells #[.int .i64 x] 3) := by rw [hW1]; exact hv.drew.alloc _
  have hB1 : Below b w W1 := by rw [hW1, hb]; exact (Below.refl _ _).drew.alloc (by simp) _
  have hvb : vb ≠ b := by rw [hb]; exact Nat.ne_of_lt hv.lt
  have hgb : g ≠ b := by rw [hb]; exact Nat.ne_of_lt hgl
  rw [← hW1, ← hb] at happ
  have hcp1 := run_copy_row (P := Try.prog) W1 50 50 3 3 b i (l.length + 1 - i) (G - i) ⟨vb, 0, none⟩ 1 1 R 3 [.int .i64 x] Try.underlying50 intSize hA1 (by simp only [Nat.min_def, List.length_singleton]; split <;> omega)
    (fun k u hu => by
      have hk : k = 0 := by have := (List.getElem?_eq_some_iff.1 hu).1; simpa using this
      subst hk
      rw [addr_add, hv1.cell]; simpa using hu) (by simp; omega) (by simp [Value.oneCell'])
  obtain ⟨X, hX⟩ : ∃ X : Array Value, X = (R.toList.take i ++ [Value.int .i64 x] ++ R.toList.drop (i + [Value.int .i64 x].length)).toArray := ⟨_, rfl⟩
  rw [← hX] at hcp1
  have hXs : X.size = G := by rw [hX]; simp; omega
  have hAX : At (W1.setRow b X).drew b (.cells X 3) := (hA1.setRow X).drew
  have hgX : At (W1.setRow b X).drew g (.cells cur 3) := (hg1.offRow hgb X).drew
  obtain ⟨news, hnews⟩ : ∃ news, news = (l.drop i).map (Value.int .i64) := ⟨_, rfl⟩
  have hnl : news.length = l.length - i := by rw [hnews]; simp
  have hcp2 := run_copy_row (P := Try.prog) (W1.setRow b X).drew 50 50 3 3 b (i + 1) (l.length + 1 - (i + 1)) (G - (i + 1)) ⟨g, i, none⟩ (l.length - i) (l.length - i) X 3 news Try.underlying50 intSize hAX (by rw [hnl]; simp only [Nat.min_def]; split <;> omega)
    (fun k u hu => by
      rw [addr_add, hgX.cell]
      rw [hnews, List.getElem?_map, List.getElem?_drop, ← List.getElem?_map] at hu
      exact hcell _ _ hu) (by omega) (by rw [hnews]; exact ints_one _)
  obtain ⟨Y, hY⟩ : ∃ Y : Array Value, Y = (X.toList.take (i + 1) ++ news ++ X.toList.drop (i + 1 + news.length)).toArray := ⟨_, rfl⟩
  rw [← hY, show ((W1.setRow b X).drew).setRow b Y = (W1.setRow b Y).drew by rw [← drew_setRow, setRow_setRow]] at hcp2
  have hYs : Hid (Y.size = G) := Lib.hid (by rw [hY]; simp; omega)
  have hYt : Hid (Y.toList.take (Tr.wi l i x).length = (Tr.wi l i x).map (Value.int .i64)) := Lib.hid (by
    rw [Tr.length_wi, hY, hX]
    simp only [Tr.wi, List.map_append, List.map_cons, List.length_singleton]
    have e1 : (R.toList.take i).length = i := by simp; omega
    have e2 : List.take (i + 1) (R.toList.take i ++ [Value.int .i64 x] ++ R.toList.drop (i + 1)) = R.toList.take i ++ [Value.int .i64 x] := by
      rw [List.take_append_of_le_length (by simp; omega), List.take_of_length_le (by simp; omega)]
    rw [e2, hRt, ← hti i (by omega), ← hnews]
    have e4 : (cur.toList.take i ++ [Value.int .i64 x] ++ news).length = l.length + 1 := by simp [hnl]; omega
    rw [List.take_append_of_le_length (by omega), List.take_of_length_le (by omega)]
    simp)
  have hQ : Hid (At (W1.setRow b Y).drew b (.cells Y 3)) := Lib.hid (hA1.setRow Y).drew
  have hO : Hid (Below b w (W1.setRow b Y).drew) := Lib.hid (below_setRow hB1 (Nat.le_refl _) Y).drew
  have hwl : Hid ((Tr.wi l i x).length = l.length + 1) := Lib.hid (Tr.length_wi _ _ _)
  unfold maxLen at hGm
  rw [← hb]
  clear hG
  generalize hn : l.length = n at *
  have HN := Lib.hid hn
  have hw1 : IntKind.i64.wrap ((i : Int) + 1) = (i : Int) + 1 := by rw [IntWalk.i64_in _ (by omega)]
  have hw2 : IntKind.i64.wrap ((n : Int) + 1 - (i : Int)) = (n : Int) + 1 - (i : Int) := by rw [IntWalk.i64_in _ (by omega)]
  have hz2 : ¬ ((i : Int) = (n : Int)) := by omega
  have hz3 : ((i : Int) == (n : Int)) = false := by simpa using hz2
  have hb1 : (0 : Int) ≤ (i : Int) + 1 := by omega
  have hb2 : ¬ (G = i + 1) := by omega
  have hb5 : ¬ (G = i) := by omega
  have hb4 : ¬ (n = i) := by omega
  have HC1 := Lib.hid hcp1
  have HC2 := Lib.hid hcp2
  have HAPP : Hid ((Builtin.append_ #[50, 3] 50 #[.slice (some ⟨g, 0, none⟩) i n, .int .i64 ((n : Int) + 1 - (i : Int))]).run Try.prog w = .ok (.slice (some ⟨b, 0, none⟩) (n + 1) G) W1) := Lib.hid (by
    rw [show (n : Int) + 1 - (i : Int) = ((n + 1 - i : Nat) : Int) by omega]; exact happ)
  have HS1 : Hid (∀ W, (Instr.sliceAt 50 (.slice (some ⟨b, 0, none⟩) (n + 1) G) (some (.int .i64 ((i : Int) + 1))) none none).run Try.prog W = .ok (.slice (some ⟨b, i + 1, none⟩) (n + 1 - (i + 1)) (G - (i + 1))) W) := Lib.hid fun W => by
    have := slice_row_from b (n + 1) G (i + 1) (by omega) W
    rw [cutAt, if_neg hb2] at this
    rw [show (i : Int) + 1 = ((i + 1 : Nat) : Int) by omega]
    exact this
  have HS2 : Hid (∀ W, (Instr.sliceAt 50 (.slice (some ⟨g, 0, none⟩) n n) (some (.int .i64 (i : Int))) none none).run Try.prog W = .ok (.slice (some ⟨g, i, none⟩) (n - i) (n - i)) W) := Lib.hid fun W => by
    have := slice_row_from g n n i (by omega) W
    rw [cutAt, if_neg hb4] at this
    exact this
  have HB := Lib.hid hb
  clear hcp1 hcp2 hX hY hXs hAX hgX hnl hnews hti ht hA hs hn hv happ hold hI hcell hA1 hg1 hv1 hB1 hvb hgb hRs hRt hW1 hb hc
  go_enter Try.func57, Try.ntmps57
  go_upto_region 10 with (at_builtin; refine wpList_run (by rfl) (exec_append (.tmp 34) (.tmp 39) 50 3 rfl rfl rfl HAPP.out) ?_)
  have hcp1 := HC1.out
  go_upto_region 11 with (fail)
  refine Drawn.wp_region_gen (S := (fun _ => True)) 9 (by kernel_rfl) ?_ ?_
  · trivial
  intro hS0
  (refine Drawn.gen_take (i := 0) rfl (by kernel_rfl) (by kernel_rfl) (by kernel_rfl) (by kernel_rfl) (by omega) (by assumption) (by first | exact .inr ⟨by rfl, rfl⟩ | exact .inl ⟨by rfl, by intro w2 hS; go_simp; first | done | with_reducible rfl | exact ⟨rfl, rfl⟩⟩) ?_; (try simp only [Act.put, List.setIfInBounds_toArray, List.set_cons_zero, List.set_cons_succ]))
  (refine Drawn.gen_take (i := 1) rfl (by kernel_rfl) (by kernel_rfl) (by kernel_rfl) (by kernel_rfl) (by omega) (by assumption) (by first | exact .inr ⟨by rfl, rfl⟩ | exact .inl ⟨by rfl, by intro w2 hS; go_simp; first | done | with_reducible rfl | exact ⟨rfl, rfl⟩⟩) ?_; (try simp only [Act.put, List.setIfInBounds_toArray, List.set_cons_zero, List.set_cons_succ]))
  (refine Drawn.gen_take (i := 2) rfl (by kernel_rfl) (by kernel_rfl) (by kernel_rfl) (by kernel_rfl) (by omega) (by assumption) (by first | exact .inr ⟨by rfl, rfl⟩ | exact .inl ⟨by rfl, by intro w2 hS; go_simp; first | done | with_reducible rfl | exact ⟨rfl, rfl⟩⟩) ?_; (try simp only [Act.put, List.setIfInBounds_toArray, List.set_cons_zero, List.set_cons_succ]))
  (refine Drawn.gen_take (i := 3) rfl (by kernel_rfl) (by kernel_rfl) (by kernel_rfl) (by kernel_rfl) (by omega) (by assumption) (by first | exact .inr ⟨by rfl, rfl⟩ | exact .inl ⟨by rfl, by intro w2 hS; go_simp; first | done | with_reducible rfl | exact ⟨rfl, rfl⟩⟩) ?_; (try simp only [Act.put, List.setIfInBounds_toArray, List.set_cons_zero, List.set_cons_succ]))
  (refine Drawn.gen_take (i := 4) rfl (by kernel_rfl) (by kernel_rfl) (by kernel_rfl) (by kernel_rfl) (by omega) (by assumption) (reads_slice (by rfl) rfl (fun W => HS1.out W)) ?_; (try simp only [Act.put, List.setIfInBounds_toArray, List.set_cons_zero, List.set_cons_succ]))
  (refine Drawn.gen_take (i := 5) rfl (by kernel_rfl) (by kernel_rfl) (by kernel_rfl) (by kernel_rfl) (by omega) (by assumption) (by first | exact .inr ⟨by rfl, rfl⟩ | exact .inl ⟨by rfl, by intro w2 hS; go_simp; first | done | with_reducible rfl | exact ⟨rfl, rfl⟩⟩) ?_; (try simp only [Act.put, List.setIfInBounds_toArray, List.set_cons_zero, List.set_cons_succ]))
  (refine Drawn.gen_take (i := 6) rfl (by kernel_rfl) (by kernel_rfl) (by kernel_rfl) (by kernel_rfl) (by omega) (by assumption) (by first | exact .inr ⟨by rfl, rfl⟩ | exact .inl ⟨by rfl, by intro w2 hS; go_simp; first | done | with_reducible rfl | exact ⟨rfl, rfl⟩⟩) ?_; (try simp only [Act.put, List.setIfInBounds_toArray, List.set_cons_zero, List.set_cons_succ]))
  (refine Drawn.gen_take (i := 7) rfl (by kernel_rfl) (by kernel_rfl) (by kernel_rfl) (by kernel_rfl) (by omega) (by assumption) (reads_slice (by rfl) rfl (fun W => HS2.out W)) ?_; (try simp only [Act.put, List.setIfInBounds_toArray, List.set_cons_zero, List.set_cons_succ]))
  refine Drawn.gen_one (i := 8) (by kernel_rfl) rfl (by rfl) ?_
  refine Drawn.Step.value (exec_copy (.tmp 50) (.tmp 53) 50 50 rfl rfl rfl HC2.out) ?_
  refine ⟨fun _ => trivial, ?_⟩
  (try simp only [Act.put, List.setIfInBounds_toArray, List.set_cons_zero, List.set_cons_succ])
  refine Drawn.gen_end (by kernel_rfl) ?_
  go_wp2
  go_ret
  exact ⟨⟨G, rfl, ⟨Y, hQ.out, hYs.out, by rw [hwl.out]; omega, by unfold maxLen; omega, hYt.out⟩⟩, hO.out⟩

/-- slices.Insert -/
theorem insert_any {v : Value} {l : List Int} {w : World} {i vb : Nat} {x : Int} (h : KS w v l) (hi : i ≤ l.length) (hl : l.length ≤ 10000) (hv : At w vb (.cells #[.int .i64 x] 3)) (hne : v.ownBlock ≠ some vb) : Calls Try.prog 57 #[v, .int .i64 (i : Int), .slice (some ⟨vb, 0, none⟩) 1 1] w fun e w' => ∃ v', e = .returned v' ∧ KS w' v' (Tr.wi l i x) ∧ Out (fun b => v.ownBlock = some b) w w' ∧ (v'.ownBlock = v.ownBlock ∨ v'.ownBlock = some w.heap.size) := by
  by_cases hin : i = l.length
  · subst hin
    refine (insert_end h hl hv).mono ?_
    rintro e w' ⟨v', rfl, h1, h2, h3⟩
    exact ⟨v', rfl, by rw [Tr.wi, List.take_length, List.drop_length]; exact h1, h2, h3⟩
  · rcases h.cases with ⟨rfl, rfl⟩ | ⟨g, c, rfl, hr⟩
    · simp at hi; simp [hi] at hin
    · have hvg : vb ≠ g := fun e => hne (by rw [e]; rfl)
      by_cases hc : l.length < c
      · refine (insert_room hr (by omega) hc hv hvg).mono ?_
        rintro e w' ⟨rfl, h1, h2⟩
        exact ⟨_, rfl, by have := h1.ks; rw [Tr.length_wi] at this; exact this, h2.mono fun b _ e => by subst e; rfl, .inl rfl⟩
      · have hcl : c = l.length := by obtain ⟨_, _, _, h3, _⟩ := hr; omega
        subst hcl
        refine (insert_grow hr (by omega) hl hv).mono ?_
        rintro e w' ⟨⟨c, rfl, h1⟩, h2⟩
        exact ⟨_, rfl, by have := h1.ks; rw [Tr.length_wi] at this; exact this, Out.of_below h2, .inr rfl⟩

end Go.Proofs.Ytmjnlnnedjmcfaa.Fix
