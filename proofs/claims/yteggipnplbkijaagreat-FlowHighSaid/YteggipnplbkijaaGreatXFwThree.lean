/- Layer flow: a tree of three boxes, one in the other, in plain numbers. -/
import Derived.Test.YteggipnplbkijaaGreatW33
namespace Go.Proofs.YteggipnplbkijaaGreat.Fix
set_option linter.unusedVariables false
set_option linter.unusedSimpArgs false
set_option linter.unusedSectionVars false
set_option maxRecDepth 100000

section
variable {T : Tr.T} {s k : Re.St} (h0 : T 0 = some ⟨-1, [1], Re.zero⟩) (h1 : T 1 = some ⟨0, [2], s⟩) (h2 : T 2 = some ⟨1, [], k⟩) (hm : T (-1) = none) (h3 : s.c 0 ≠ 3) (hp2 : s.c 1 ≠ 2) (hp3 : s.c 1 ≠ 3)
include h0 h1 h2 hm h3 hp2 hp3
theorem T3_b0 : bxT T 0 = ⟨Re.zero, [1], [], false⟩ := by
  have e1 : stOf T 0 = Re.zero := by unfold stOf; rw [h0]; rfl
  have e3 : stOf T 1 = s := by unfold stOf; rw [h1]; rfl
  have e4 : ibOf T 0 = false := by
    unfold ibOf upT
    rw [h0]
    show ((T (-1)).isSome && _) = false
    rw [hm]
    rfl
  have e2 : kidsF T 0 = [1] := by unfold kidsF; rw [h0]; rfl
  have e5 : kfl T [1] = [1] := by simp [kfl, e3, isOut, h3, hp2, hp3]
  have e6 : kap T [1] = [] := by simp [kap, e3, isOut, h3, hp2, hp3]
  unfold bxT
  rw [e1, e2, e4, e5, e6]
theorem T3_b1 : (bxT T 1).sty = s ∧ (bxT T 1).fl = kfl T [2] ∧ (bxT T 1).ap = kap T [2] := by
  have e1 : stOf T 1 = s := by unfold stOf; rw [h1]; rfl
  have e2 : kidsF T 1 = [2] := by unfold kidsF; rw [h1]; rfl
  unfold bxT
  rw [e1, e2]
  exact ⟨rfl, rfl, rfl⟩
theorem T3_b2 : (bxT T 2).sty = k ∧ (bxT T 2).fl = [] ∧ (bxT T 2).ap = [] := by
  have e1 : stOf T 2 = k := by unfold stOf; rw [h2]; rfl
  have e2 : kidsF T 2 = [] := by unfold kidsF; rw [h2]; rfl
  unfold bxT
  rw [e1, e2]
  exact ⟨rfl, rfl, rfl⟩
theorem T3_shown : shn T 1 0 = true := by
  simp only [shn, h0]
  rfl
theorem T3_root {w h : Int} (hw : 0 ≤ w ∧ w ≤ 1048576) : ∃ x0, rootL T w h = x0 ∧ x0.id = 0 ∧ x0.i0 = w ∧ x0.i1 = -1 := by
  have e0 := T3_b0 h0 h1 h2 hm h3 hp2 hp3
  have ed0 : ∀ y, Fw.eds Re.zero y = 0 := fun y => by
    unfold Fw.eds Fw.ed
    simp [Re.zero, Fw.wr]
  have i0 : Fw.wth Re.zero 0 w w (-1) = w := by
    unfold Fw.wth
    rw [if_neg (by decide), ed0]
    have hf : Fw.fxd Re.zero 0 w = false := by simp [Fw.fxd, Re.zero, Fx.fixd]
    have hm : Fw.mgs Re.zero 0 w = 0 := by simp [Fw.mgs, Fw.mg, Fw.sd, Re.zero, Fx.len, Fx.cut, Fw.wr]
    rw [hf, hm]
    simp only [Bool.false_eq_true, if_false, if_true]
    have hwr : Fw.wr (Fw.wr (w - 0) - 0) = w := by unfold Fw.wr; omega
    rw [hwr]
    simp only [Fw.lim, Re.zero, Fx.limit, Fx.len, Fx.clamp, Fx.cut, Fx.mx]
    simp
    omega
  have i1 : Fw.wth Re.zero 1 w h (-1) = -1 := by
    unfold Fw.wth
    have hf : Fw.fxd Re.zero 1 h = false := by simp [Fw.fxd, Re.zero, Fx.fixd]
    rw [if_neg (by decide), hf]
    simp
  refine ⟨_, rfl, rfl, ?_, ?_⟩
  · show Fw.wth (bxT T 0).sty 0 w w (-1) = w
    rw [e0]
    exact i0
  · show Fw.wth (bxT T 0).sty 1 w h (-1) = -1
    rw [e0]
    exact i1
theorem T3_three {w h : Int} (hw : 0 ≤ w ∧ w ≤ 1048576) : ∃ (x0 x1 : Fw.Ld) (rest : List Fw.Ld), tl (bxT T) w h 64 (rootL T w h) = x0 :: x1 :: rest ∧ layL T w h = x0 :: x1 :: rest ∧ x0.id = 0 ∧ x1.id = 1 ∧ (∀ y ∈ rest, y.id = 2) ∧ rest.length ≤ 2 ∧
    ∃ i0 : Int, x1.s1 = Fw.wr ((if Fw.wth s 1 w (-1) (-1) = -1 then Fw.lim s 1 (Fw.cont (bxT T) 63 1 i0 (Fw.wth s 1 w (-1) (-1))).2 (-1) else Fw.wth s 1 w (-1) (-1)) + Fw.eds s 1) := by
  have e0 := T3_b0 h0 h1 h2 hm h3 hp2 hp3
  obtain ⟨a1, a2, a3⟩ := T3_b1 h0 h1 h2 hm h3 hp2 hp3
  obtain ⟨c1, c2, c3⟩ := T3_b2 h0 h1 h2 hm h3 hp2 hp3
  obtain ⟨x0, hx, hi, ha, hb⟩ := T3_root h0 h1 h2 hm h3 hp2 hp3 (h := h) hw
  obtain ⟨y, hy, k1, k2, k3, k4, k5⟩ := cont_one (B := bxT T) (f := 63) (z := x0.id) (k := 1) (i0 := x0.i0) (i1 := x0.i1) (by rw [hi, e0]) (by rw [hi, e0]; rfl)
  have hid2 : ∀ z, z ∈ kfl T [2] ∨ z ∈ kap T [2] → z = 2 := fun z h => by
    rcases h with h | h
    · have := (List.mem_filter.1 h).1; simpa using this
    · have := (List.mem_filter.1 h).1; simpa using this
  have hcids := Fw.cont_ids (bxT T) (62 + 1) 1 y.i0 y.i1 (fun h => by cases h)
  have leafs : ∀ x : Fw.Ld, x.id = 2 → ∀ f, tl (bxT T) w h f x = [x] := fun x hx f => tl_leaf (by rw [hx, c2]) (by rw [hx, c3])
  have t1 : tl (bxT T) w h (62 + 1 + 1) x0 = x0 :: edg (bxT T x0.id).sty y :: (((Fw.cont (bxT T) (62 + 1) 1 y.i0 y.i1).1.flatMap fun z => tl (bxT T) w h 62 (edg (bxT T 1).sty z)) ++ (kap T [2]).flatMap fun z => tl (bxT T) w h 62 (aprt (bxT T) w h 62 z (edg (bxT T x0.id).sty y))) := by
    have q1 : (bxT T x0.id).ap = [] := by rw [hi, e0]
    rw [tl, hy, q1]
    simp only [List.flatMap_cons, List.flatMap_nil, List.append_nil]
    rw [tl]
    have q2 : (edg (bxT T x0.id).sty y).id = 1 := k1
    have q3 : (edg (bxT T x0.id).sty y).i0 = y.i0 := rfl
    have q4 : (edg (bxT T x0.id).sty y).i1 = y.i1 := rfl
    rw [q2, q3, q4, a3]
  have r1 : ((Fw.cont (bxT T) (62 + 1) 1 y.i0 y.i1).1.flatMap fun z => tl (bxT T) w h 62 (edg (bxT T 1).sty z)) = (Fw.cont (bxT T) (62 + 1) 1 y.i0 y.i1).1.map (edg (bxT T 1).sty) := by
    have hall : ∀ z ∈ (Fw.cont (bxT T) (62 + 1) 1 y.i0 y.i1).1, z.id = 2 := fun z hz => hid2 _ (.inl (by rw [← a2, ← hcids]; exact List.mem_map_of_mem hz))
    generalize (Fw.cont (bxT T) (62 + 1) 1 y.i0 y.i1).1 = l at hall
    induction l with
    | nil => rfl
    | cons z l ih =>
      rw [List.flatMap_cons, List.map_cons, ih fun u hu => hall u (List.mem_cons_of_mem _ hu), leafs (edg (bxT T 1).sty z) (show z.id = 2 from hall z (by simp))]
      rfl
  have r2 : ((kap T [2]).flatMap fun z => tl (bxT T) w h 62 (aprt (bxT T) w h 62 z (edg (bxT T x0.id).sty y))) = (kap T [2]).map fun z => aprt (bxT T) w h 62 z (edg (bxT T x0.id).sty y) := by
    have hall : ∀ z ∈ kap T [2], z = 2 := fun z hz => hid2 _ (.inr hz)
    generalize kap T [2] = l at hall
    induction l with
    | nil => rfl
    | cons z l ih =>
      rw [List.flatMap_cons, List.map_cons, ih fun u hu => hall u (List.mem_cons_of_mem _ hu), leafs (aprt (bxT T) w h 62 z (edg (bxT T x0.id).sty y)) (show z = 2 from hall z (by simp))]
      rfl
  rw [r1, r2] at t1
  refine ⟨x0, edg (bxT T x0.id).sty y, _, by rw [hx]; exact t1, ?_, hi, k1, ?_, ?_, y.i0, ?_⟩
  · unfold layL
    rw [if_pos (T3_shown h0 h1 h2 hm h3 hp2 hp3), hx]
    exact t1
  · intro u hu
    rcases List.mem_append.1 hu with hu | hu
    · obtain ⟨z, hz, rfl⟩ := List.mem_map.1 hu
      exact hid2 _ (.inl (by rw [← a2, ← hcids]; exact List.mem_map_of_mem (f := (·.id)) hz))
    · obtain ⟨z, hz, rfl⟩ := List.mem_map.1 hu
      exact hid2 z (.inr hz)
  · have l1 : (Fw.cont (bxT T) (62 + 1) 1 y.i0 y.i1).1.length ≤ 1 := by
      have e := congrArg List.length hcids
      rw [List.length_map, a2] at e
      rw [e]
      exact Nat.le_trans (by unfold kfl; exact List.length_filter_le _ _) (by simp)
    have l2 : (kap T [2]).length ≤ 1 := Nat.le_trans (by unfold kap; exact List.length_filter_le _ _) (by simp)
    rw [List.length_append, List.length_map, List.length_map]
    omega
  · show y.s1 = _
    have e4 : y.i0 = Fw.wth s 0 w w (-1) := by
      rw [k2, ha, hb]
      show Fw.wth (bxT T 1).sty 0 w w (-1) = _
      rw [a1]
    rw [k5, ha, hb, e4]
    unfold Fw.lay Fw.lay1
    simp only [a1]
theorem T3_cst : Fw.cst (bxT T) 64 0 + tcst (bxT T) 64 0 ≤ 1000 := by
  have e0 := T3_b0 h0 h1 h2 hm h3 hp2 hp3
  obtain ⟨a1, a2, a3⟩ := T3_b1 h0 h1 h2 hm h3 hp2 hp3
  obtain ⟨c1, c2, c3⟩ := T3_b2 h0 h1 h2 hm h3 hp2 hp3
  have l1 : ∀ f, Fw.cst (bxT T) f 2 = 1 := fun f => cst_leaf c2
  have l2 : ∀ f, tcst (bxT T) f 2 = 1 := fun f => tcst_leaf c2 c3
  have k1 : kfl T [2] = [2] ∨ kfl T [2] = [] := by
    unfold kfl
    rw [List.filter_cons]
    split
    · exact .inl rfl
    · exact .inr rfl
  have k2 : kap T [2] = [2] ∨ kap T [2] = [] := by
    unfold kap
    rw [List.filter_cons]
    split
    · exact .inl rfl
    · exact .inr rfl
  have m1 : ∀ f, Fw.cst (bxT T) (f + 1) 1 ≤ 4 := fun f => by
    simp only [Fw.cst, a2]
    rcases k1 with e | e <;> rw [e] <;> simp [l1]
  have m2 : ∀ f, tcst (bxT T) (f + 1) 1 ≤ 7 := fun f => by
    have q := m1 f
    simp only [tcst, a2, a3]
    rcases k1 with e | e <;> rcases k2 with e2 | e2 <;> rw [e, e2] <;> simp [l1, l2] <;> omega
  have h : ∀ f, Fw.cst (bxT T) (f + 1 + 1) 0 + tcst (bxT T) (f + 1 + 1) 0 ≤ 1000 := fun f => by
    have q := m1 f
    have r := m2 f
    have c : Fw.cst (bxT T) (f + 1 + 1) 0 = 1 + 3 * (Fw.cst (bxT T) (f + 1) 1 + 0) := by
      rw [Fw.cst, e0]
      rfl
    have d : tcst (bxT T) (f + 1 + 1) 0 = Fw.cst (bxT T) (f + 1 + 1) 0 + (tcst (bxT T) (f + 1) 1 + 0) + 0 := by
      rw [tcst, e0]
      rfl
    omega
  exact h 62
theorem T3_shs : (shs T 64 0).length ≤ 4 := by
  have e0 := T3_b0 h0 h1 h2 hm h3 hp2 hp3
  have f0 : kfl T (kidsF T 0) = [1] := congrArg Fw.Bx.fl e0
  have g0 : kap T (kidsF T 0) = [] := congrArg Fw.Bx.ap e0
  have e1 : kidsF T 1 = [2] := by unfold kidsF; rw [h1]; rfl
  have e2 : kidsF T 2 = [] := by unfold kidsF; rw [h2]; rfl
  have l2 : ∀ f, shs T (f + 1) 2 = [2] := fun f => by
    rw [shs, e2]
    rfl
  have l1 : ∀ f, (shs T (f + 1 + 1) 1).length ≤ 3 := fun f => by
    rw [shs, e1]
    unfold kfl kap
    simp only [List.filter_cons, List.filter_nil]
    split <;> split <;> simp [l2]
  have h : ∀ f, (shs T (f + 1 + 1 + 1) 0).length ≤ 4 := fun f => by
    have q : (shs T (f + 2) 1).length ≤ 3 := l1 f
    rw [shs, f0, g0]
    simp only [List.flatMap_cons, List.flatMap_nil, List.append_nil, List.length_cons]
    omega
  exact h 61
end

end Go.Proofs.YteggipnplbkijaaGreat.Fix
