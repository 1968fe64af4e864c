/- The nodes as the document has them; a number more behind a row, beside others. -/
import Derived.Test.YtbmidmpooooheaaPaRef
import Derived.Test.YtbmidmpooooheaaMarStackR
namespace Go.Proofs.Ytbmidmpooooheaa.Fix
open Go.ChangeShapes Go.WideShapes Go.ChangeAt Go.RowKit Go.Deep Go.Joins
set_option linter.unusedVariables false
set_option linter.unusedSimpArgs false
set_option maxRecDepth 100000

theorem run_append_opR {P : Program} {w w' : World} {o : Oper} {a : Act} (s x : Operand) (t : TypeId) (ho : o.op = .call { callee := .builtin .append, args := #[s, x], argTypes := #[t, t] }) {v u v' : Value} (hs : a.eval s = v) (hx : a.eval x = u)
    (hrun : (Builtin.append_ #[t, t] o.type #[v, u]).run P w = .ok v' w') : (execOp a.eval o).run P w = .ok (.value v') w' := by
  unfold execOp
  simp only [ho, resolve, invoke, builtin, Sem.run_bind, Sem.run_pure, Result.andThen_ok, List.map_toArray, List.map_cons, List.map_nil, hs, hx, hrun]
theorem rown_below {W w : World} {base : Nat} {e : TypeId} {sz : Nat} {v : Value} {k : Nat} {xs : List Value} (h : W.ownsRow base e sz v k xs) (hb : Below W.heap.size W w) : w.ownsRow base e sz v k xs :=
  h.kept (show W.grownBy w none from ⟨hb.os, hb.tape, hb.output, hb.size, fun k hk _ => hb.block k hk⟩) (by cases hv : v.ownBlock with
    | none => exact .inl rfl
    | some b => exact .inr (by simp))
theorem rpsl_own {w : World} {base : Nat} {v : Value} {n : Nat} {l : Nat → PNd} (h : w.ownsRow base 41 3 v n (flatPN l n)) : ∃ A c, v = .slice A n c ∧ PSl w A l n c := by
  obtain ⟨A, c, rfl, hN⟩ := rpnodes_of_own h
  rcases h.2 with ⟨e, q⟩ | ⟨g, cap, cur, e, _, _, h1, h2, _⟩
  · injection e with e1 e2 e3
    subst e1 e3
    exact ⟨_, _, rfl, hN, by omega, by simp [maxLen], fun _ => rfl⟩
  · injection e with e1 e2 e3
    subst e1 e3
    exact ⟨_, _, rfl, hN, h1, h2, fun e => by cases e⟩
theorem rpbuild3 (W : World) (a z : Int) (b : Bool) : (Instr.build 41 #[(0, .int .i64 a), (1, .bool b), (2, .int .i64 z)]).run Try.prog W = .ok (.agg #[.int .i64 a, .bool b, .int .i64 z]) W := by kernel_rfl
theorem rpslice1 (W : World) (a z : Int) (b : Bool) : (Instr.buildSlice 24 1 #[(0, .agg #[.int .i64 a, .bool b, .int .i64 z])]).run Try.prog W = .ok (.slice (some ⟨W.heap.size, 0, none⟩) 1 1) (W.alloc (.cells #[.int .i64 a, .bool b, .int .i64 z] 41)) := by kernel_rfl
theorem reads_rpbuild {ops : Array Oper} {S : World → Prop} {o : Oper} {a : Act} (ps : Array (Nat × Operand)) (ho : o.op = .build 41 ps) {v : Value} (qs : Array (Nat × Value)) (hq : (ps.map fun p => (p.1, a.eval p.2)) = qs) (hrun : ∀ w, (Instr.build 41 qs).run Try.prog w = .ok v w) (hw : Region.wanted o (yielded ops a.tmps) = true) : Drawn.Reads Try.prog ops S o v a :=
  .inl ⟨hw, fun w _ => by unfold execOp; simp only [ho, hq, Sem.run_bind, hrun w, Result.andThen_ok, Sem.run_pure]⟩
theorem val_rpslice {o : Oper} {a : Act} {w w' : World} (n : Nat) (ps : Array (Nat × Operand)) (ho : o.op = .buildSlice 24 n ps) {v : Value} (qs : Array (Nat × Value)) (hq : (ps.map fun p => (p.1, a.eval p.2)) = qs) (hrun : (Instr.buildSlice 24 n qs).run Try.prog w = .ok v w') : (execOp a.eval o).run Try.prog w = .ok (.value v) w' := by
  unfold execOp; simp only [ho, hq, Sem.run_bind, hrun, Result.andThen_ok, Sem.run_pure]

set_option maxHeartbeats 8000000 in
theorem paof_any (A : Option Addr) (l : Nat → PNd) (n c : Nat) (w : World) (h : PSl w A l n c) (hn : n ≤ 900) : Calls Try.prog 11 #[.slice A n c] w fun e w' => (∃ D d, e = .returned (.slice D n d) ∧ PSl w' D l n d) ∧ Below w.heap.size w w' := by
  have HS := Lib.hid h
  clear h
  go_enter Try.func11, Try.ntmps11
  go_wp2
  go_loopw [3, 4] (fun v i wr => ∃ k : Nat, k ≤ n ∧ i = .int .i64 (k : Int) ∧ wr.ownsRow w.heap.size 41 3 v k (flatPN l k) ∧ Below w.heap.size w wr) (fun _ i _ => n - (intOf i).toNat)
  case atStart => exact ⟨0, by omega, rfl, World.ownsRow_nil _ _ _ _, Below.refl _ _⟩
  case round =>
    obtain ⟨k, hk, rfl, hown, hB⟩ := hrel
    by_cases hlt : k < n
    · have hltz : (k : Int) < (n : Int) := by omega
      obtain ⟨b, o, rfl, hc⟩ := HS.out.nodes.some (by omega)
      have HC : Hid (∀ W, Below w.heap.size w W → W.cell? ⟨b, o + k * 3, none⟩ = some (.int .i64 (l k).up) ∧ W.cell? ⟨b, o + k * 3 + 1, none⟩ = some (.bool (l k).ly) ∧ W.cell? ⟨b, o + k * 3 + 2, none⟩ = some (.int .i64 (l k).z)) := Lib.hid fun W hb => hc W hb k hlt
      clear hc
      have hsz := hB.size
      have hown1 := rown_below hown (w := wr.drew) (Below.refl _ _).drew
      obtain ⟨v', w', hrun, hown2, hB2, hb2⟩ := rappend_pnode (l := l) hown1 hB.drew (by exact hsz) (by omega)
      have HO := Lib.hid hown2
      have HB2 := Lib.hid hB2
      have HRUN := Lib.hid hrun
      clear hrun hown hown1 hown2 hB2
      obtain ⟨c0, c1, c2⟩ := HC.out _ hB.drew
      generalize (l k).up = x0 at *
      generalize (l k).ly = x1 at *
      generalize (l k).z = x2 at *
      go_upto_region 5 with (fail)
      refine Drawn.wp_region_gen (S := (fun W' => W'.cell? ⟨b, o + k * 3, none⟩ = some (.int .i64 x0) ∧ W'.cell? ⟨b, o + k * 3 + 1, none⟩ = some (.bool x1) ∧ W'.cell? ⟨b, o + k * 3 + 2, none⟩ = some (.int .i64 x2))) 19 (by kernel_rfl) ?_ ?_
      · exact ⟨c0, c1, c2⟩
      intro hS0
      clear c0 c1 c2
      (refine Drawn.gen_take (i := 0) rfl (by kernel_rfl) (by kernel_rfl) (by kernel_rfl) (by kernel_rfl) (by omega) (by first | assumption | exact hS0) (by first | exact .inr ⟨by rfl, rfl⟩ | exact .inl ⟨by rfl, by intro w2 hS; obtain ⟨q0, q1, q2⟩ := hS; go_simp; first | done | with_reducible rfl | exact ⟨rfl, rfl⟩⟩) ?_; (try simp only [Act.put, List.setIfInBounds_toArray, List.set_cons_zero, List.set_cons_succ]))
      (refine Drawn.gen_take (i := 1) rfl (by kernel_rfl) (by kernel_rfl) (by kernel_rfl) (by kernel_rfl) (by omega) (by first | assumption | exact hS0) (by first | exact .inr ⟨by rfl, rfl⟩ | exact .inl ⟨by rfl, by intro w2 hS; obtain ⟨q0, q1, q2⟩ := hS; go_simp; first | done | with_reducible rfl | exact ⟨rfl, rfl⟩⟩) ?_; (try simp only [Act.put, List.setIfInBounds_toArray, List.set_cons_zero, List.set_cons_succ]))
      (refine Drawn.gen_take (i := 2) rfl (by kernel_rfl) (by kernel_rfl) (by kernel_rfl) (by kernel_rfl) (by omega) (by first | assumption | exact hS0) (by first | exact .inr ⟨by rfl, rfl⟩ | exact .inl ⟨by rfl, by intro w2 hS; obtain ⟨q0, q1, q2⟩ := hS; go_simp; first | done | with_reducible rfl | exact ⟨rfl, rfl⟩⟩) ?_; (try simp only [Act.put, List.setIfInBounds_toArray, List.set_cons_zero, List.set_cons_succ]))
      (refine Drawn.gen_take (i := 3) rfl (by kernel_rfl) (by kernel_rfl) (by kernel_rfl) (by kernel_rfl) (by omega) (by first | assumption | exact hS0) (by first | exact .inr ⟨by rfl, rfl⟩ | exact .inl ⟨by rfl, by intro w2 hS; obtain ⟨q0, q1, q2⟩ := hS; go_simp; first | done | with_reducible rfl | exact ⟨rfl, rfl⟩⟩) ?_; (try simp only [Act.put, List.setIfInBounds_toArray, List.set_cons_zero, List.set_cons_succ]))
      (refine Drawn.gen_take (i := 4) rfl (by kernel_rfl) (by kernel_rfl) (by kernel_rfl) (by kernel_rfl) (by omega) (by first | assumption | exact hS0) (by first | exact .inr ⟨by rfl, rfl⟩ | exact .inl ⟨by rfl, by intro w2 hS; obtain ⟨q0, q1, q2⟩ := hS; go_simp; first | done | with_reducible rfl | exact ⟨rfl, rfl⟩⟩) ?_; (try simp only [Act.put, List.setIfInBounds_toArray, List.set_cons_zero, List.set_cons_succ]))
      (refine Drawn.gen_take (i := 5) rfl (by kernel_rfl) (by kernel_rfl) (by kernel_rfl) (by kernel_rfl) (by omega) (by first | assumption | exact hS0) (by first | exact .inr ⟨by rfl, rfl⟩ | exact .inl ⟨by rfl, by intro w2 hS; obtain ⟨q0, q1, q2⟩ := hS; go_simp; first | done | with_reducible rfl | exact ⟨rfl, rfl⟩⟩) ?_; (try simp only [Act.put, List.setIfInBounds_toArray, List.set_cons_zero, List.set_cons_succ]))
      (refine Drawn.gen_take (i := 6) rfl (by kernel_rfl) (by kernel_rfl) (by kernel_rfl) (by kernel_rfl) (by omega) (by first | assumption | exact hS0) (by first | exact .inr ⟨by rfl, rfl⟩ | exact .inl ⟨by rfl, by intro w2 hS; obtain ⟨q0, q1, q2⟩ := hS; go_simp; first | done | with_reducible rfl | exact ⟨rfl, rfl⟩⟩) ?_; (try simp only [Act.put, List.setIfInBounds_toArray, List.set_cons_zero, List.set_cons_succ]))
      (refine Drawn.gen_take (i := 7) rfl (by kernel_rfl) (by kernel_rfl) (by kernel_rfl) (by kernel_rfl) (by omega) (by first | assumption | exact hS0) (by first | exact .inr ⟨by rfl, rfl⟩ | exact .inl ⟨by rfl, by intro w2 hS; obtain ⟨q0, q1, q2⟩ := hS; go_simp; first | done | with_reducible rfl | exact ⟨rfl, rfl⟩⟩) ?_; (try simp only [Act.put, List.setIfInBounds_toArray, List.set_cons_zero, List.set_cons_succ]))
      (refine Drawn.gen_take (i := 8) rfl (by kernel_rfl) (by kernel_rfl) (by kernel_rfl) (by kernel_rfl) (by omega) (by first | assumption | exact hS0) (by first | exact .inr ⟨by rfl, rfl⟩ | exact .inl ⟨by rfl, by intro w2 hS; obtain ⟨q0, q1, q2⟩ := hS; go_simp; first | done | with_reducible rfl | exact ⟨rfl, rfl⟩⟩) ?_; (try simp only [Act.put, List.setIfInBounds_toArray, List.set_cons_zero, List.set_cons_succ]))
      (refine Drawn.gen_take (i := 9) rfl (by kernel_rfl) (by kernel_rfl) (by kernel_rfl) (by kernel_rfl) (by omega) (by first | assumption | exact hS0) (by first | exact .inr ⟨by rfl, rfl⟩ | exact .inl ⟨by rfl, by intro w2 hS; obtain ⟨q0, q1, q2⟩ := hS; go_simp; first | done | with_reducible rfl | exact ⟨rfl, rfl⟩⟩) ?_; (try simp only [Act.put, List.setIfInBounds_toArray, List.set_cons_zero, List.set_cons_succ]))
      (refine Drawn.gen_take (i := 10) rfl (by kernel_rfl) (by kernel_rfl) (by kernel_rfl) (by kernel_rfl) (by omega) (by first | assumption | exact hS0) (by first | exact .inr ⟨by rfl, rfl⟩ | exact .inl ⟨by rfl, by intro w2 hS; obtain ⟨q0, q1, q2⟩ := hS; go_simp; first | done | with_reducible rfl | exact ⟨rfl, rfl⟩⟩) ?_; (try simp only [Act.put, List.setIfInBounds_toArray, List.set_cons_zero, List.set_cons_succ]))
      (refine Drawn.gen_take (i := 11) rfl (by kernel_rfl) (by kernel_rfl) (by kernel_rfl) (by kernel_rfl) (by omega) (by first | assumption | exact hS0) (by first | exact .inr ⟨by rfl, rfl⟩ | exact .inl ⟨by rfl, by intro w2 hS; obtain ⟨q0, q1, q2⟩ := hS; go_simp; first | done | with_reducible rfl | exact ⟨rfl, rfl⟩⟩) ?_; (try simp only [Act.put, List.setIfInBounds_toArray, List.set_cons_zero, List.set_cons_succ]))
      (refine Drawn.gen_take (i := 12) rfl (by kernel_rfl) (by kernel_rfl) (by kernel_rfl) (by kernel_rfl) (by omega) (by first | assumption | exact hS0) (by first | exact .inr ⟨by rfl, rfl⟩ | exact .inl ⟨by rfl, by intro w2 hS; obtain ⟨q0, q1, q2⟩ := hS; go_simp; first | done | with_reducible rfl | exact ⟨rfl, rfl⟩⟩) ?_; (try simp only [Act.put, List.setIfInBounds_toArray, List.set_cons_zero, List.set_cons_succ]))
      (refine Drawn.gen_take (i := 13) rfl (by kernel_rfl) (by kernel_rfl) (by kernel_rfl) (by kernel_rfl) (by omega) (by first | assumption | exact hS0) (by first | exact .inr ⟨by rfl, rfl⟩ | exact .inl ⟨by rfl, by intro w2 hS; obtain ⟨q0, q1, q2⟩ := hS; go_simp; first | done | with_reducible rfl | exact ⟨rfl, rfl⟩⟩) ?_; (try simp only [Act.put, List.setIfInBounds_toArray, List.set_cons_zero, List.set_cons_succ]))
      (refine Drawn.gen_take (i := 14) rfl (by kernel_rfl) (by kernel_rfl) (by kernel_rfl) (by kernel_rfl) (by omega) (by first | assumption | exact hS0) (by first | exact .inr ⟨by rfl, rfl⟩ | exact .inl ⟨by rfl, by intro w2 hS; obtain ⟨q0, q1, q2⟩ := hS; go_simp; first | done | with_reducible rfl | exact ⟨rfl, rfl⟩⟩) ?_; (try simp only [Act.put, List.setIfInBounds_toArray, List.set_cons_zero, List.set_cons_succ]))
      (refine Drawn.gen_take (i := 15) rfl (by kernel_rfl) (by kernel_rfl) (by kernel_rfl) (by kernel_rfl) (by omega) (by first | assumption | exact hS0) (by first | exact .inr ⟨by rfl, rfl⟩ | exact .inl ⟨by rfl, by intro w2 hS; obtain ⟨q0, q1, q2⟩ := hS; go_simp; first | done | with_reducible rfl | exact ⟨rfl, rfl⟩⟩) ?_; (try simp only [Act.put, List.setIfInBounds_toArray, List.set_cons_zero, List.set_cons_succ]))
      (refine Drawn.gen_take (i := 16) rfl (by kernel_rfl) (by kernel_rfl) (by kernel_rfl) (by kernel_rfl) (by omega) (by assumption) (reads_rpbuild _ rfl _ (by simp only [List.map_toArray, List.map_cons, List.map_nil]; rfl) (fun W => rpbuild3 W _ _ _) (by rfl)) ?_; (try simp only [Act.put, List.setIfInBounds_toArray, List.set_cons_zero, List.set_cons_succ]))
      refine Drawn.gen_one (i := 17) (by kernel_rfl) rfl (by rfl) ?_
      refine Drawn.Step.value (val_rpslice 1 _ rfl _ (by simp only [List.map_toArray, List.map_cons, List.map_nil]; rfl) (rpslice1 _ _ _ _)) ⟨fun _ => ?_, ?_⟩
      · exact HC.out _ (Below.alloc' hB.drew _)
      (try simp only [Act.put, List.setIfInBounds_toArray, List.set_cons_zero, List.set_cons_succ])
      refine Drawn.gen_one (i := 18) (by kernel_rfl) rfl (by rfl) ?_
      refine Drawn.Step.value (run_append_opR (.tmp 11) (.tmp 28) _ rfl rfl rfl HRUN.out) ⟨fun _ => ?_, ?_⟩
      · exact HC.out _ HB2.out
      (try simp only [Act.put, List.setIfInBounds_toArray, List.set_cons_zero, List.set_cons_succ])
      refine Drawn.gen_one (i := 19) (by kernel_rfl) rfl (by rfl) ?_
      refine Drawn.Step.value (by go_simp; first | done | with_reducible rfl | exact ⟨rfl, rfl⟩) ?_; refine ⟨by first | (intro hlt; exact absurd hlt (by decide)) | (intro _; exact hlt), ?_⟩; (try simp only [Act.put, List.setIfInBounds_toArray, List.set_cons_zero, List.set_cons_succ])
      refine Drawn.gen_end (by kernel_rfl) ?_
      go_wp2
      go_roundw
      case rel => exact ⟨k + 1, by omega, by go_num, HO.out, HB2.out⟩
      case measure => simp [intOf]; omega
    · obtain rfl : k = n := by omega
      have hltz : ¬ (k : Int) < (k : Int) := by omega
      obtain ⟨D, d, rfl, hs⟩ := rpsl_own hown
      have HD := Lib.hid hs
      clear hs hown
      go_wp2
      go_ret
      exact ⟨⟨D, d, rfl, HD.out⟩, hB⟩

/-! rows of integers that are grown beside each other -/
def ApartI (v u : Value) : Prop := v.ownBlock = none ∨ u.ownBlock = none ∨ v.ownBlock ≠ u.ownBlock
theorem ApartI.symm {v u : Value} (h : ApartI v u) : ApartI u v := by
  rcases h with h | h | h
  · exact .inr (.inl h)
  · exact .inl h
  · exact .inr (.inr (Ne.symm h))
/-- one more: all other rows of one's own stay -/
theorem append_besides {W : World} {base k : Nat} {u : Value} {xs : List Int} (x : Int) (hu : W.ownsRow base 3 1 u k (xs.map (Value.int .i64))) (hbase : base ≤ W.heap.size) (hk : k ≤ 10000) :
    ∃ u' W', (Builtin.append_ #[26, 26] 26 #[u, .slice (some ⟨W.heap.size, 0, none⟩) 1 1]).run Try.prog (W.alloc (.cells #[.int .i64 x] 3)) = .ok u' W' ∧ W'.ownsRow base 3 1 u' (k + 1) ((xs ++ [x]).map (Value.int .i64)) ∧
      (∀ (v : Value) (m : Nat) (ys : List Value), W.ownsRow base 3 1 v m ys → ApartI v u → W'.ownsRow base 3 1 v m ys ∧ ApartI v u') ∧ Below base W W' ∧ base ≤ W'.heap.size := by
  obtain ⟨i0, hi0, hz0, hz1, hz2⟩ := info_parts intZero
  have hA := At.new W (.cells #[.int .i64 x] 3)
  obtain ⟨v', w', hr, ho, hg, _, hblk⟩ := run_append_own_at (P := Try.prog) (w := W.alloc (.cells #[.int .i64 x] 3)) base 26 26 3 i0 (.int .i64 0) 1 8 Try.underlying26 hi0 hz0 hz1 hz2 rfl (by decide) u k _ (hu.alloc _) ⟨W.heap.size, 0, none⟩ 1 1 [.int .i64 x] rfl
    (by intro j y hj
        rw [addr_add, Nat.zero_add, hA.cell, ← hj]
        change ([Value.int .i64 x] : List Value).toArray[j]? = _
        simp)
    (by intro y hy; simp at hy; subst hy; rfl) (by simp only [maxLen]; omega) (by omega) (by simp; omega)
  refine ⟨v', w', hr, by rw [List.map_append]; exact ho, fun v m ys hv ha => ?_, (Below.alloc (Below.refl base W) hbase _).grown hg (by simp; omega) (fun j ej => (hu.lt j ej).1), ?_⟩
  · have hvb : v.ownBlock = none ∨ v.ownBlock ≠ u.ownBlock := by
      rcases ha with h | h | h
      · exact .inl h
      · by_cases hv0 : v.ownBlock = none
        · exact .inl hv0
        · exact .inr (by rw [h]; exact hv0)
      · exact .inr h
    refine ⟨(hv.alloc _).kept hg hvb, ?_⟩
    by_cases hv0 : v.ownBlock = none
    · exact .inl hv0
    · refine .inr (.inr ?_)
      rcases hblk with h | h
      · rw [h]; exact hvb.resolve_left hv0
      · rw [h]
        intro e
        have := (hv.lt _ e).2
        simp at this
        omega
  · have := hg.size
    simp at this
    omega

end Go.Proofs.Ytbmidmpooooheaa.Fix
