/- The statements' own helpers of the layer anchor: the document's example, and nodes as the document has them. -/
import Derived.Test.YtnoofdojbgkmkaaAnRef
import Derived.Test.YtnoofdojbgkmkaaAnFrame
import Derived.Test.YtnoofdojbgkmkaaDrawnGen
namespace Go.Proofs.Ytnoofdojbgkmkaa.Fix
open Go.ChangeShapes Go.WideShapes Go.ChangeAt Go.RowKit Go.Deep Go.Joins
set_option linter.unusedVariables false

theorem run_append_op {P : Program} {w w' : World} {o : Oper} {a : Act} (s x : Operand) (t : TypeId) (ho : o.op = .call { callee := .builtin .append, args := #[s, x], argTypes := #[t, t] }) {v u v' : Value} (hs : a.eval s = v) (hx : a.eval x = u)
    (hrun : (Builtin.append_ #[t, t] o.type #[v, u]).run P w = .ok v' w') : (execOp a.eval o).run P w = .ok (.value v') w' := by
  unfold execOp
  simp only [ho, resolve, invoke, builtin, Sem.run_bind, Sem.run_pure, Result.andThen_ok, List.map_toArray, List.map_cons, List.map_nil, hs, hx, hrun]

def wl : Nat → An.Nd := fun k => if k = 0 then ⟨-1, 0, 40, false⟩ else if k = 1 then ⟨0, 10, 20, false⟩ else ⟨0, 25, 60, false⟩

theorem wl_valid : An.V wl 3 := fun k hk => by
  rcases (show k = 0 ∨ k = 1 ∨ k = 2 by omega) with rfl | rfl | rfl
  · exact ⟨by decide, by decide, .here _⟩
  · exact ⟨by decide, by decide, .here _⟩
  · exact ⟨by decide, by decide, .step 1 _ (.here _)⟩

theorem wl_picked : An.Picked wl 3 5 30 1 := by
  have k0 : An.Kid wl 3 5 30 (-1) 0 := ⟨by decide, rfl, ⟨rfl, by decide⟩, fun j hj => absurd hj (by omega)⟩
  have k1 : An.Kid wl 3 5 30 (0 : Nat) 1 := ⟨by decide, rfl, ⟨rfl, by decide⟩, fun j hj e => by
    obtain rfl : j = 0 := by omega
    exact absurd e (by decide)⟩
  exact .inr ⟨1, rfl, by decide, .step _ 1 (.step _ 0 .root (.inl rfl) k0) (.inr ⟨0, rfl, by decide⟩) k1, .inl (by decide)⟩

theorem nil_picked (l : Nat → An.Nd) (c d : Int) : An.Picked l 0 c d (-1) := .inl ⟨rfl, fun j hj => absurd hj (by omega)⟩

theorem nodes_three (w : World) (T : TypeId) : Nodes (w.alloc (.cells #[.int .i64 (-1), .int .i64 0, .int .i64 40, .bool false, .int .i64 0, .int .i64 10, .int .i64 20, .bool false, .int .i64 0, .int .i64 25, .int .i64 60, .bool false] T)) (some ⟨w.heap.size, 0, none⟩) wl 3 := fun _ => by
  have hA := At.new w (.cells #[.int .i64 (-1), .int .i64 0, .int .i64 40, .bool false, .int .i64 0, .int .i64 10, .int .i64 20, .bool false, .int .i64 0, .int .i64 25, .int .i64 60, .bool false] T)
  refine ⟨w.heap.size, 0, rfl, hA.lt, fun k hk => ?_⟩
  rcases (show k = 0 ∨ k = 1 ∨ k = 2 by omega) with rfl | rfl | rfl
  · exact ⟨hA.cell 0, hA.cell 1, hA.cell 2, hA.cell 3⟩
  · exact ⟨hA.cell 4, hA.cell 5, hA.cell 6, hA.cell 7⟩
  · exact ⟨hA.cell 8, hA.cell 9, hA.cell 10, hA.cell 11⟩

theorem wpick_one {A : Option Addr} {c : Nat} (w : World) (hA : Nodes w A wl 3) : Calls Try.prog 16 #[.slice A 3 c, .agg #[.int .i64 5, .int .i64 30]] w fun e w' => e = .returned (.int .i64 1) ∧ Below w.heap.size w w' :=
  anpick_any w hA (by decide) (.inl ⟨wl_valid, wl_picked⟩)
theorem wpick_nil (w : World) : Calls Try.prog 16 #[.slice none 0 0, .agg #[.int .i64 5, .int .i64 30]] w fun e w' => e = .returned (.int .i64 (-1)) ∧ Below w.heap.size w w' :=
  anpick_any (l := wl) w (Nodes.nil _ _ _) (by decide) (.inl ⟨fun k hk => absurd hk (by omega), nil_picked _ _ _⟩)
theorem wvalid_yes {A : Option Addr} {c : Nat} (w : World) (hA : Nodes w A wl 3) : Calls Try.prog 15 #[.slice A 3 c] w fun e w' => e = .returned (.bool true) ∧ Below w.heap.size w w' :=
  anvalid_any w hA (by decide) (.inl ⟨rfl, wl_valid⟩)
theorem wsight_one (w : World) : Calls Try.prog 13 #[.agg #[.int .i64 0, .int .i64 40], .agg #[.int .i64 5, .int .i64 30]] w fun e w' => e = .returned (.int .i64 1) ∧ Below w.heap.size w w' :=
  ansight_any w (by decide)
theorem wkeep_one (w : World) : Calls Try.prog 17 #[.int .i64 10, .int .i64 5, .int .i64 9, .int .i64 100] w fun e w' => e = .returned (.int .i64 14) ∧ Below w.heap.size w w' :=
  ankeep_any w (by decide)

set_option maxHeartbeats 2000000 in
theorem anworks_any (w : World) : Calls Try.prog 9 #[] w fun e w' => e = .returned (.bool true) ∧ Below w.heap.size w w' := by
  go_enter Try.func9, Try.ntmps9
  go_upto_region 2 with (fail)
  generalize hW : World.alloc _ _ = W0
  have hN : Nodes W0 (some ⟨w.heap.size, 0, none⟩) wl 3 := hW ▸ nodes_three w _
  have hB : Below w.heap.size w W0 := hW ▸ Below.alloc' (Below.refl _ _) _
  clear hW
  go_upto_region 3 with (fail)
  generalize hW : World.alloc _ _ = W1
  have A1 : At W1 W0.heap.size _ := hW ▸ At.new _ _
  have hN1 : Nodes W1 (some ⟨w.heap.size, 0, none⟩) wl 3 := hW ▸ hN.after (Below.alloc' (Below.refl _ _) _)
  have hB1 : Below w.heap.size w W1 := hW ▸ Below.alloc' hB _
  clear hW
  have HA := Lib.hid hN1
  have HB := Lib.hid hB1
  obtain ⟨l1, c1_0, c1_1⟩ := At.two A1
  obtain ⟨b, off, e, hbl, hc⟩ := hN1 (by decide)
  injection e with e
  injection e with e1 e2 e3
  subst e1; subst e2
  have d1 : W1.cell? ⟨w.heap.size, 1, none⟩ = some (.int .i64 0) := (hc 0 (by decide)).2.1
  have d2 : W1.cell? ⟨w.heap.size, 2, none⟩ = some (.int .i64 40) := (hc 0 (by decide)).2.2.1
  clear hc hB1 hN hB
  refine Drawn.wp_region_from (Below.refl _ _) (by kernel_rfl) (by kernel_rfl) (by kernel_rfl) ?_
  (repeat (first | (refine Drawn.seq_skip (by rfl) ?_; (try simp only [Act.put, List.setIfInBounds_toArray, List.set_cons_zero, List.set_cons_succ])) | (refine Drawn.seq_call (o := ⟨_, .call ⟨.value _, _, _⟩, _, _, _, _⟩) (by rfl) (by intro w2 hS; go_simp; first | done | with_reducible rfl | exact ⟨rfl, rfl⟩) (by intro w2 hS; first | ((with_reducible refine (wpick_one _ (HA.out.after hS)).mono ?_); rintro e w' ⟨rfl, hb⟩; exact ⟨rfl, Below.after hS hb⟩) | ((with_reducible refine (wpick_nil _).mono ?_); rintro e w' ⟨rfl, hb⟩; exact ⟨rfl, Below.after hS hb⟩) | ((with_reducible refine (wvalid_yes _ (HA.out.after hS)).mono ?_); rintro e w' ⟨rfl, hb⟩; exact ⟨rfl, Below.after hS hb⟩) | ((with_reducible refine (wsight_one _).mono ?_); rintro e w' ⟨rfl, hb⟩; exact ⟨rfl, Below.after hS hb⟩) | ((with_reducible refine (wkeep_one _).mono ?_); rintro e w' ⟨rfl, hb⟩; exact ⟨rfl, Below.after hS hb⟩)) ?_; (try simp only [Act.put, List.setIfInBounds_toArray, List.set_cons_zero, List.set_cons_succ])) | (refine Drawn.seq_value (by rfl) (by intro w2 hS; obtain ⟨hc, hf⟩ := bcell hS; go_simp; first | done | with_reducible rfl | exact ⟨rfl, rfl⟩) ?_; (try simp only [Act.put, List.setIfInBounds_toArray, List.set_cons_zero, List.set_cons_succ]))))
  refine Drawn.seq_end ?_; intro w2 hS
  go_wp2
  go_ret
  exact ⟨rfl, HB.out.trans (hS.mono (by have := HB.out.size; omega))⟩

theorem an_owns {W w : World} {base : Nat} {e : TypeId} {sz : Nat} {v : Value} {k : Nat} {xs : List Value} (h : W.ownsRow base e sz v k xs) (hb : Below W.heap.size W w) : w.ownsRow base e sz v k xs :=
  h.kept (show W.grownBy w none from ⟨hb.os, hb.tape, hb.output, hb.size, fun k hk _ => hb.block k hk⟩) (by cases hv : v.ownBlock with
    | none => exact .inl rfl
    | some b => exact .inr (by simp))

set_option maxHeartbeats 8000000 in
theorem anof_any (A : Option Addr) (l : Nat → An.Nd) (n c : Nat) (w : World) (hI : Nodes w A l n) (hn : n ≤ 900) :
    Calls Try.prog 10 #[.slice A n c] w fun e w' => (∃ D d, e = .returned (.slice D n d) ∧ Nodes w' D l n) ∧ Below w.heap.size w w' := by
  have HI := Lib.hid hI
  clear hI
  go_enter Try.func10, Try.ntmps10
  go_wp2
  go_loopw [3, 4] (fun v i wr => ∃ k : Nat, k ≤ n ∧ i = .int .i64 k ∧ wr.ownsRow w.heap.size 41 4 v k (flatN l k) ∧ Below w.heap.size w wr) (fun _ i _ => n - (intOf i).toNat)
  case atStart => exact ⟨0, by omega, rfl, World.ownsRow_nil _ _ _ _, Below.refl _ _⟩
  case round =>
    obtain ⟨k, hk, rfl, hown, hB⟩ := hrel
    by_cases hlt : k < n
    · have hltz : (k : Int) < (n : Int) := by omega
      obtain ⟨b, off, rfl, hbl, hc⟩ := HI.out (by omega)
      obtain ⟨c0, c1, c2, c3⟩ := hc k hlt
      clear hc
      have hsz := hB.size
      have hown1 := an_owns hown (w := wr.drew) (Below.refl _ _).drew
      obtain ⟨v', w', hrun, hown2, hB2, hb2⟩ := rappend_node (l := l) hown1 hB.drew (by exact hsz) (by omega)
      have HO := Lib.hid hown2
      have HB2 := Lib.hid hB2
      have HRUN := Lib.hid hrun
      clear hrun hown hown1 hown2 hB2
      generalize (l k).up = x0 at *
      generalize (l k).lo = x1 at *
      generalize (l k).hi = x2 at *
      generalize (l k).skip = x3 at *
      have keep : ∀ W', Below w.heap.size w W' → W'.cell? ⟨b, off + k * 4, none⟩ = some (.int .i64 x0) ∧ W'.cell? ⟨b, off + k * 4 + 1, none⟩ = some (.int .i64 x1) ∧ W'.cell? ⟨b, off + k * 4 + 2, none⟩ = some (.int .i64 x2) ∧ W'.cell? ⟨b, off + k * 4 + 3, none⟩ = some (.bool x3) := fun W' h =>
        ⟨(h.cell (p := ⟨b, off + k * 4, none⟩) hbl).trans c0, (h.cell (p := ⟨b, off + k * 4 + 1, none⟩) hbl).trans c1, (h.cell (p := ⟨b, off + k * 4 + 2, none⟩) hbl).trans c2, (h.cell (p := ⟨b, off + k * 4 + 3, none⟩) hbl).trans c3⟩
      go_upto_region 5 with (fail)
      refine Drawn.wp_region_gen (S := (fun W' => W'.cell? ⟨b, off + k * 4, none⟩ = some (.int .i64 x0) ∧ W'.cell? ⟨b, off + k * 4 + 1, none⟩ = some (.int .i64 x1) ∧ W'.cell? ⟨b, off + k * 4 + 2, none⟩ = some (.int .i64 x2) ∧ W'.cell? ⟨b, off + k * 4 + 3, none⟩ = some (.bool x3))) 19 (by kernel_rfl) ?_ ?_
      · exact keep _ hB.drew
      intro hS0
      (refine Drawn.gen_take (i := 0) rfl (by kernel_rfl) (by kernel_rfl) (by kernel_rfl) (by kernel_rfl) (by omega) (by first | assumption | exact hS0) (by first | exact .inr ⟨by rfl, rfl⟩ | exact .inl ⟨by rfl, by intro w2 hS; obtain ⟨q0, q1, q2, q3⟩ := hS; go_simp; first | done | with_reducible rfl | exact ⟨rfl, rfl⟩⟩) ?_; (try simp only [Act.put, List.setIfInBounds_toArray, List.set_cons_zero, List.set_cons_succ]))
      (refine Drawn.gen_take (i := 1) rfl (by kernel_rfl) (by kernel_rfl) (by kernel_rfl) (by kernel_rfl) (by omega) (by first | assumption | exact hS0) (by first | exact .inr ⟨by rfl, rfl⟩ | exact .inl ⟨by rfl, by intro w2 hS; obtain ⟨q0, q1, q2, q3⟩ := hS; go_simp; first | done | with_reducible rfl | exact ⟨rfl, rfl⟩⟩) ?_; (try simp only [Act.put, List.setIfInBounds_toArray, List.set_cons_zero, List.set_cons_succ]))
      (refine Drawn.gen_take (i := 2) rfl (by kernel_rfl) (by kernel_rfl) (by kernel_rfl) (by kernel_rfl) (by omega) (by first | assumption | exact hS0) (by first | exact .inr ⟨by rfl, rfl⟩ | exact .inl ⟨by rfl, by intro w2 hS; obtain ⟨q0, q1, q2, q3⟩ := hS; go_simp; first | done | with_reducible rfl | exact ⟨rfl, rfl⟩⟩) ?_; (try simp only [Act.put, List.setIfInBounds_toArray, List.set_cons_zero, List.set_cons_succ]))
      (refine Drawn.gen_take (i := 3) rfl (by kernel_rfl) (by kernel_rfl) (by kernel_rfl) (by kernel_rfl) (by omega) (by first | assumption | exact hS0) (by first | exact .inr ⟨by rfl, rfl⟩ | exact .inl ⟨by rfl, by intro w2 hS; obtain ⟨q0, q1, q2, q3⟩ := hS; go_simp; first | done | with_reducible rfl | exact ⟨rfl, rfl⟩⟩) ?_; (try simp only [Act.put, List.setIfInBounds_toArray, List.set_cons_zero, List.set_cons_succ]))
      (refine Drawn.gen_take (i := 4) rfl (by kernel_rfl) (by kernel_rfl) (by kernel_rfl) (by kernel_rfl) (by omega) (by first | assumption | exact hS0) (by first | exact .inr ⟨by rfl, rfl⟩ | exact .inl ⟨by rfl, by intro w2 hS; obtain ⟨q0, q1, q2, q3⟩ := hS; go_simp; first | done | with_reducible rfl | exact ⟨rfl, rfl⟩⟩) ?_; (try simp only [Act.put, List.setIfInBounds_toArray, List.set_cons_zero, List.set_cons_succ]))
      (refine Drawn.gen_take (i := 5) rfl (by kernel_rfl) (by kernel_rfl) (by kernel_rfl) (by kernel_rfl) (by omega) (by first | assumption | exact hS0) (by first | exact .inr ⟨by rfl, rfl⟩ | exact .inl ⟨by rfl, by intro w2 hS; obtain ⟨q0, q1, q2, q3⟩ := hS; go_simp; first | done | with_reducible rfl | exact ⟨rfl, rfl⟩⟩) ?_; (try simp only [Act.put, List.setIfInBounds_toArray, List.set_cons_zero, List.set_cons_succ]))
      (refine Drawn.gen_take (i := 6) rfl (by kernel_rfl) (by kernel_rfl) (by kernel_rfl) (by kernel_rfl) (by omega) (by first | assumption | exact hS0) (by first | exact .inr ⟨by rfl, rfl⟩ | exact .inl ⟨by rfl, by intro w2 hS; obtain ⟨q0, q1, q2, q3⟩ := hS; go_simp; first | done | with_reducible rfl | exact ⟨rfl, rfl⟩⟩) ?_; (try simp only [Act.put, List.setIfInBounds_toArray, List.set_cons_zero, List.set_cons_succ]))
      (refine Drawn.gen_take (i := 7) rfl (by kernel_rfl) (by kernel_rfl) (by kernel_rfl) (by kernel_rfl) (by omega) (by first | assumption | exact hS0) (by first | exact .inr ⟨by rfl, rfl⟩ | exact .inl ⟨by rfl, by intro w2 hS; obtain ⟨q0, q1, q2, q3⟩ := hS; go_simp; first | done | with_reducible rfl | exact ⟨rfl, rfl⟩⟩) ?_; (try simp only [Act.put, List.setIfInBounds_toArray, List.set_cons_zero, List.set_cons_succ]))
      (refine Drawn.gen_take (i := 8) rfl (by kernel_rfl) (by kernel_rfl) (by kernel_rfl) (by kernel_rfl) (by omega) (by first | assumption | exact hS0) (by first | exact .inr ⟨by rfl, rfl⟩ | exact .inl ⟨by rfl, by intro w2 hS; obtain ⟨q0, q1, q2, q3⟩ := hS; go_simp; first | done | with_reducible rfl | exact ⟨rfl, rfl⟩⟩) ?_; (try simp only [Act.put, List.setIfInBounds_toArray, List.set_cons_zero, List.set_cons_succ]))
      (refine Drawn.gen_take (i := 9) rfl (by kernel_rfl) (by kernel_rfl) (by kernel_rfl) (by kernel_rfl) (by omega) (by first | assumption | exact hS0) (by first | exact .inr ⟨by rfl, rfl⟩ | exact .inl ⟨by rfl, by intro w2 hS; obtain ⟨q0, q1, q2, q3⟩ := hS; go_simp; first | done | with_reducible rfl | exact ⟨rfl, rfl⟩⟩) ?_; (try simp only [Act.put, List.setIfInBounds_toArray, List.set_cons_zero, List.set_cons_succ]))
      (refine Drawn.gen_take (i := 10) rfl (by kernel_rfl) (by kernel_rfl) (by kernel_rfl) (by kernel_rfl) (by omega) (by first | assumption | exact hS0) (by first | exact .inr ⟨by rfl, rfl⟩ | exact .inl ⟨by rfl, by intro w2 hS; obtain ⟨q0, q1, q2, q3⟩ := hS; go_simp; first | done | with_reducible rfl | exact ⟨rfl, rfl⟩⟩) ?_; (try simp only [Act.put, List.setIfInBounds_toArray, List.set_cons_zero, List.set_cons_succ]))
      (refine Drawn.gen_take (i := 11) rfl (by kernel_rfl) (by kernel_rfl) (by kernel_rfl) (by kernel_rfl) (by omega) (by first | assumption | exact hS0) (by first | exact .inr ⟨by rfl, rfl⟩ | exact .inl ⟨by rfl, by intro w2 hS; obtain ⟨q0, q1, q2, q3⟩ := hS; go_simp; first | done | with_reducible rfl | exact ⟨rfl, rfl⟩⟩) ?_; (try simp only [Act.put, List.setIfInBounds_toArray, List.set_cons_zero, List.set_cons_succ]))
      (refine Drawn.gen_take (i := 12) rfl (by kernel_rfl) (by kernel_rfl) (by kernel_rfl) (by kernel_rfl) (by omega) (by first | assumption | exact hS0) (by first | exact .inr ⟨by rfl, rfl⟩ | exact .inl ⟨by rfl, by intro w2 hS; obtain ⟨q0, q1, q2, q3⟩ := hS; go_simp; first | done | with_reducible rfl | exact ⟨rfl, rfl⟩⟩) ?_; (try simp only [Act.put, List.setIfInBounds_toArray, List.set_cons_zero, List.set_cons_succ]))
      (refine Drawn.gen_take (i := 13) rfl (by kernel_rfl) (by kernel_rfl) (by kernel_rfl) (by kernel_rfl) (by omega) (by first | assumption | exact hS0) (by first | exact .inr ⟨by rfl, rfl⟩ | exact .inl ⟨by rfl, by intro w2 hS; obtain ⟨q0, q1, q2, q3⟩ := hS; go_simp; first | done | with_reducible rfl | exact ⟨rfl, rfl⟩⟩) ?_; (try simp only [Act.put, List.setIfInBounds_toArray, List.set_cons_zero, List.set_cons_succ]))
      (refine Drawn.gen_take (i := 14) rfl (by kernel_rfl) (by kernel_rfl) (by kernel_rfl) (by kernel_rfl) (by omega) (by first | assumption | exact hS0) (by first | exact .inr ⟨by rfl, rfl⟩ | exact .inl ⟨by rfl, by intro w2 hS; obtain ⟨q0, q1, q2, q3⟩ := hS; go_simp; first | done | with_reducible rfl | exact ⟨rfl, rfl⟩⟩) ?_; (try simp only [Act.put, List.setIfInBounds_toArray, List.set_cons_zero, List.set_cons_succ]))
      (refine Drawn.gen_take (i := 15) rfl (by kernel_rfl) (by kernel_rfl) (by kernel_rfl) (by kernel_rfl) (by omega) (by first | assumption | exact hS0) (by first | exact .inr ⟨by rfl, rfl⟩ | exact .inl ⟨by rfl, by intro w2 hS; obtain ⟨q0, q1, q2, q3⟩ := hS; go_simp; first | done | with_reducible rfl | exact ⟨rfl, rfl⟩⟩) ?_; (try simp only [Act.put, List.setIfInBounds_toArray, List.set_cons_zero, List.set_cons_succ]))
      (refine Drawn.gen_take (i := 16) rfl (by kernel_rfl) (by kernel_rfl) (by kernel_rfl) (by kernel_rfl) (by omega) (by first | assumption | exact hS0) (by first | exact .inr ⟨by rfl, rfl⟩ | exact .inl ⟨by rfl, by intro w2 hS; obtain ⟨q0, q1, q2, q3⟩ := hS; go_simp; first | done | with_reducible rfl | exact ⟨rfl, rfl⟩⟩) ?_; (try simp only [Act.put, List.setIfInBounds_toArray, List.set_cons_zero, List.set_cons_succ]))
      refine Drawn.gen_one (i := 17) (by kernel_rfl) rfl (by rfl) ?_
      refine Drawn.Step.value (by go_simp; first | done | with_reducible rfl | exact ⟨rfl, rfl⟩) ?_; refine ⟨by first | (intro hlt; exact absurd hlt (by decide)) | (intro _; exact keep _ (Below.alloc' hB.drew _)), ?_⟩; (try simp only [Act.put, List.setIfInBounds_toArray, List.set_cons_zero, List.set_cons_succ])
      refine Drawn.gen_one (i := 18) (by kernel_rfl) rfl (by rfl) ?_
      refine Drawn.Step.value (run_append_op (.tmp 11) (.tmp 28) 26 rfl rfl rfl HRUN.out) ⟨fun _ => keep _ HB2.out, ?_⟩
      (try simp only [Act.put, List.setIfInBounds_toArray, List.set_cons_zero, List.set_cons_succ])
      refine Drawn.gen_one (i := 19) (by kernel_rfl) rfl (by rfl) ?_
      refine Drawn.Step.value (by go_simp; first | done | with_reducible rfl | exact ⟨rfl, rfl⟩) ?_; refine ⟨by first | (intro hlt; exact absurd hlt (by decide)) | (intro _; omega), ?_⟩; (try simp only [Act.put, List.setIfInBounds_toArray, List.set_cons_zero, List.set_cons_succ])
      refine Drawn.gen_end (by kernel_rfl) ?_
      go_wp2
      go_roundw
      case rel => exact ⟨k + 1, by omega, by go_num, HO.out, HB2.out⟩
      case measure => simp [intOf]; omega
    · obtain rfl : k = n := by omega
      have hltz : ¬ (k : Int) < (k : Int) := by omega
      obtain ⟨D, d, rfl, hID⟩ := rnodes_of_own hown
      go_wp2
      refine bodyPost_ret (v := .slice D k d) (by simp [results, Try.results10, go_sem, *]; first | done | exact ⟨rfl, rfl⟩ | rfl) rfl ⟨⟨D, ⟨d, rfl⟩, hID⟩, hB⟩

end Go.Proofs.Ytnoofdojbgkmkaa.Fix
