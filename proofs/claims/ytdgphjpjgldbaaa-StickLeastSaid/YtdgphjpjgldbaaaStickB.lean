/- The contracts of Sides and Both of the layer stick (and of the document's own answers for them). Written by wip/tools/genstb.py. -/
import Derived.Test.YtdgphjpjgldbaaaStick
import Derived.LoopN
import Derived.Deep.Cut
namespace Go.Proofs.Ytdgphjpjgldbaaa.Fix
open Go.ChangeShapes Go.WideShapes Go.ChangeAt Go.RowKit
set_option linter.unusedVariables false
set_option linter.unusedSimpArgs false


theorem ret_eight {a b c d a' b' c' d' : Value} {x y z u x' y' z' u' : Value} (h1 : a = a') (h2 : b = b') (h3 : c = c') (h4 : d = d') (g1 : x = x') (g2 : y = y') (g3 : z = z') (g4 : u = u') : Ending.returned (.agg #[a, x, b, y, c, z, d, u]) = .returned (.agg #[a', x', b', y', c', z', d', u']) := by rw [h1, h2, h3, h4, g1, g2, g3, g4]

set_option maxRecDepth 100000 in
set_option maxHeartbeats 4000000 in
theorem stsides_any (k0 n0 k1 n1 k2 n2 k3 n3 wi hi : Int) (w : World) : Calls Try.prog 13 #[.agg #[.int .i64 k0, .int .i64 n0, .int .i64 k1, .int .i64 n1, .int .i64 k2, .int .i64 n2, .int .i64 k3, .int .i64 n3], .int .i64 wi, .int .i64 hi] w fun e w' => e = .returned (.agg #[.bool (Fx.fixd k0 hi), .int .i64 (Fx.len k0 n0 hi 0), .bool (Fx.fixd k1 wi), .int .i64 (Fx.len k1 n1 wi 0), .bool (Fx.fixd k2 hi), .int .i64 (Fx.len k2 n2 hi 0), .bool (Fx.fixd k3 wi), .int .i64 (Fx.len k3 n3 wi 0)]) ∧ Below w.heap.size w w' := by
  have i0 : ∀ w : World, (Instr.index 53 (.agg #[.int .i64 hi, .int .i64 wi, .int .i64 hi, .int .i64 wi]) (.int .i64 0)).run Try.prog w = .ok (.int .i64 hi) w := fun _ => by kernel_rfl
  have i1 : ∀ w : World, (Instr.index 53 (.agg #[.int .i64 hi, .int .i64 wi, .int .i64 hi, .int .i64 wi]) (.int .i64 1)).run Try.prog w = .ok (.int .i64 wi) w := fun _ => by kernel_rfl
  have i2 : ∀ w : World, (Instr.index 53 (.agg #[.int .i64 hi, .int .i64 wi, .int .i64 hi, .int .i64 wi]) (.int .i64 2)).run Try.prog w = .ok (.int .i64 hi) w := fun _ => by kernel_rfl
  have i3 : ∀ w : World, (Instr.index 53 (.agg #[.int .i64 hi, .int .i64 wi, .int .i64 hi, .int .i64 wi]) (.int .i64 3)).run Try.prog w = .ok (.int .i64 wi) w := fun _ => by kernel_rfl
  go_enter Try.func13, Try.ntmps13
  go_upto_region 1 with (fail)
  (generalize hW : World.alloc (World.alloc w _) _ = W0; have A0 : At W0 (w.heap.size) (.cells #[.int .i64 k0, .int .i64 n0, .int .i64 k1, .int .i64 n1, .int .i64 k2, .int .i64 n2, .int .i64 k3, .int .i64 n3] 37) := (by ((rw [← hW]) <;> exact At.alloc (At.new' _ (by first | done | rfl | simp)) _)); have A1 : At W0 (w.heap.size + 1) (.cells #[.bool false, .int .i64 0, .bool false, .int .i64 0, .bool false, .int .i64 0, .bool false, .int .i64 0] 38) := (by ((rw [← hW]) <;> exact At.new' _ (by first | done | rfl | simp))); have hB : Below w.heap.size w W0 := (by ((rw [← hW]) <;> exact Below.alloc' (Below.alloc' (Below.refl _ _) _) _)); clear hW; obtain ⟨l0, c0_0, c0_1, c0_2, c0_3, c0_4, c0_5, c0_6, c0_7⟩ := At.eight A0; obtain ⟨l1, c1_0, c1_1, c1_2, c1_3, c1_4, c1_5, c1_6, c1_7⟩ := At.eight A1; have z1_0 := A1.thaw 0; have z1_1 := A1.thaw 1; have z1_2 := A1.thaw 2; have z1_3 := A1.thaw 3; have z1_4 := A1.thaw 4; have z1_5 := A1.thaw 5; have z1_6 := A1.thaw 6; have z1_7 := A1.thaw 7)
  go_upto_region 2 with (fail)
  (generalize hW : World.alloc _ _ = W1; clear l0 c0_0 c0_1 c0_2 c0_3 c0_4 c0_5 c0_6 c0_7 l1 c1_0 c1_1 c1_2 c1_3 c1_4 c1_5 c1_6 c1_7 z1_0 z1_1 z1_2 z1_3 z1_4 z1_5 z1_6 z1_7; have A2 : At W1 _ _ := hW ▸ At.new _ _; replace A0 : At W1 _ _ := hW ▸ At.alloc A0 _; replace A1 : At W1 _ _ := hW ▸ At.alloc A1 _; replace hB : Below w.heap.size w W1 := hW ▸ Below.alloc' hB _; clear hW; obtain ⟨l0, c0_0, c0_1, c0_2, c0_3, c0_4, c0_5, c0_6, c0_7⟩ := At.eight A0; obtain ⟨l1, c1_0, c1_1, c1_2, c1_3, c1_4, c1_5, c1_6, c1_7⟩ := At.eight A1; have z1_0 := A1.thaw 0; have z1_1 := A1.thaw 1; have z1_2 := A1.thaw 2; have z1_3 := A1.thaw 3; have z1_4 := A1.thaw 4; have z1_5 := A1.thaw 5; have z1_6 := A1.thaw 6; have z1_7 := A1.thaw 7; obtain ⟨l2, c2_0, c2_1, c2_2, c2_3⟩ := At.four A2)
  have e0 := l0
  have e1 := l1
  have e2 := l2
  go_upto_region 3 with (fail)
  (generalize hW : World.alloc _ _ = W2; clear l0 c0_0 c0_1 c0_2 c0_3 c0_4 c0_5 c0_6 c0_7 l1 c1_0 c1_1 c1_2 c1_3 c1_4 c1_5 c1_6 c1_7 z1_0 z1_1 z1_2 z1_3 z1_4 z1_5 z1_6 z1_7 l2 c2_0 c2_1 c2_2 c2_3; have A3 : At W2 _ _ := hW ▸ At.new _ _; replace A0 : At W2 _ _ := hW ▸ At.alloc A0 _; replace A1 : At W2 _ _ := hW ▸ At.alloc A1 _; replace A2 : At W2 _ _ := hW ▸ At.alloc A2 _; replace hB : Below w.heap.size w W2 := hW ▸ Below.alloc' hB _; clear hW; obtain ⟨l0, c0_0, c0_1, c0_2, c0_3, c0_4, c0_5, c0_6, c0_7⟩ := At.eight A0; obtain ⟨l1, c1_0, c1_1, c1_2, c1_3, c1_4, c1_5, c1_6, c1_7⟩ := At.eight A1; have z1_0 := A1.thaw 0; have z1_1 := A1.thaw 1; have z1_2 := A1.thaw 2; have z1_3 := A1.thaw 3; have z1_4 := A1.thaw 4; have z1_5 := A1.thaw 5; have z1_6 := A1.thaw 6; have z1_7 := A1.thaw 7; obtain ⟨l2, c2_0, c2_1, c2_2, c2_3⟩ := At.four A2; obtain ⟨l3, c3_0, c3_1, c3_2, c3_3, c3_4, c3_5, c3_6, c3_7⟩ := At.eight A3; have z3_0 := A3.thaw 0; have z3_1 := A3.thaw 1; have z3_2 := A3.thaw 2; have z3_3 := A3.thaw 3; have z3_4 := A3.thaw 4; have z3_5 := A3.thaw 5; have z3_6 := A3.thaw 6; have z3_7 := A3.thaw 7)
  (clear l3 c3_0 c3_1 c3_2 c3_3 c3_4 c3_5 c3_6 c3_7 z3_0 z3_1 z3_2 z3_3 z3_4 z3_5 z3_6 z3_7; generalize hb3 : W1.heap.size = b3 at *; obtain ⟨l3, c3_0, c3_1, c3_2, c3_3, c3_4, c3_5, c3_6, c3_7⟩ := At.eight A3)
  have z3_0 := A3.thaw 0
  have z3_1 := A3.thaw 1
  have z3_2 := A3.thaw 2
  have z3_3 := A3.thaw 3
  have z3_4 := A3.thaw 4
  have z3_5 := A3.thaw 5
  have z3_6 := A3.thaw 6
  have z3_7 := A3.thaw 7
  go_wp2
  refine wp_loop_rounds 5 ?_
  rw [rounds_succ]
  go_upto_region 6 with (fail)
  refine Drawn.wp_region_tail 13 1 (Below.refl _ _) (by kernel_rfl) (by kernel_rfl) rfl (by kernel_rfl) (by kernel_rfl) ?_
  (repeat (first | (refine Drawn.seq_skip (by rfl) ?_; (try simp only [Act.put, List.setIfInBounds_toArray, List.set_cons_zero, List.set_cons_succ])) | (refine Drawn.seq_call (o := ⟨_, .call ⟨.value _, _, _⟩, _, _, _, _⟩) (by rfl) (by intro w2 hS; go_simp; first | done | with_reducible rfl | exact ⟨rfl, rfl⟩) (by intro w2 hS; first | ((with_reducible refine (fixed_any _ _ _ _).mono ?_); rintro e w' ⟨rfl, hb⟩; exact ⟨rfl, Below.after hS hb⟩) | ((with_reducible refine (len_any _ _ _ _ _).mono ?_); rintro e w' ⟨rfl, hb⟩; exact ⟨rfl, Below.after hS hb⟩)) ?_; (try simp only [Act.put, List.setIfInBounds_toArray, List.set_cons_zero, List.set_cons_succ])) | (refine Drawn.seq_value (by rfl) (by intro w2 hS; obtain ⟨hc, hf⟩ := bcell hS; go_simp; first | done | with_reducible rfl | exact ⟨rfl, rfl⟩) ?_; (try simp only [Act.put, List.setIfInBounds_toArray, List.set_cons_zero, List.set_cons_succ]))))
  refine Drawn.seq_tail ?_; intro w2 hS
  (clear l0 c0_0 c0_1 c0_2 c0_3 c0_4 c0_5 c0_6 c0_7 l1 c1_0 c1_1 c1_2 c1_3 c1_4 c1_5 c1_6 c1_7 z1_0 z1_1 z1_2 z1_3 z1_4 z1_5 z1_6 z1_7 l2 c2_0 c2_1 c2_2 c2_3 l3 c3_0 c3_1 c3_2 c3_3 c3_4 c3_5 c3_6 c3_7 z3_0 z3_1 z3_2 z3_3 z3_4 z3_5 z3_6 z3_7); (replace hB := Below.after2 (by first | exact hB | exact Below.alloc' hB _ | exact Below.alloc' (Below.alloc' hB _) _) (Nat.le_refl _) hS); replace A0 := At.keep (by first | exact A0 | exact At.alloc A0 _ | exact At.alloc (At.alloc A0 _) _) hS; replace A1 := At.keep (by first | exact A1 | exact At.alloc A1 _ | exact At.alloc (At.alloc A1 _) _) hS; replace A2 := At.keep (by first | exact A2 | exact At.alloc A2 _ | exact At.alloc (At.alloc A2 _) _) hS; replace A3 := At.keep (by first | exact A3 | exact At.alloc A3 _ | exact At.alloc (At.alloc A3 _) _) hS; clear hS; obtain ⟨l0, c0_0, c0_1, c0_2, c0_3, c0_4, c0_5, c0_6, c0_7⟩ := At.eight A0; obtain ⟨l1, c1_0, c1_1, c1_2, c1_3, c1_4, c1_5, c1_6, c1_7⟩ := At.eight A1; have z1_0 := A1.thaw 0; have z1_1 := A1.thaw 1; have z1_2 := A1.thaw 2; have z1_3 := A1.thaw 3; have z1_4 := A1.thaw 4; have z1_5 := A1.thaw 5; have z1_6 := A1.thaw 6; have z1_7 := A1.thaw 7; obtain ⟨l2, c2_0, c2_1, c2_2, c2_3⟩ := At.four A2; obtain ⟨l3, c3_0, c3_1, c3_2, c3_3, c3_4, c3_5, c3_6, c3_7⟩ := At.eight A3; have z3_0 := A3.thaw 0; have z3_1 := A3.thaw 1; have z3_2 := A3.thaw 2; have z3_3 := A3.thaw 3; have z3_4 := A3.thaw 4; have z3_5 := A3.thaw 5; have z3_6 := A3.thaw 6; have z3_7 := A3.thaw 7
  refine Drawn.text_cons (by rfl) ?_; intro K hK; go_simp; refine hK _ _ (Drawn.text_nil ?_); clear hK K
  generalize hW : World.setCell (World.setCell _ _ _) _ _ = V0
  clear l0 c0_0 c0_1 c0_2 c0_3 c0_4 c0_5 c0_6 c0_7 l1 c1_0 c1_1 c1_2 c1_3 c1_4 c1_5 c1_6 c1_7 z1_0 z1_1 z1_2 z1_3 z1_4 z1_5 z1_6 z1_7 l2 c2_0 c2_1 c2_2 c2_3 l3 c3_0 c3_1 c3_2 c3_3 c3_4 c3_5 c3_6 c3_7 z3_0 z3_1 z3_2 z3_3 z3_4 z3_5 z3_6 z3_7
  have A3' := At.set (At.set A3 0 (.bool (Fx.fixd k0 hi))) 1 (.int .i64 (Fx.len k0 n0 hi 0))
  have A0' := At.off (At.off A0 (n := b3) (by omega) 0 (.bool (Fx.fixd k0 hi))) (n := b3) (by omega) 1 (.int .i64 (Fx.len k0 n0 hi 0))
  have A1' := At.off (At.off A1 (n := b3) (by omega) 0 (.bool (Fx.fixd k0 hi))) (n := b3) (by omega) 1 (.int .i64 (Fx.len k0 n0 hi 0))
  have A2' := At.off (At.off A2 (n := b3) (by omega) 0 (.bool (Fx.fixd k0 hi))) (n := b3) (by omega) 1 (.int .i64 (Fx.len k0 n0 hi 0))
  rw [hW] at A0' A1' A2' A3'
  clear A0 A1 A2 A3
  have A0 := A0'
  have A1 := A1'
  have A2 := A2'
  have A3 : At V0 b3 (.cells #[.bool (Fx.fixd k0 hi), .int .i64 (Fx.len k0 n0 hi 0), .bool false, .int .i64 0, .bool false, .int .i64 0, .bool false, .int .i64 0] 38) := A3'
  clear A0' A1' A2' A3'
  replace hB : Below w.heap.size w V0 := hW ▸ Below.setCell (Below.setCell hB (by simp; omega) _) (by simp; omega) _
  clear hW
  obtain ⟨l0, c0_0, c0_1, c0_2, c0_3, c0_4, c0_5, c0_6, c0_7⟩ := At.eight A0
  obtain ⟨l1, c1_0, c1_1, c1_2, c1_3, c1_4, c1_5, c1_6, c1_7⟩ := At.eight A1
  obtain ⟨l2, c2_0, c2_1, c2_2, c2_3⟩ := At.four A2
  obtain ⟨l3, c3_0, c3_1, c3_2, c3_3, c3_4, c3_5, c3_6, c3_7⟩ := At.eight A3
  have z1_0 := A1.thaw 0
  have z1_1 := A1.thaw 1
  have z1_2 := A1.thaw 2
  have z1_3 := A1.thaw 3
  have z1_4 := A1.thaw 4
  have z1_5 := A1.thaw 5
  have z1_6 := A1.thaw 6
  have z1_7 := A1.thaw 7
  have z3_0 := A3.thaw 0
  have z3_1 := A3.thaw 1
  have z3_2 := A3.thaw 2
  have z3_3 := A3.thaw 3
  have z3_4 := A3.thaw 4
  have z3_5 := A3.thaw 5
  have z3_6 := A3.thaw 6
  have z3_7 := A3.thaw 7
  go_wp2
  rw [rounds_succ]
  go_upto_region 6 with (fail)
  refine Drawn.wp_region_tail 13 1 (Below.refl _ _) (by kernel_rfl) (by kernel_rfl) rfl (by kernel_rfl) (by kernel_rfl) ?_
  (repeat (first | (refine Drawn.seq_skip (by rfl) ?_; (try simp only [Act.put, List.setIfInBounds_toArray, List.set_cons_zero, List.set_cons_succ])) | (refine Drawn.seq_call (o := ⟨_, .call ⟨.value _, _, _⟩, _, _, _, _⟩) (by rfl) (by intro w2 hS; go_simp; first | done | with_reducible rfl | exact ⟨rfl, rfl⟩) (by intro w2 hS; first | ((with_reducible refine (fixed_any _ _ _ _).mono ?_); rintro e w' ⟨rfl, hb⟩; exact ⟨rfl, Below.after hS hb⟩) | ((with_reducible refine (len_any _ _ _ _ _).mono ?_); rintro e w' ⟨rfl, hb⟩; exact ⟨rfl, Below.after hS hb⟩)) ?_; (try simp only [Act.put, List.setIfInBounds_toArray, List.set_cons_zero, List.set_cons_succ])) | (refine Drawn.seq_value (by rfl) (by intro w2 hS; obtain ⟨hc, hf⟩ := bcell hS; go_simp; first | done | with_reducible rfl | exact ⟨rfl, rfl⟩) ?_; (try simp only [Act.put, List.setIfInBounds_toArray, List.set_cons_zero, List.set_cons_succ]))))
  refine Drawn.seq_tail ?_; intro w2 hS
  (clear l0 c0_0 c0_1 c0_2 c0_3 c0_4 c0_5 c0_6 c0_7 l1 c1_0 c1_1 c1_2 c1_3 c1_4 c1_5 c1_6 c1_7 z1_0 z1_1 z1_2 z1_3 z1_4 z1_5 z1_6 z1_7 l2 c2_0 c2_1 c2_2 c2_3 l3 c3_0 c3_1 c3_2 c3_3 c3_4 c3_5 c3_6 c3_7 z3_0 z3_1 z3_2 z3_3 z3_4 z3_5 z3_6 z3_7); (replace hB := Below.after2 (by first | exact hB | exact Below.alloc' hB _ | exact Below.alloc' (Below.alloc' hB _) _) (Nat.le_refl _) hS); replace A0 := At.keep (by first | exact A0 | exact At.alloc A0 _ | exact At.alloc (At.alloc A0 _) _) hS; replace A1 := At.keep (by first | exact A1 | exact At.alloc A1 _ | exact At.alloc (At.alloc A1 _) _) hS; replace A2 := At.keep (by first | exact A2 | exact At.alloc A2 _ | exact At.alloc (At.alloc A2 _) _) hS; replace A3 := At.keep (by first | exact A3 | exact At.alloc A3 _ | exact At.alloc (At.alloc A3 _) _) hS; clear hS; obtain ⟨l0, c0_0, c0_1, c0_2, c0_3, c0_4, c0_5, c0_6, c0_7⟩ := At.eight A0; obtain ⟨l1, c1_0, c1_1, c1_2, c1_3, c1_4, c1_5, c1_6, c1_7⟩ := At.eight A1; have z1_0 := A1.thaw 0; have z1_1 := A1.thaw 1; have z1_2 := A1.thaw 2; have z1_3 := A1.thaw 3; have z1_4 := A1.thaw 4; have z1_5 := A1.thaw 5; have z1_6 := A1.thaw 6; have z1_7 := A1.thaw 7; obtain ⟨l2, c2_0, c2_1, c2_2, c2_3⟩ := At.four A2; obtain ⟨l3, c3_0, c3_1, c3_2, c3_3, c3_4, c3_5, c3_6, c3_7⟩ := At.eight A3; have z3_0 := A3.thaw 0; have z3_1 := A3.thaw 1; have z3_2 := A3.thaw 2; have z3_3 := A3.thaw 3; have z3_4 := A3.thaw 4; have z3_5 := A3.thaw 5; have z3_6 := A3.thaw 6; have z3_7 := A3.thaw 7
  refine Drawn.text_cons (by rfl) ?_; intro K hK; go_simp; refine hK _ _ (Drawn.text_nil ?_); clear hK K
  generalize hW : World.setCell (World.setCell _ _ _) _ _ = V1
  clear l0 c0_0 c0_1 c0_2 c0_3 c0_4 c0_5 c0_6 c0_7 l1 c1_0 c1_1 c1_2 c1_3 c1_4 c1_5 c1_6 c1_7 z1_0 z1_1 z1_2 z1_3 z1_4 z1_5 z1_6 z1_7 l2 c2_0 c2_1 c2_2 c2_3 l3 c3_0 c3_1 c3_2 c3_3 c3_4 c3_5 c3_6 c3_7 z3_0 z3_1 z3_2 z3_3 z3_4 z3_5 z3_6 z3_7
  have A3' := At.set (At.set A3 2 (.bool (Fx.fixd k1 wi))) 3 (.int .i64 (Fx.len k1 n1 wi 0))
  have A0' := At.off (At.off A0 (n := b3) (by omega) 2 (.bool (Fx.fixd k1 wi))) (n := b3) (by omega) 3 (.int .i64 (Fx.len k1 n1 wi 0))
  have A1' := At.off (At.off A1 (n := b3) (by omega) 2 (.bool (Fx.fixd k1 wi))) (n := b3) (by omega) 3 (.int .i64 (Fx.len k1 n1 wi 0))
  have A2' := At.off (At.off A2 (n := b3) (by omega) 2 (.bool (Fx.fixd k1 wi))) (n := b3) (by omega) 3 (.int .i64 (Fx.len k1 n1 wi 0))
  rw [hW] at A0' A1' A2' A3'
  clear A0 A1 A2 A3
  have A0 := A0'
  have A1 := A1'
  have A2 := A2'
  have A3 : At V1 b3 (.cells #[.bool (Fx.fixd k0 hi), .int .i64 (Fx.len k0 n0 hi 0), .bool (Fx.fixd k1 wi), .int .i64 (Fx.len k1 n1 wi 0), .bool false, .int .i64 0, .bool false, .int .i64 0] 38) := A3'
  clear A0' A1' A2' A3'
  replace hB : Below w.heap.size w V1 := hW ▸ Below.setCell (Below.setCell hB (by simp; omega) _) (by simp; omega) _
  clear hW
  obtain ⟨l0, c0_0, c0_1, c0_2, c0_3, c0_4, c0_5, c0_6, c0_7⟩ := At.eight A0
  obtain ⟨l1, c1_0, c1_1, c1_2, c1_3, c1_4, c1_5, c1_6, c1_7⟩ := At.eight A1
  obtain ⟨l2, c2_0, c2_1, c2_2, c2_3⟩ := At.four A2
  obtain ⟨l3, c3_0, c3_1, c3_2, c3_3, c3_4, c3_5, c3_6, c3_7⟩ := At.eight A3
  have z1_0 := A1.thaw 0
  have z1_1 := A1.thaw 1
  have z1_2 := A1.thaw 2
  have z1_3 := A1.thaw 3
  have z1_4 := A1.thaw 4
  have z1_5 := A1.thaw 5
  have z1_6 := A1.thaw 6
  have z1_7 := A1.thaw 7
  have z3_0 := A3.thaw 0
  have z3_1 := A3.thaw 1
  have z3_2 := A3.thaw 2
  have z3_3 := A3.thaw 3
  have z3_4 := A3.thaw 4
  have z3_5 := A3.thaw 5
  have z3_6 := A3.thaw 6
  have z3_7 := A3.thaw 7
  go_wp2
  rw [rounds_succ]
  go_upto_region 6 with (fail)
  refine Drawn.wp_region_tail 13 1 (Below.refl _ _) (by kernel_rfl) (by kernel_rfl) rfl (by kernel_rfl) (by kernel_rfl) ?_
  (repeat (first | (refine Drawn.seq_skip (by rfl) ?_; (try simp only [Act.put, List.setIfInBounds_toArray, List.set_cons_zero, List.set_cons_succ])) | (refine Drawn.seq_call (o := ⟨_, .call ⟨.value _, _, _⟩, _, _, _, _⟩) (by rfl) (by intro w2 hS; go_simp; first | done | with_reducible rfl | exact ⟨rfl, rfl⟩) (by intro w2 hS; first | ((with_reducible refine (fixed_any _ _ _ _).mono ?_); rintro e w' ⟨rfl, hb⟩; exact ⟨rfl, Below.after hS hb⟩) | ((with_reducible refine (len_any _ _ _ _ _).mono ?_); rintro e w' ⟨rfl, hb⟩; exact ⟨rfl, Below.after hS hb⟩)) ?_; (try simp only [Act.put, List.setIfInBounds_toArray, List.set_cons_zero, List.set_cons_succ])) | (refine Drawn.seq_value (by rfl) (by intro w2 hS; obtain ⟨hc, hf⟩ := bcell hS; go_simp; first | done | with_reducible rfl | exact ⟨rfl, rfl⟩) ?_; (try simp only [Act.put, List.setIfInBounds_toArray, List.set_cons_zero, List.set_cons_succ]))))
  refine Drawn.seq_tail ?_; intro w2 hS
  (clear l0 c0_0 c0_1 c0_2 c0_3 c0_4 c0_5 c0_6 c0_7 l1 c1_0 c1_1 c1_2 c1_3 c1_4 c1_5 c1_6 c1_7 z1_0 z1_1 z1_2 z1_3 z1_4 z1_5 z1_6 z1_7 l2 c2_0 c2_1 c2_2 c2_3 l3 c3_0 c3_1 c3_2 c3_3 c3_4 c3_5 c3_6 c3_7 z3_0 z3_1 z3_2 z3_3 z3_4 z3_5 z3_6 z3_7); (replace hB := Below.after2 (by first | exact hB | exact Below.alloc' hB _ | exact Below.alloc' (Below.alloc' hB _) _) (Nat.le_refl _) hS); replace A0 := At.keep (by first | exact A0 | exact At.alloc A0 _ | exact At.alloc (At.alloc A0 _) _) hS; replace A1 := At.keep (by first | exact A1 | exact At.alloc A1 _ | exact At.alloc (At.alloc A1 _) _) hS; replace A2 := At.keep (by first | exact A2 | exact At.alloc A2 _ | exact At.alloc (At.alloc A2 _) _) hS; replace A3 := At.keep (by first | exact A3 | exact At.alloc A3 _ | exact At.alloc (At.alloc A3 _) _) hS; clear hS; obtain ⟨l0, c0_0, c0_1, c0_2, c0_3, c0_4, c0_5, c0_6, c0_7⟩ := At.eight A0; obtain ⟨l1, c1_0, c1_1, c1_2, c1_3, c1_4, c1_5, c1_6, c1_7⟩ := At.eight A1; have z1_0 := A1.thaw 0; have z1_1 := A1.thaw 1; have z1_2 := A1.thaw 2; have z1_3 := A1.thaw 3; have z1_4 := A1.thaw 4; have z1_5 := A1.thaw 5; have z1_6 := A1.thaw 6; have z1_7 := A1.thaw 7; obtain ⟨l2, c2_0, c2_1, c2_2, c2_3⟩ := At.four A2; obtain ⟨l3, c3_0, c3_1, c3_2, c3_3, c3_4, c3_5, c3_6, c3_7⟩ := At.eight A3; have z3_0 := A3.thaw 0; have z3_1 := A3.thaw 1; have z3_2 := A3.thaw 2; have z3_3 := A3.thaw 3; have z3_4 := A3.thaw 4; have z3_5 := A3.thaw 5; have z3_6 := A3.thaw 6; have z3_7 := A3.thaw 7
  refine Drawn.text_cons (by rfl) ?_; intro K hK; go_simp; refine hK _ _ (Drawn.text_nil ?_); clear hK K
  generalize hW : World.setCell (World.setCell _ _ _) _ _ = V2
  clear l0 c0_0 c0_1 c0_2 c0_3 c0_4 c0_5 c0_6 c0_7 l1 c1_0 c1_1 c1_2 c1_3 c1_4 c1_5 c1_6 c1_7 z1_0 z1_1 z1_2 z1_3 z1_4 z1_5 z1_6 z1_7 l2 c2_0 c2_1 c2_2 c2_3 l3 c3_0 c3_1 c3_2 c3_3 c3_4 c3_5 c3_6 c3_7 z3_0 z3_1 z3_2 z3_3 z3_4 z3_5 z3_6 z3_7
  have A3' := At.set (At.set A3 4 (.bool (Fx.fixd k2 hi))) 5 (.int .i64 (Fx.len k2 n2 hi 0))
  have A0' := At.off (At.off A0 (n := b3) (by omega) 4 (.bool (Fx.fixd k2 hi))) (n := b3) (by omega) 5 (.int .i64 (Fx.len k2 n2 hi 0))
  have A1' := At.off (At.off A1 (n := b3) (by omega) 4 (.bool (Fx.fixd k2 hi))) (n := b3) (by omega) 5 (.int .i64 (Fx.len k2 n2 hi 0))
  have A2' := At.off (At.off A2 (n := b3) (by omega) 4 (.bool (Fx.fixd k2 hi))) (n := b3) (by omega) 5 (.int .i64 (Fx.len k2 n2 hi 0))
  rw [hW] at A0' A1' A2' A3'
  clear A0 A1 A2 A3
  have A0 := A0'
  have A1 := A1'
  have A2 := A2'
  have A3 : At V2 b3 (.cells #[.bool (Fx.fixd k0 hi), .int .i64 (Fx.len k0 n0 hi 0), .bool (Fx.fixd k1 wi), .int .i64 (Fx.len k1 n1 wi 0), .bool (Fx.fixd k2 hi), .int .i64 (Fx.len k2 n2 hi 0), .bool false, .int .i64 0] 38) := A3'
  clear A0' A1' A2' A3'
  replace hB : Below w.heap.size w V2 := hW ▸ Below.setCell (Below.setCell hB (by simp; omega) _) (by simp; omega) _
  clear hW
  obtain ⟨l0, c0_0, c0_1, c0_2, c0_3, c0_4, c0_5, c0_6, c0_7⟩ := At.eight A0
  obtain ⟨l1, c1_0, c1_1, c1_2, c1_3, c1_4, c1_5, c1_6, c1_7⟩ := At.eight A1
  obtain ⟨l2, c2_0, c2_1, c2_2, c2_3⟩ := At.four A2
  obtain ⟨l3, c3_0, c3_1, c3_2, c3_3, c3_4, c3_5, c3_6, c3_7⟩ := At.eight A3
  have z1_0 := A1.thaw 0
  have z1_1 := A1.thaw 1
  have z1_2 := A1.thaw 2
  have z1_3 := A1.thaw 3
  have z1_4 := A1.thaw 4
  have z1_5 := A1.thaw 5
  have z1_6 := A1.thaw 6
  have z1_7 := A1.thaw 7
  have z3_0 := A3.thaw 0
  have z3_1 := A3.thaw 1
  have z3_2 := A3.thaw 2
  have z3_3 := A3.thaw 3
  have z3_4 := A3.thaw 4
  have z3_5 := A3.thaw 5
  have z3_6 := A3.thaw 6
  have z3_7 := A3.thaw 7
  go_wp2
  rw [rounds_succ]
  go_upto_region 6 with (fail)
  refine Drawn.wp_region_tail 13 1 (Below.refl _ _) (by kernel_rfl) (by kernel_rfl) rfl (by kernel_rfl) (by kernel_rfl) ?_
  (repeat (first | (refine Drawn.seq_skip (by rfl) ?_; (try simp only [Act.put, List.setIfInBounds_toArray, List.set_cons_zero, List.set_cons_succ])) | (refine Drawn.seq_call (o := ⟨_, .call ⟨.value _, _, _⟩, _, _, _, _⟩) (by rfl) (by intro w2 hS; go_simp; first | done | with_reducible rfl | exact ⟨rfl, rfl⟩) (by intro w2 hS; first | ((with_reducible refine (fixed_any _ _ _ _).mono ?_); rintro e w' ⟨rfl, hb⟩; exact ⟨rfl, Below.after hS hb⟩) | ((with_reducible refine (len_any _ _ _ _ _).mono ?_); rintro e w' ⟨rfl, hb⟩; exact ⟨rfl, Below.after hS hb⟩)) ?_; (try simp only [Act.put, List.setIfInBounds_toArray, List.set_cons_zero, List.set_cons_succ])) | (refine Drawn.seq_value (by rfl) (by intro w2 hS; obtain ⟨hc, hf⟩ := bcell hS; go_simp; first | done | with_reducible rfl | exact ⟨rfl, rfl⟩) ?_; (try simp only [Act.put, List.setIfInBounds_toArray, List.set_cons_zero, List.set_cons_succ]))))
  refine Drawn.seq_tail ?_; intro w2 hS
  (clear l0 c0_0 c0_1 c0_2 c0_3 c0_4 c0_5 c0_6 c0_7 l1 c1_0 c1_1 c1_2 c1_3 c1_4 c1_5 c1_6 c1_7 z1_0 z1_1 z1_2 z1_3 z1_4 z1_5 z1_6 z1_7 l2 c2_0 c2_1 c2_2 c2_3 l3 c3_0 c3_1 c3_2 c3_3 c3_4 c3_5 c3_6 c3_7 z3_0 z3_1 z3_2 z3_3 z3_4 z3_5 z3_6 z3_7); (replace hB := Below.after2 (by first | exact hB | exact Below.alloc' hB _ | exact Below.alloc' (Below.alloc' hB _) _) (Nat.le_refl _) hS); replace A0 := At.keep (by first | exact A0 | exact At.alloc A0 _ | exact At.alloc (At.alloc A0 _) _) hS; replace A1 := At.keep (by first | exact A1 | exact At.alloc A1 _ | exact At.alloc (At.alloc A1 _) _) hS; replace A2 := At.keep (by first | exact A2 | exact At.alloc A2 _ | exact At.alloc (At.alloc A2 _) _) hS; replace A3 := At.keep (by first | exact A3 | exact At.alloc A3 _ | exact At.alloc (At.alloc A3 _) _) hS; clear hS; obtain ⟨l0, c0_0, c0_1, c0_2, c0_3, c0_4, c0_5, c0_6, c0_7⟩ := At.eight A0; obtain ⟨l1, c1_0, c1_1, c1_2, c1_3, c1_4, c1_5, c1_6, c1_7⟩ := At.eight A1; have z1_0 := A1.thaw 0; have z1_1 := A1.thaw 1; have z1_2 := A1.thaw 2; have z1_3 := A1.thaw 3; have z1_4 := A1.thaw 4; have z1_5 := A1.thaw 5; have z1_6 := A1.thaw 6; have z1_7 := A1.thaw 7; obtain ⟨l2, c2_0, c2_1, c2_2, c2_3⟩ := At.four A2; obtain ⟨l3, c3_0, c3_1, c3_2, c3_3, c3_4, c3_5, c3_6, c3_7⟩ := At.eight A3; have z3_0 := A3.thaw 0; have z3_1 := A3.thaw 1; have z3_2 := A3.thaw 2; have z3_3 := A3.thaw 3; have z3_4 := A3.thaw 4; have z3_5 := A3.thaw 5; have z3_6 := A3.thaw 6; have z3_7 := A3.thaw 7
  refine Drawn.text_cons (by rfl) ?_; intro K hK; go_simp; refine hK _ _ (Drawn.text_nil ?_); clear hK K
  generalize hW : World.setCell (World.setCell _ _ _) _ _ = V3
  clear l0 c0_0 c0_1 c0_2 c0_3 c0_4 c0_5 c0_6 c0_7 l1 c1_0 c1_1 c1_2 c1_3 c1_4 c1_5 c1_6 c1_7 z1_0 z1_1 z1_2 z1_3 z1_4 z1_5 z1_6 z1_7 l2 c2_0 c2_1 c2_2 c2_3 l3 c3_0 c3_1 c3_2 c3_3 c3_4 c3_5 c3_6 c3_7 z3_0 z3_1 z3_2 z3_3 z3_4 z3_5 z3_6 z3_7
  have A3' := At.set (At.set A3 6 (.bool (Fx.fixd k3 wi))) 7 (.int .i64 (Fx.len k3 n3 wi 0))
  have A0' := At.off (At.off A0 (n := b3) (by omega) 6 (.bool (Fx.fixd k3 wi))) (n := b3) (by omega) 7 (.int .i64 (Fx.len k3 n3 wi 0))
  have A1' := At.off (At.off A1 (n := b3) (by omega) 6 (.bool (Fx.fixd k3 wi))) (n := b3) (by omega) 7 (.int .i64 (Fx.len k3 n3 wi 0))
  have A2' := At.off (At.off A2 (n := b3) (by omega) 6 (.bool (Fx.fixd k3 wi))) (n := b3) (by omega) 7 (.int .i64 (Fx.len k3 n3 wi 0))
  rw [hW] at A0' A1' A2' A3'
  clear A0 A1 A2 A3
  have A0 := A0'
  have A1 := A1'
  have A2 := A2'
  have A3 : At V3 b3 (.cells #[.bool (Fx.fixd k0 hi), .int .i64 (Fx.len k0 n0 hi 0), .bool (Fx.fixd k1 wi), .int .i64 (Fx.len k1 n1 wi 0), .bool (Fx.fixd k2 hi), .int .i64 (Fx.len k2 n2 hi 0), .bool (Fx.fixd k3 wi), .int .i64 (Fx.len k3 n3 wi 0)] 38) := A3'
  clear A0' A1' A2' A3'
  replace hB : Below w.heap.size w V3 := hW ▸ Below.setCell (Below.setCell hB (by simp; omega) _) (by simp; omega) _
  clear hW
  obtain ⟨l0, c0_0, c0_1, c0_2, c0_3, c0_4, c0_5, c0_6, c0_7⟩ := At.eight A0
  obtain ⟨l1, c1_0, c1_1, c1_2, c1_3, c1_4, c1_5, c1_6, c1_7⟩ := At.eight A1
  obtain ⟨l2, c2_0, c2_1, c2_2, c2_3⟩ := At.four A2
  obtain ⟨l3, c3_0, c3_1, c3_2, c3_3, c3_4, c3_5, c3_6, c3_7⟩ := At.eight A3
  have z1_0 := A1.thaw 0
  have z1_1 := A1.thaw 1
  have z1_2 := A1.thaw 2
  have z1_3 := A1.thaw 3
  have z1_4 := A1.thaw 4
  have z1_5 := A1.thaw 5
  have z1_6 := A1.thaw 6
  have z1_7 := A1.thaw 7
  have z3_0 := A3.thaw 0
  have z3_1 := A3.thaw 1
  have z3_2 := A3.thaw 2
  have z3_3 := A3.thaw 3
  have z3_4 := A3.thaw 4
  have z3_5 := A3.thaw 5
  have z3_6 := A3.thaw 6
  have z3_7 := A3.thaw 7
  go_wp2
  rw [rounds_succ]
  go_wp2
  refine bodyPost_ret (v := .agg #[.bool _, .int .i64 _, .bool _, .int .i64 _, .bool _, .int .i64 _, .bool _, .int .i64 _]) (by simp [results, Try.results13, go_sem, *]; first | done | exact ⟨rfl, rfl⟩ | exact ⟨rfl, rfl, rfl, rfl⟩ | rfl) rfl ⟨ret_eight rfl rfl rfl rfl rfl rfl rfl rfl, ?_⟩
  (repeat (first | with_reducible exact hB | refine Below.setCell ?_ (by first | (simp; done) | (simp; omega)) _))

end Go.Proofs.Ytdgphjpjgldbaaa.Fix
