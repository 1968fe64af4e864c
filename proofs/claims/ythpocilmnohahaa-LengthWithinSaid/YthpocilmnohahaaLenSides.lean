/- The contracts of Sides of the layer length (and of the document's own answer for it). -/
import Derived.Test.YthpocilmnohahaaLen
namespace Go.Proofs.Ythpocilmnohahaa.Fix
open Go.ChangeShapes Go.WideShapes Go.ChangeAt Go.RowKit
set_option linter.unusedVariables false


theorem ret_four {a b c d a' b' c' d' : Int} (h1 : a = a') (h2 : b = b') (h3 : c = c') (h4 : d = d') : Ending.returned (.agg #[.int .i64 a, .int .i64 b, .int .i64 c, .int .i64 d]) = .returned (.agg #[.int .i64 a', .int .i64 b', .int .i64 c', .int .i64 d']) := by rw [h1, h2, h3, h4]

theorem lsides_any (k0 n0 k1 n1 k2 n2 k3 n3 base : Int) (w : World) : Calls Try.prog 17 #[.agg #[.int .i64 k0, .int .i64 n0, .int .i64 k1, .int .i64 n1, .int .i64 k2, .int .i64 n2, .int .i64 k3, .int .i64 n3], .int .i64 base] w fun e w' => e = .returned (.agg #[.int .i64 (Fx.len k0 n0 base 0), .int .i64 (Fx.len k1 n1 base 0), .int .i64 (Fx.len k2 n2 base 0), .int .i64 (Fx.len k3 n3 base 0)]) ∧ Below w.heap.size w w' := by
  have i0 : ∀ w : World, (Instr.index 25 (.agg #[.int .i64 k0, .int .i64 n0, .int .i64 k1, .int .i64 n1, .int .i64 k2, .int .i64 n2, .int .i64 k3, .int .i64 n3]) (.int .i64 0)).run Try.prog w = .ok (.agg #[.int .i64 k0, .int .i64 n0]) w := fun _ => by kernel_rfl
  have i1 : ∀ w : World, (Instr.index 25 (.agg #[.int .i64 k0, .int .i64 n0, .int .i64 k1, .int .i64 n1, .int .i64 k2, .int .i64 n2, .int .i64 k3, .int .i64 n3]) (.int .i64 1)).run Try.prog w = .ok (.agg #[.int .i64 k1, .int .i64 n1]) w := fun _ => by kernel_rfl
  have i2 : ∀ w : World, (Instr.index 25 (.agg #[.int .i64 k0, .int .i64 n0, .int .i64 k1, .int .i64 n1, .int .i64 k2, .int .i64 n2, .int .i64 k3, .int .i64 n3]) (.int .i64 2)).run Try.prog w = .ok (.agg #[.int .i64 k2, .int .i64 n2]) w := fun _ => by kernel_rfl
  have i3 : ∀ w : World, (Instr.index 25 (.agg #[.int .i64 k0, .int .i64 n0, .int .i64 k1, .int .i64 n1, .int .i64 k2, .int .i64 n2, .int .i64 k3, .int .i64 n3]) (.int .i64 3)).run Try.prog w = .ok (.agg #[.int .i64 k3, .int .i64 n3]) w := fun _ => by kernel_rfl
  go_enter Try.func17, Try.ntmps17
  go_upto_region 2 with (fail)
  (generalize hW : World.alloc (World.alloc (World.alloc w _) _) _ = W0; have A0 : At W0 (w.heap.size) (.cells #[.int .i64 k0, .int .i64 n0, .int .i64 k1, .int .i64 n1, .int .i64 k2, .int .i64 n2, .int .i64 k3, .int .i64 n3] 25) := (by ((rw [← hW]) <;> exact At.alloc (At.alloc (At.new' _ (by first | done | rfl | simp)) _) _)); have A1 : At W0 (w.heap.size + 1) (.cells #[.int .i64 0, .int .i64 0, .int .i64 0, .int .i64 0] 30) := (by ((rw [← hW]) <;> exact At.alloc (At.new' _ (by first | done | rfl | simp)) _)); have A2 : At W0 (w.heap.size + 1 + 1) (.cells #[.int .i64 0, .int .i64 0, .int .i64 0, .int .i64 0] 30) := (by ((rw [← hW]) <;> exact At.new' _ (by first | done | rfl | simp))); have hB : Below w.heap.size w W0 := (by ((rw [← hW]) <;> exact Below.alloc' (Below.alloc' (Below.alloc' (Below.refl _ _) _) _) _)); clear hW; obtain ⟨l0, c0_0, c0_1, c0_2, c0_3, c0_4, c0_5, c0_6, c0_7⟩ := At.eight A0; obtain ⟨l1, c1_0, c1_1, c1_2, c1_3⟩ := At.four A1; have z1_0 := A1.thaw 0; have z1_1 := A1.thaw 1; have z1_2 := A1.thaw 2; have z1_3 := A1.thaw 3; obtain ⟨l2, c2_0, c2_1, c2_2, c2_3⟩ := At.four A2; have z2_0 := A2.thaw 0; have z2_1 := A2.thaw 1; have z2_2 := A2.thaw 2; have z2_3 := A2.thaw 3)
  go_wp2
  clear l0 c0_0 c0_1 c0_2 c0_3 c0_4 c0_5 c0_6 c0_7 A0
  refine wp_loop_rounds 5 ?_
  rw [rounds_succ]
  go_upto_region 5 with (fail)
  (generalize hW : World.alloc _ _ = W1; clear l1 c1_0 c1_1 c1_2 c1_3 z1_0 z1_1 z1_2 z1_3 l2 c2_0 c2_1 c2_2 c2_3 z2_0 z2_1 z2_2 z2_3; have A3 : At W1 _ _ := hW ▸ At.new _ _; replace A1 : At W1 _ _ := hW ▸ At.alloc A1 _; replace A2 : At W1 _ _ := hW ▸ At.alloc A2 _; replace hB : Below w.heap.size w W1 := hW ▸ Below.alloc' hB _; clear hW; obtain ⟨l1, c1_0, c1_1, c1_2, c1_3⟩ := At.four A1; have z1_0 := A1.thaw 0; have z1_1 := A1.thaw 1; have z1_2 := A1.thaw 2; have z1_3 := A1.thaw 3; obtain ⟨l2, c2_0, c2_1, c2_2, c2_3⟩ := At.four A2; have z2_0 := A2.thaw 0; have z2_1 := A2.thaw 1; have z2_2 := A2.thaw 2; have z2_3 := A2.thaw 3; obtain ⟨l3, c3_0, c3_1⟩ := At.two A3)
  go_upto_region 6 with (first | (go_at_call 11; (with_reducible refine (len_any _ _ _ _ _).mono ?_); rintro e w' ⟨rfl, hb⟩; (clear l1 c1_0 c1_1 c1_2 c1_3 z1_0 z1_1 z1_2 z1_3 l2 c2_0 c2_1 c2_2 c2_3 z2_0 z2_1 z2_2 z2_3 l3 c3_0 c3_1); (replace hB := Below.after2 (by first | exact hB | exact Below.alloc' hB _ | exact Below.alloc' (Below.alloc' hB _) _) (Nat.le_refl _) hb); replace A1 := At.keep (by first | exact A1 | exact At.alloc A1 _ | exact At.alloc (At.alloc A1 _) _) hb; replace A2 := At.keep (by first | exact A2 | exact At.alloc A2 _ | exact At.alloc (At.alloc A2 _) _) hb; replace A3 := At.keep (by first | exact A3 | exact At.alloc A3 _ | exact At.alloc (At.alloc A3 _) _) hb; clear hb; obtain ⟨l1, c1_0, c1_1, c1_2, c1_3⟩ := At.four A1; have z1_0 := A1.thaw 0; have z1_1 := A1.thaw 1; have z1_2 := A1.thaw 2; have z1_3 := A1.thaw 3; obtain ⟨l2, c2_0, c2_1, c2_2, c2_3⟩ := At.four A2; have z2_0 := A2.thaw 0; have z2_1 := A2.thaw 1; have z2_2 := A2.thaw 2; have z2_3 := A2.thaw 3; obtain ⟨l3, c3_0, c3_1⟩ := At.two A3))
  generalize hW : World.setCell _ _ _ = W2
  clear l1 c1_0 c1_1 c1_2 c1_3 z1_0 z1_1 z1_2 z1_3 l2 c2_0 c2_1 c2_2 c2_3 z2_0 z2_1 z2_2 z2_3 l3 c3_0 c3_1 A3
  replace A2 : At W2 (w.heap.size + 1 + 1) (.cells #[.int .i64 (Fx.len k0 n0 base 0), .int .i64 0, .int .i64 0, .int .i64 0] 30) := hW ▸ At.set A2 0 _
  replace A1 : At W2 (w.heap.size + 1) _ := hW ▸ At.off A1 (by omega) 0 _
  replace hB : Below w.heap.size w W2 := hW ▸ Below.setCell hB (by simp; omega) _
  clear hW
  obtain ⟨l1, c1_0, c1_1, c1_2, c1_3⟩ := At.four A1
  obtain ⟨l2, c2_0, c2_1, c2_2, c2_3⟩ := At.four A2
  have z1_0 := A1.thaw 0
  have z1_1 := A1.thaw 1
  have z1_2 := A1.thaw 2
  have z1_3 := A1.thaw 3
  have z2_0 := A2.thaw 0
  have z2_1 := A2.thaw 1
  have z2_2 := A2.thaw 2
  have z2_3 := A2.thaw 3
  go_wp2
  rw [rounds_succ]
  go_upto_region 5 with (fail)
  (generalize hW : World.alloc _ _ = W1; clear l1 c1_0 c1_1 c1_2 c1_3 z1_0 z1_1 z1_2 z1_3 l2 c2_0 c2_1 c2_2 c2_3 z2_0 z2_1 z2_2 z2_3; have A3 : At W1 _ _ := hW ▸ At.new _ _; replace A1 : At W1 _ _ := hW ▸ At.alloc A1 _; replace A2 : At W1 _ _ := hW ▸ At.alloc A2 _; replace hB : Below w.heap.size w W1 := hW ▸ Below.alloc' hB _; clear hW; obtain ⟨l1, c1_0, c1_1, c1_2, c1_3⟩ := At.four A1; have z1_0 := A1.thaw 0; have z1_1 := A1.thaw 1; have z1_2 := A1.thaw 2; have z1_3 := A1.thaw 3; obtain ⟨l2, c2_0, c2_1, c2_2, c2_3⟩ := At.four A2; have z2_0 := A2.thaw 0; have z2_1 := A2.thaw 1; have z2_2 := A2.thaw 2; have z2_3 := A2.thaw 3; obtain ⟨l3, c3_0, c3_1⟩ := At.two A3)
  go_upto_region 6 with (first | (go_at_call 11; (with_reducible refine (len_any _ _ _ _ _).mono ?_); rintro e w' ⟨rfl, hb⟩; (clear l1 c1_0 c1_1 c1_2 c1_3 z1_0 z1_1 z1_2 z1_3 l2 c2_0 c2_1 c2_2 c2_3 z2_0 z2_1 z2_2 z2_3 l3 c3_0 c3_1); (replace hB := Below.after2 (by first | exact hB | exact Below.alloc' hB _ | exact Below.alloc' (Below.alloc' hB _) _) (Nat.le_refl _) hb); replace A1 := At.keep (by first | exact A1 | exact At.alloc A1 _ | exact At.alloc (At.alloc A1 _) _) hb; replace A2 := At.keep (by first | exact A2 | exact At.alloc A2 _ | exact At.alloc (At.alloc A2 _) _) hb; replace A3 := At.keep (by first | exact A3 | exact At.alloc A3 _ | exact At.alloc (At.alloc A3 _) _) hb; clear hb; obtain ⟨l1, c1_0, c1_1, c1_2, c1_3⟩ := At.four A1; have z1_0 := A1.thaw 0; have z1_1 := A1.thaw 1; have z1_2 := A1.thaw 2; have z1_3 := A1.thaw 3; obtain ⟨l2, c2_0, c2_1, c2_2, c2_3⟩ := At.four A2; have z2_0 := A2.thaw 0; have z2_1 := A2.thaw 1; have z2_2 := A2.thaw 2; have z2_3 := A2.thaw 3; obtain ⟨l3, c3_0, c3_1⟩ := At.two A3))
  generalize hW : World.setCell _ _ _ = W2
  clear l1 c1_0 c1_1 c1_2 c1_3 z1_0 z1_1 z1_2 z1_3 l2 c2_0 c2_1 c2_2 c2_3 z2_0 z2_1 z2_2 z2_3 l3 c3_0 c3_1 A3
  replace A2 : At W2 (w.heap.size + 1 + 1) (.cells #[.int .i64 (Fx.len k0 n0 base 0), .int .i64 (Fx.len k1 n1 base 0), .int .i64 0, .int .i64 0] 30) := hW ▸ At.set A2 1 _
  replace A1 : At W2 (w.heap.size + 1) _ := hW ▸ At.off A1 (by omega) 1 _
  replace hB : Below w.heap.size w W2 := hW ▸ Below.setCell hB (by simp; omega) _
  clear hW
  obtain ⟨l1, c1_0, c1_1, c1_2, c1_3⟩ := At.four A1
  obtain ⟨l2, c2_0, c2_1, c2_2, c2_3⟩ := At.four A2
  have z1_0 := A1.thaw 0
  have z1_1 := A1.thaw 1
  have z1_2 := A1.thaw 2
  have z1_3 := A1.thaw 3
  have z2_0 := A2.thaw 0
  have z2_1 := A2.thaw 1
  have z2_2 := A2.thaw 2
  have z2_3 := A2.thaw 3
  go_wp2
  rw [rounds_succ]
  go_upto_region 5 with (fail)
  (generalize hW : World.alloc _ _ = W1; clear l1 c1_0 c1_1 c1_2 c1_3 z1_0 z1_1 z1_2 z1_3 l2 c2_0 c2_1 c2_2 c2_3 z2_0 z2_1 z2_2 z2_3; have A3 : At W1 _ _ := hW ▸ At.new _ _; replace A1 : At W1 _ _ := hW ▸ At.alloc A1 _; replace A2 : At W1 _ _ := hW ▸ At.alloc A2 _; replace hB : Below w.heap.size w W1 := hW ▸ Below.alloc' hB _; clear hW; obtain ⟨l1, c1_0, c1_1, c1_2, c1_3⟩ := At.four A1; have z1_0 := A1.thaw 0; have z1_1 := A1.thaw 1; have z1_2 := A1.thaw 2; have z1_3 := A1.thaw 3; obtain ⟨l2, c2_0, c2_1, c2_2, c2_3⟩ := At.four A2; have z2_0 := A2.thaw 0; have z2_1 := A2.thaw 1; have z2_2 := A2.thaw 2; have z2_3 := A2.thaw 3; obtain ⟨l3, c3_0, c3_1⟩ := At.two A3)
  go_upto_region 6 with (first | (go_at_call 11; (with_reducible refine (len_any _ _ _ _ _).mono ?_); rintro e w' ⟨rfl, hb⟩; (clear l1 c1_0 c1_1 c1_2 c1_3 z1_0 z1_1 z1_2 z1_3 l2 c2_0 c2_1 c2_2 c2_3 z2_0 z2_1 z2_2 z2_3 l3 c3_0 c3_1); (replace hB := Below.after2 (by first | exact hB | exact Below.alloc' hB _ | exact Below.alloc' (Below.alloc' hB _) _) (Nat.le_refl _) hb); replace A1 := At.keep (by first | exact A1 | exact At.alloc A1 _ | exact At.alloc (At.alloc A1 _) _) hb; replace A2 := At.keep (by first | exact A2 | exact At.alloc A2 _ | exact At.alloc (At.alloc A2 _) _) hb; replace A3 := At.keep (by first | exact A3 | exact At.alloc A3 _ | exact At.alloc (At.alloc A3 _) _) hb; clear hb; obtain ⟨l1, c1_0, c1_1, c1_2, c1_3⟩ := At.four A1; have z1_0 := A1.thaw 0; have z1_1 := A1.thaw 1; have z1_2 := A1.thaw 2; have z1_3 := A1.thaw 3; obtain ⟨l2, c2_0, c2_1, c2_2, c2_3⟩ := At.four A2; have z2_0 := A2.thaw 0; have z2_1 := A2.thaw 1; have z2_2 := A2.thaw 2; have z2_3 := A2.thaw 3; obtain ⟨l3, c3_0, c3_1⟩ := At.two A3))
  generalize hW : World.setCell _ _ _ = W2
  clear l1 c1_0 c1_1 c1_2 c1_3 z1_0 z1_1 z1_2 z1_3 l2 c2_0 c2_1 c2_2 c2_3 z2_0 z2_1 z2_2 z2_3 l3 c3_0 c3_1 A3
  replace A2 : At W2 (w.heap.size + 1 + 1) (.cells #[.int .i64 (Fx.len k0 n0 base 0), .int .i64 (Fx.len k1 n1 base 0), .int .i64 (Fx.len k2 n2 base 0), .int .i64 0] 30) := hW ▸ At.set A2 2 _
  replace A1 : At W2 (w.heap.size + 1) _ := hW ▸ At.off A1 (by omega) 2 _
  replace hB : Below w.heap.size w W2 := hW ▸ Below.setCell hB (by simp; omega) _
  clear hW
  obtain ⟨l1, c1_0, c1_1, c1_2, c1_3⟩ := At.four A1
  obtain ⟨l2, c2_0, c2_1, c2_2, c2_3⟩ := At.four A2
  have z1_0 := A1.thaw 0
  have z1_1 := A1.thaw 1
  have z1_2 := A1.thaw 2
  have z1_3 := A1.thaw 3
  have z2_0 := A2.thaw 0
  have z2_1 := A2.thaw 1
  have z2_2 := A2.thaw 2
  have z2_3 := A2.thaw 3
  go_wp2
  rw [rounds_succ]
  go_upto_region 5 with (fail)
  (generalize hW : World.alloc _ _ = W1; clear l1 c1_0 c1_1 c1_2 c1_3 z1_0 z1_1 z1_2 z1_3 l2 c2_0 c2_1 c2_2 c2_3 z2_0 z2_1 z2_2 z2_3; have A3 : At W1 _ _ := hW ▸ At.new _ _; replace A1 : At W1 _ _ := hW ▸ At.alloc A1 _; replace A2 : At W1 _ _ := hW ▸ At.alloc A2 _; replace hB : Below w.heap.size w W1 := hW ▸ Below.alloc' hB _; clear hW; obtain ⟨l1, c1_0, c1_1, c1_2, c1_3⟩ := At.four A1; have z1_0 := A1.thaw 0; have z1_1 := A1.thaw 1; have z1_2 := A1.thaw 2; have z1_3 := A1.thaw 3; obtain ⟨l2, c2_0, c2_1, c2_2, c2_3⟩ := At.four A2; have z2_0 := A2.thaw 0; have z2_1 := A2.thaw 1; have z2_2 := A2.thaw 2; have z2_3 := A2.thaw 3; obtain ⟨l3, c3_0, c3_1⟩ := At.two A3)
  go_upto_region 6 with (first | (go_at_call 11; (with_reducible refine (len_any _ _ _ _ _).mono ?_); rintro e w' ⟨rfl, hb⟩; (clear l1 c1_0 c1_1 c1_2 c1_3 z1_0 z1_1 z1_2 z1_3 l2 c2_0 c2_1 c2_2 c2_3 z2_0 z2_1 z2_2 z2_3 l3 c3_0 c3_1); (replace hB := Below.after2 (by first | exact hB | exact Below.alloc' hB _ | exact Below.alloc' (Below.alloc' hB _) _) (Nat.le_refl _) hb); replace A1 := At.keep (by first | exact A1 | exact At.alloc A1 _ | exact At.alloc (At.alloc A1 _) _) hb; replace A2 := At.keep (by first | exact A2 | exact At.alloc A2 _ | exact At.alloc (At.alloc A2 _) _) hb; replace A3 := At.keep (by first | exact A3 | exact At.alloc A3 _ | exact At.alloc (At.alloc A3 _) _) hb; clear hb; obtain ⟨l1, c1_0, c1_1, c1_2, c1_3⟩ := At.four A1; have z1_0 := A1.thaw 0; have z1_1 := A1.thaw 1; have z1_2 := A1.thaw 2; have z1_3 := A1.thaw 3; obtain ⟨l2, c2_0, c2_1, c2_2, c2_3⟩ := At.four A2; have z2_0 := A2.thaw 0; have z2_1 := A2.thaw 1; have z2_2 := A2.thaw 2; have z2_3 := A2.thaw 3; obtain ⟨l3, c3_0, c3_1⟩ := At.two A3))
  generalize hW : World.setCell _ _ _ = W2
  clear l1 c1_0 c1_1 c1_2 c1_3 z1_0 z1_1 z1_2 z1_3 l2 c2_0 c2_1 c2_2 c2_3 z2_0 z2_1 z2_2 z2_3 l3 c3_0 c3_1 A3
  replace A2 : At W2 (w.heap.size + 1 + 1) (.cells #[.int .i64 (Fx.len k0 n0 base 0), .int .i64 (Fx.len k1 n1 base 0), .int .i64 (Fx.len k2 n2 base 0), .int .i64 (Fx.len k3 n3 base 0)] 30) := hW ▸ At.set A2 3 _
  replace A1 : At W2 (w.heap.size + 1) _ := hW ▸ At.off A1 (by omega) 3 _
  replace hB : Below w.heap.size w W2 := hW ▸ Below.setCell hB (by simp; omega) _
  clear hW
  obtain ⟨l1, c1_0, c1_1, c1_2, c1_3⟩ := At.four A1
  obtain ⟨l2, c2_0, c2_1, c2_2, c2_3⟩ := At.four A2
  have z1_0 := A1.thaw 0
  have z1_1 := A1.thaw 1
  have z1_2 := A1.thaw 2
  have z1_3 := A1.thaw 3
  have z2_0 := A2.thaw 0
  have z2_1 := A2.thaw 1
  have z2_2 := A2.thaw 2
  have z2_3 := A2.thaw 3
  go_wp2
  rw [rounds_succ]
  go_wp2
  refine bodyPost_ret (v := .agg #[.int .i64 _, .int .i64 _, .int .i64 _, .int .i64 _]) (by simp [results, Try.results17, go_sem, *]; first | done | exact ⟨rfl, rfl⟩ | exact ⟨rfl, rfl, rfl, rfl⟩ | rfl) rfl ⟨ret_four rfl rfl rfl rfl, ?_⟩
  (repeat (first | exact Below.refl _ _ | assumption | refine Below.drew ?_ | refine Below.drewN ?_ _ | refine Below.alloc' ?_ _ | refine Below.setCell ?_ (by first | (simp; done) | (simp; omega)) _ | refine Below.after2 ?_ (Nat.le_refl _) (by assumption)))

theorem rlsides_any (k0 n0 k1 n1 k2 n2 k3 n3 base : Int) (w : World) : Calls Try.prog 18 #[.agg #[.int .i64 k0, .int .i64 n0, .int .i64 k1, .int .i64 n1, .int .i64 k2, .int .i64 n2, .int .i64 k3, .int .i64 n3], .int .i64 base] w fun e w' => e = .returned (.agg #[.int .i64 (Fx.len k0 n0 base 0), .int .i64 (Fx.len k1 n1 base 0), .int .i64 (Fx.len k2 n2 base 0), .int .i64 (Fx.len k3 n3 base 0)]) ∧ Below w.heap.size w w' := by
  go_enter Try.func18, Try.ntmps18
  go_wp2
  refine Drawn.wp_region_tail 17 1 (by first | assumption | exact Below.refl _ _) (by kernel_rfl) (by kernel_rfl) rfl (by kernel_rfl) (by kernel_rfl) ?_
  (repeat (first | (refine Drawn.seq_skip (by rfl) ?_; (try simp only [Act.put, List.setIfInBounds_toArray, List.set_cons_zero, List.set_cons_succ])) | (refine Drawn.seq_call (o := ⟨_, .call ⟨.value _, _, _⟩, _, _, _, _⟩) (by rfl) (by intro w2 hS; go_simp; first | done | with_reducible rfl | exact ⟨rfl, rfl⟩) (by intro w2 hS; first | ((with_reducible refine (rlen_any _ _ _ _ _).mono ?_); rintro e w' ⟨rfl, hb⟩; exact ⟨rfl, Below.after hS hb⟩)) ?_; (try simp only [Act.put, List.setIfInBounds_toArray, List.set_cons_zero, List.set_cons_succ])) | (refine Drawn.seq_value (by rfl) (by intro w2 hS; obtain ⟨hc, hf⟩ := bcell hS; go_simp; first | done | with_reducible rfl | exact ⟨rfl, rfl⟩) ?_; (try simp only [Act.put, List.setIfInBounds_toArray, List.set_cons_zero, List.set_cons_succ]))))
  refine Drawn.seq_tail ?_; intro w2 hS; obtain ⟨hc, hf⟩ := bcell hS; refine Drawn.text_cons (by rfl) ?_; intro K hK; go_simp; refine hK _ _ (Drawn.text_nil ?_); clear hK K
  go_wp2
  refine bodyPost_ret (v := .agg #[.int .i64 _, .int .i64 _, .int .i64 _, .int .i64 _]) (by simp [results, Try.results18, go_sem, *]; first | done | exact ⟨rfl, rfl⟩ | exact ⟨rfl, rfl, rfl, rfl⟩ | rfl) rfl ⟨ret_four rfl rfl rfl rfl, ?_⟩
  (repeat (first | exact Below.refl _ _ | assumption | refine Below.drew ?_ | refine Below.drewN ?_ _ | refine Below.alloc' ?_ _ | refine Below.setCell ?_ (by first | (simp; done) | (simp; omega)) _ | refine Below.after2 ?_ (Nat.le_refl _) (by assumption)))

end Go.Proofs.Ythpocilmnohahaa.Fix
