/- The statements of the layer rect: RectCorners and RectFar return true, and leave all that was there as it was. -/
import Derived.Test.YtfmbmgkckdlhfaaRectSides
namespace Go.Proofs.Ytfmbmgkckdlhfaa.Fix
open Go.ChangeShapes Go.WideShapes Go.ChangeAt Go.RowKit
set_option linter.unusedVariables false

theorem run_eql_rect (a b c d a' b' c' d' : Int) (w : World) : (binOp .eql 23 (.agg #[.int .i64 a, .int .i64 b, .int .i64 c, .int .i64 d]) (.agg #[.int .i64 a', .int .i64 b', .int .i64 c', .int .i64 d'])).run Try.prog w = .ok (.bool (decide (a = a') && decide (b = b') && decide (c = c') && decide (d = d'))) w := by
  rw [run_eql_struct]
  by_cases h1 : a = a' <;> by_cases h2 : b = b' <;> by_cases h3 : c = c' <;> by_cases h4 : d = d' <;> go_simp <;> simp [h1, h2, h3, h4]

set_option maxRecDepth 100000 in
set_option maxHeartbeats 4000000 in
theorem rworks_any (w : World) : Calls Try.prog 7 #[] w fun e w' => e = .returned (.bool true) ∧ Below w.heap.size w w' := by
  have q := run_eql_rect
  have q0 := guard_pt
  have a1 : Fx.cut 0 = 0 := by decide
  have a2 : Fx.cut 5 = 5 := by decide
  have a3 : Fx.cut 10 = 10 := by decide
  have a4 : Fx.cut 15 = 15 := by decide
  have a5 : Fx.cut 9 = 9 := by decide
  have a6 : Fx.mx 10 0 = 10 := by decide
  have a7 : Fx.mx 15 0 = 15 := by decide
  have m1 : Fx.mLo 0 10 5 10 = 5 := by decide
  have m2 : Fx.mSz 0 10 5 10 = 5 := by decide
  have m3 : Fx.mOf 0 0 10 10 5 5 10 10 5 = 5 := by decide
  have j1 : Fx.jLo 0 10 5 10 = 0 := by decide
  have j2 : Fx.jSz 0 10 5 10 = 15 := by decide
  have j3 : Fx.jOf 10 10 10 10 0 5 0 = 0 := by decide
  have j4 : Fx.jOf 10 10 10 10 10 10 15 = 15 := by decide
  have h1 : Fx.hasR 5 5 5 5 5 9 = true := by decide
  have h2 : Fx.hasR 5 5 5 5 5 10 = false := by decide
  have i1 : Fx.innR 5 5 5 5 0 0 10 10 = true := by decide
  have p1 : Fx.add 0 5 = 5 := by decide
  have o1 : Fx.sub 0 1 = -1 := by decide
  have o2 : Fx.sub 0 2 = -2 := by decide
  have o3 : Fx.sub 0 3 = -3 := by decide
  have o4 : Fx.sub 0 4 = -4 := by decide
  have p2 : Fx.add 0 (-4) = -4 := by decide
  have p3 : Fx.add 0 (-1) = -1 := by decide
  have p4 : Fx.add 0 (-2) = -2 := by decide
  have p5 : Fx.add (-2) (-4) = -6 := by decide
  have p6 : Fx.add (-1) (-3) = -4 := by decide
  have l1 : Fx.less 10 (-6) = 16 := by decide
  have l2 : Fx.less 10 (-4) = 14 := by decide
  have p7 : Fx.add (-4) 4 = 0 := by decide
  have p8 : Fx.add (-1) 1 = 0 := by decide
  have p9 : Fx.add 0 2 = 2 := by decide
  have p10 : Fx.add 2 4 = 6 := by decide
  have p11 : Fx.add 0 1 = 1 := by decide
  have p12 : Fx.add 1 3 = 4 := by decide
  have l3 : Fx.less 16 6 = 10 := by decide
  have l4 : Fx.less 14 4 = 10 := by decide
  have k1 : Fx.hi 0 10 = 10 := by decide
  have k2 : Fx.hi 5 10 = 15 := by decide
  have k3 : Fx.size 0 10 = 10 := by decide
  have k4 : Fx.size 5 15 = 10 := by decide
  go_enter Try.func7, Try.ntmps7
  go_upto_region 2 with (first | (go_at_call 16; (with_reducible refine (ofR_any _ _ _ _ _).mono ?_); rintro e w' ⟨rfl, hb⟩; (try replace hb := Below.after (by assumption) hb); obtain ⟨hc, hf⟩ := bcell hb; have hz := hb.size; (try simp at hz)))
  have hB := hb
  clear hb hc hf hz
  (generalize hW : World.alloc _ _ = W1; have A0 : At W1 _ _ := hW ▸ At.new _ _; replace hB : Below w.heap.size w W1 := hW ▸ Below.alloc' hB _; clear hW; obtain ⟨l0, c0_0, c0_1, c0_2, c0_3⟩ := At.four A0)
  go_upto_region 3 with (first | (go_at_call 16; (with_reducible refine (ofR_any _ _ _ _ _).mono ?_); rintro e w' ⟨rfl, hb⟩; (clear l0 c0_0 c0_1 c0_2 c0_3); (replace hB := Below.after2 (by first | exact hB | exact Below.alloc' hB _ | exact Below.alloc' (Below.alloc' hB _) _) (Nat.le_refl _) hb); replace A0 := At.keep (by first | exact A0 | exact At.alloc A0 _ | exact At.alloc (At.alloc A0 _) _) hb; clear hb; obtain ⟨l0, c0_0, c0_1, c0_2, c0_3⟩ := At.four A0))
  (generalize hW : World.alloc _ _ = W2; clear l0 c0_0 c0_1 c0_2 c0_3; have A1 : At W2 _ _ := hW ▸ At.new _ _; replace A0 : At W2 _ _ := hW ▸ At.alloc A0 _; replace hB : Below w.heap.size w W2 := hW ▸ Below.alloc' hB _; clear hW; obtain ⟨l0, c0_0, c0_1, c0_2, c0_3⟩ := At.four A0; obtain ⟨l1, c1_0, c1_1, c1_2, c1_3⟩ := At.four A1)
  go_upto_region 4 with (first | (go_at_call 21; (with_reducible refine (meetR_any _ _ _ _ _ _ _ _ _).mono ?_); rintro e w' ⟨rfl, hb⟩; (clear l0 c0_0 c0_1 c0_2 c0_3 l1 c1_0 c1_1 c1_2 c1_3); (replace hB := Below.after2 (by first | exact hB | exact Below.alloc' hB _ | exact Below.alloc' (Below.alloc' hB _) _) (Nat.le_refl _) hb); replace A0 := At.keep (by first | exact A0 | exact At.alloc A0 _ | exact At.alloc (At.alloc A0 _) _) hb; replace A1 := At.keep (by first | exact A1 | exact At.alloc A1 _ | exact At.alloc (At.alloc A1 _) _) hb; clear hb; obtain ⟨l0, c0_0, c0_1, c0_2, c0_3⟩ := At.four A0; obtain ⟨l1, c1_0, c1_1, c1_2, c1_3⟩ := At.four A1))
  (generalize hW : World.alloc _ _ = W3; clear l0 c0_0 c0_1 c0_2 c0_3 l1 c1_0 c1_1 c1_2 c1_3; have A2 : At W3 _ _ := hW ▸ At.new _ _; replace A0 : At W3 _ _ := hW ▸ At.alloc A0 _; replace A1 : At W3 _ _ := hW ▸ At.alloc A1 _; replace hB : Below w.heap.size w W3 := hW ▸ Below.alloc' hB _; clear hW; obtain ⟨l0, c0_0, c0_1, c0_2, c0_3⟩ := At.four A0; obtain ⟨l1, c1_0, c1_1, c1_2, c1_3⟩ := At.four A1; obtain ⟨l2, c2_0, c2_1, c2_2, c2_3⟩ := At.four A2)
  refine Drawn.wp_region_from (Below.refl _ _) (by kernel_rfl) (by kernel_rfl) (by kernel_rfl) ?_
  (repeat (first | (refine Drawn.seq_skip (by rfl) ?_; (try simp only [Act.put, List.setIfInBounds_toArray, List.set_cons_zero, List.set_cons_succ])) | (refine Drawn.seq_call (o := ⟨_, .call ⟨.value _, _, _⟩, _, _, _, _⟩) (by rfl) (by intro w2 hS; go_simp; first | done | with_reducible rfl | exact ⟨rfl, rfl⟩) (by intro w2 hS; first | ((with_reducible refine (joinR_any _ _ _ _ _ _ _ _ _).mono ?_); rintro e w' ⟨rfl, hb⟩; exact ⟨rfl, Below.after hS hb⟩) | ((with_reducible refine (ofR_any _ _ _ _ _).mono ?_); rintro e w' ⟨rfl, hb⟩; exact ⟨rfl, Below.after hS hb⟩) | ((with_reducible refine (of_any _ _ _).mono ?_); rintro e w' ⟨rfl, rfl⟩; exact ⟨rfl, hS⟩) | ((with_reducible refine (hasR_any _ _ _ _ _ _ _).mono ?_); rintro e w' ⟨rfl, hb⟩; exact ⟨rfl, Below.after hS hb⟩) | ((with_reducible refine (inR_any _ _ _ _ _ _ _ _ _).mono ?_); rintro e w' ⟨rfl, hb⟩; exact ⟨rfl, Below.after hS hb⟩) | ((with_reducible refine (moveR_any _ _ _ _ _ _ _).mono ?_); rintro e w' ⟨rfl, hb⟩; exact ⟨rfl, Below.after hS hb⟩) | ((with_reducible refine (insetR_any _ _ _ _ _ _ _ _ _).mono ?_); rintro e w' ⟨rfl, hb⟩; exact ⟨rfl, Below.after hS hb⟩) | ((with_reducible refine (outsetR_any _ _ _ _ _ _ _ _ _).mono ?_); rintro e w' ⟨rfl, hb⟩; exact ⟨rfl, Below.after hS hb⟩) | ((with_reducible refine (across_any _ _ _ _ _).mono ?_); rintro e w' ⟨rfl, hb⟩; exact ⟨rfl, Below.after hS hb⟩) | ((with_reducible refine (down_span _ _ _ _ _).mono ?_); rintro e w' ⟨rfl, hb⟩; exact ⟨rfl, Below.after hS hb⟩) | ((with_reducible refine (byR_any _ _ _ _ _).mono ?_); rintro e w' ⟨rfl, hb⟩; exact ⟨rfl, Below.after hS hb⟩)) ?_; (try simp only [Act.put, List.setIfInBounds_toArray, List.set_cons_zero, List.set_cons_succ])) | (refine Drawn.seq_value (by rfl) (by intro w2 hS; obtain ⟨hc, hf⟩ := bcell hS; go_simp; first | done | with_reducible rfl | exact ⟨rfl, rfl⟩) ?_; (try simp only [Act.put, List.setIfInBounds_toArray, List.set_cons_zero, List.set_cons_succ]))))
  refine Drawn.seq_end ?_; intro w2 hS
  go_wp2
  go_ret
  exact ⟨rfl, Below.after2 hB (Nat.le_refl _) hS⟩

end Go.Proofs.Ytfmbmgkckdlhfaa.Fix
