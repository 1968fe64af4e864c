/- LengthSides: it returns true, and leaves all that was there as it was. -/
import Derived.Test.YthpocilmnohahaaLenLaws
import Derived.IntWalk
import Derived.LoopTactic
namespace Go.Proofs.Ythpocilmnohahaa.Fix
open Go.ChangeShapes Go.WideShapes Go.ChangeAt Go.RowKit
set_option linter.unusedVariables false
set_option linter.unusedSimpArgs false

theorem len_kinds (k n base other : Int) : ((k == 0) = true ∧ (k == 1) = false ∧ Fx.fixd k base = false ∧ Fx.len k n base 0 = 0) ∨ ((k == 0) = false ∧ (k == 1) = true ∧ Fx.fixd k base = true ∧ Fx.len k n other 0 = Fx.len k n base 0) ∨
    ((k == 0) = false ∧ (k == 1) = false ∧ Fx.fixd k base = false ∧ Fx.len k n base 0 = 0) ∨ ((k == 0) = false ∧ (k == 1) = false ∧ Fx.fixd k base = true ∧ True) := by
  by_cases h0 : k = 0
  · subst h0
    have h : Fx.fixd 0 base = false := Fx.fixd_not.2 ⟨by omega, by omega⟩
    exact .inl ⟨rfl, rfl, h, Fx.len_auto h⟩
  · have g0 : (k == 0) = false := by simp [h0]
    by_cases h1 : k = 1
    · subst h1
      exact .inr (.inl ⟨rfl, rfl, Fx.fixd_iff.2 (.inl rfl), by rw [Fx.len_px rfl, Fx.len_px rfl]⟩)
    · have g1 : (k == 1) = false := by simp [h1]
      cases h : Fx.fixd k base
      · exact .inr (.inr (.inl ⟨g0, g1, rfl, Fx.len_auto h⟩))
      · exact .inr (.inr (.inr ⟨g0, g1, rfl, trivial⟩))

set_option maxRecDepth 100000 in
set_option maxHeartbeats 16000000 in
theorem lsideslaw_walk (k0 n0 k1 n1 k2 n2 k3 n3 base other : Int) (w : World) : Calls Try.prog 7 #[.agg #[.int .i64 k0, .int .i64 n0, .int .i64 k1, .int .i64 n1, .int .i64 k2, .int .i64 n2, .int .i64 k3, .int .i64 n3], .int .i64 base, .int .i64 other] w fun e w' => e = .returned (.bool true) ∧ Below w.heap.size w w' := by
  go_enter Try.func7, Try.ntmps7
  go_upto_region 1 with (fail)
  (generalize hW : World.alloc w _ = W0; have A0 : At W0 (w.heap.size) (.cells #[.int .i64 k0, .int .i64 n0, .int .i64 k1, .int .i64 n1, .int .i64 k2, .int .i64 n2, .int .i64 k3, .int .i64 n3] 25) := (by ((rw [← hW]) <;> exact At.new' _ (by first | done | rfl | simp))); have hB : Below w.heap.size w W0 := (by ((rw [← hW]) <;> exact Below.alloc' (Below.refl _ _) _)); clear hW; obtain ⟨l0, c0_0, c0_1, c0_2, c0_3, c0_4, c0_5, c0_6, c0_7⟩ := At.eight A0)
  go_upto_region 5 with (first | (go_at_call 10; (with_reducible refine (lworks_any _).mono ?_); rintro e w' ⟨rfl, hb⟩; (clear l0 c0_0 c0_1 c0_2 c0_3 c0_4 c0_5 c0_6 c0_7); (replace hB := Below.after2 (by first | exact hB | exact Below.alloc' hB _ | exact Below.alloc' (Below.alloc' hB _) _) (Nat.le_refl _) hb); replace A0 := At.keep (by first | exact A0 | exact At.alloc A0 _ | exact At.alloc (At.alloc A0 _) _) hb; clear hb; obtain ⟨l0, c0_0, c0_1, c0_2, c0_3, c0_4, c0_5, c0_6, c0_7⟩ := At.eight A0) | (go_at_call 17; (with_reducible refine (lsides_any _ _ _ _ _ _ _ _ _ _).mono ?_); rintro e w' ⟨rfl, hb⟩; (clear l0 c0_0 c0_1 c0_2 c0_3 c0_4 c0_5 c0_6 c0_7); (replace hB := Below.after2 (by first | exact hB | exact Below.alloc' hB _ | exact Below.alloc' (Below.alloc' hB _) _) (Nat.le_refl _) hb); replace A0 := At.keep (by first | exact A0 | exact At.alloc A0 _ | exact At.alloc (At.alloc A0 _) _) hb; clear hb; obtain ⟨l0, c0_0, c0_1, c0_2, c0_3, c0_4, c0_5, c0_6, c0_7⟩ := At.eight A0))
  generalize hb1 : w'.heap.size = b1
  (generalize hW : World.alloc _ _ = W1; clear l0 c0_0 c0_1 c0_2 c0_3 c0_4 c0_5 c0_6 c0_7; have A1 : At W1 _ _ := hW ▸ At.new _ _; replace A0 : At W1 _ _ := hW ▸ At.alloc A0 _; replace hB : Below w.heap.size w W1 := hW ▸ Below.alloc' hB _; clear hW; obtain ⟨l0, c0_0, c0_1, c0_2, c0_3, c0_4, c0_5, c0_6, c0_7⟩ := At.eight A0; obtain ⟨l1, c1_0, c1_1, c1_2, c1_3⟩ := At.four A1)
  (clear l1 c1_0 c1_1 c1_2 c1_3; rw [hb1] at A1; clear hb1; obtain ⟨l1, c1_0, c1_1, c1_2, c1_3⟩ := At.four A1)
  go_upto_region 6 with (first | (go_at_call 17; (with_reducible refine (lsides_any _ _ _ _ _ _ _ _ _ _).mono ?_); rintro e w' ⟨rfl, hb⟩; (clear l0 c0_0 c0_1 c0_2 c0_3 c0_4 c0_5 c0_6 c0_7 l1 c1_0 c1_1 c1_2 c1_3); (replace hB := Below.after2 (by first | exact hB | exact Below.alloc' hB _ | exact Below.alloc' (Below.alloc' hB _) _) (Nat.le_refl _) hb); replace A0 := At.keep (by first | exact A0 | exact At.alloc A0 _ | exact At.alloc (At.alloc A0 _) _) hb; replace A1 := At.keep (by first | exact A1 | exact At.alloc A1 _ | exact At.alloc (At.alloc A1 _) _) hb; clear hb; obtain ⟨l0, c0_0, c0_1, c0_2, c0_3, c0_4, c0_5, c0_6, c0_7⟩ := At.eight A0; obtain ⟨l1, c1_0, c1_1, c1_2, c1_3⟩ := At.four A1))
  generalize hb2 : w'.heap.size = b2
  (generalize hW : World.alloc _ _ = W2; clear l0 c0_0 c0_1 c0_2 c0_3 c0_4 c0_5 c0_6 c0_7 l1 c1_0 c1_1 c1_2 c1_3; have A2 : At W2 _ _ := hW ▸ At.new _ _; replace A0 : At W2 _ _ := hW ▸ At.alloc A0 _; replace A1 : At W2 _ _ := hW ▸ At.alloc A1 _; replace hB : Below w.heap.size w W2 := hW ▸ Below.alloc' hB _; clear hW; obtain ⟨l0, c0_0, c0_1, c0_2, c0_3, c0_4, c0_5, c0_6, c0_7⟩ := At.eight A0; obtain ⟨l1, c1_0, c1_1, c1_2, c1_3⟩ := At.four A1; obtain ⟨l2, c2_0, c2_1, c2_2, c2_3⟩ := At.four A2)
  (clear l2 c2_0 c2_1 c2_2 c2_3; rw [hb2] at A2; clear hb2)
  go_wp2
  (clear l0 c0_0 c0_1 c0_2 c0_3 c0_4 c0_5 c0_6 c0_7 l1 c1_0 c1_1 c1_2 c1_3)
  go_loopw [10] (fun i wr => ∃ k : Nat, k ≤ 4 ∧ i = .int .i64 k ∧ Hid (At wr w.heap.size (.cells #[.int .i64 k0, .int .i64 n0, .int .i64 k1, .int .i64 n1, .int .i64 k2, .int .i64 n2, .int .i64 k3, .int .i64 n3] 25)) ∧ Hid (At wr b1 (.cells #[.int .i64 (Fx.len k0 n0 base 0), .int .i64 (Fx.len k1 n1 base 0), .int .i64 (Fx.len k2 n2 base 0), .int .i64 (Fx.len k3 n3 base 0)] 30)) ∧ Hid (At wr b2 (.cells #[.int .i64 (Fx.len k0 n0 other 0), .int .i64 (Fx.len k1 n1 other 0), .int .i64 (Fx.len k2 n2 other 0), .int .i64 (Fx.len k3 n3 other 0)] 30)) ∧ Hid (Below w.heap.size w wr)) (fun i _ => 4 - (intOf i).toNat)
  case atStart => exact ⟨0, by omega, rfl, Lib.hid A0, Lib.hid A1, Lib.hid A2, Lib.hid hB⟩
  case round =>
    clear A0 A1 A2 hB
    obtain ⟨k, hk, rfl, H0, H1, H2, HB⟩ := hrel
    have A0 := H0.out
    have A1 := H1.out
    have A2 := H2.out
    have hB := HB.out
    clear H0 H1 H2 HB
    obtain ⟨l0, c0_0, c0_1, c0_2, c0_3, c0_4, c0_5, c0_6, c0_7⟩ := At.eight A0
    obtain ⟨l1, c1_0, c1_1, c1_2, c1_3⟩ := At.four A1
    obtain ⟨l2, c2_0, c2_1, c2_2, c2_3⟩ := At.four A2
    rcases (by omega : k = 0 ∨ k = 1 ∨ k = 2 ∨ k = 3 ∨ k = 4) with hk' | hk' | hk' | hk' | hk'
    · subst hk'
      rcases len_kinds k0 n0 base other with ⟨g0, g1, g2, g3⟩ | ⟨g0, g1, g2, g3⟩ | ⟨g0, g1, g2, g3⟩ | ⟨g0, g1, g2, g3⟩
      all_goals
        go_upto_region 9 with (fail)
        refine Drawn.wp_region_from (Below.refl _ _) (by kernel_rfl) (by kernel_rfl) (by kernel_rfl) ?_
        (repeat (first | (refine Drawn.seq_skip (by rfl) ?_; (try simp only [Act.put, List.setIfInBounds_toArray, List.set_cons_zero, List.set_cons_succ])) | (refine Drawn.seq_call (o := ⟨_, .call ⟨.value _, _, _⟩, _, _, _, _⟩) (by rfl) (by intro w2 hS; go_simp; first | done | with_reducible rfl | exact ⟨rfl, rfl⟩) (by intro w2 hS; first | ((with_reducible refine (len_any _ _ _ _ _).mono ?_); rintro e w' ⟨rfl, hb⟩; exact ⟨rfl, Below.after hS hb⟩) | ((with_reducible refine (fixed_any _ _ _ _).mono ?_); rintro e w' ⟨rfl, hb⟩; exact ⟨rfl, Below.after hS hb⟩)) ?_; (try simp only [Act.put, List.setIfInBounds_toArray, List.set_cons_zero, List.set_cons_succ])) | (refine Drawn.seq_value (by rfl) (by intro w2 hS; obtain ⟨hc, hf⟩ := bcell hS; go_simp; first | done | with_reducible rfl | exact ⟨rfl, rfl⟩) ?_; (try simp only [Act.put, List.setIfInBounds_toArray, List.set_cons_zero, List.set_cons_succ]))))
        refine Drawn.seq_end ?_; intro w2 hS
        (clear l0 c0_0 c0_1 c0_2 c0_3 c0_4 c0_5 c0_6 c0_7 l1 c1_0 c1_1 c1_2 c1_3 l2 c2_0 c2_1 c2_2 c2_3); (replace hB := Below.after2 (by first | exact hB | exact Below.alloc' hB _ | exact Below.alloc' (Below.alloc' hB _) _) (Nat.le_refl _) hS); replace A0 := At.keep (by first | exact A0 | exact At.alloc A0 _ | exact At.alloc (At.alloc A0 _) _) hS; replace A1 := At.keep (by first | exact A1 | exact At.alloc A1 _ | exact At.alloc (At.alloc A1 _) _) hS; replace A2 := At.keep (by first | exact A2 | exact At.alloc A2 _ | exact At.alloc (At.alloc A2 _) _) hS; clear hS; obtain ⟨l0, c0_0, c0_1, c0_2, c0_3, c0_4, c0_5, c0_6, c0_7⟩ := At.eight A0; obtain ⟨l1, c1_0, c1_1, c1_2, c1_3⟩ := At.four A1; obtain ⟨l2, c2_0, c2_1, c2_2, c2_3⟩ := At.four A2
        go_wp2
        go_roundw
        case rel => exact ⟨1, by omega, rfl, Lib.hid A0, Lib.hid A1, Lib.hid A2, Lib.hid hB⟩
        case measure => simp [intOf]
    · subst hk'
      rcases len_kinds k1 n1 base other with ⟨g0, g1, g2, g3⟩ | ⟨g0, g1, g2, g3⟩ | ⟨g0, g1, g2, g3⟩ | ⟨g0, g1, g2, g3⟩
      all_goals
        go_upto_region 9 with (fail)
        refine Drawn.wp_region_from (Below.refl _ _) (by kernel_rfl) (by kernel_rfl) (by kernel_rfl) ?_
        (repeat (first | (refine Drawn.seq_skip (by rfl) ?_; (try simp only [Act.put, List.setIfInBounds_toArray, List.set_cons_zero, List.set_cons_succ])) | (refine Drawn.seq_call (o := ⟨_, .call ⟨.value _, _, _⟩, _, _, _, _⟩) (by rfl) (by intro w2 hS; go_simp; first | done | with_reducible rfl | exact ⟨rfl, rfl⟩) (by intro w2 hS; first | ((with_reducible refine (len_any _ _ _ _ _).mono ?_); rintro e w' ⟨rfl, hb⟩; exact ⟨rfl, Below.after hS hb⟩) | ((with_reducible refine (fixed_any _ _ _ _).mono ?_); rintro e w' ⟨rfl, hb⟩; exact ⟨rfl, Below.after hS hb⟩)) ?_; (try simp only [Act.put, List.setIfInBounds_toArray, List.set_cons_zero, List.set_cons_succ])) | (refine Drawn.seq_value (by rfl) (by intro w2 hS; obtain ⟨hc, hf⟩ := bcell hS; go_simp; first | done | with_reducible rfl | exact ⟨rfl, rfl⟩) ?_; (try simp only [Act.put, List.setIfInBounds_toArray, List.set_cons_zero, List.set_cons_succ]))))
        refine Drawn.seq_end ?_; intro w2 hS
        (clear l0 c0_0 c0_1 c0_2 c0_3 c0_4 c0_5 c0_6 c0_7 l1 c1_0 c1_1 c1_2 c1_3 l2 c2_0 c2_1 c2_2 c2_3); (replace hB := Below.after2 (by first | exact hB | exact Below.alloc' hB _ | exact Below.alloc' (Below.alloc' hB _) _) (Nat.le_refl _) hS); replace A0 := At.keep (by first | exact A0 | exact At.alloc A0 _ | exact At.alloc (At.alloc A0 _) _) hS; replace A1 := At.keep (by first | exact A1 | exact At.alloc A1 _ | exact At.alloc (At.alloc A1 _) _) hS; replace A2 := At.keep (by first | exact A2 | exact At.alloc A2 _ | exact At.alloc (At.alloc A2 _) _) hS; clear hS; obtain ⟨l0, c0_0, c0_1, c0_2, c0_3, c0_4, c0_5, c0_6, c0_7⟩ := At.eight A0; obtain ⟨l1, c1_0, c1_1, c1_2, c1_3⟩ := At.four A1; obtain ⟨l2, c2_0, c2_1, c2_2, c2_3⟩ := At.four A2
        go_wp2
        go_roundw
        case rel => exact ⟨2, by omega, rfl, Lib.hid A0, Lib.hid A1, Lib.hid A2, Lib.hid hB⟩
        case measure => simp [intOf]
    · subst hk'
      rcases len_kinds k2 n2 base other with ⟨g0, g1, g2, g3⟩ | ⟨g0, g1, g2, g3⟩ | ⟨g0, g1, g2, g3⟩ | ⟨g0, g1, g2, g3⟩
      all_goals
        go_upto_region 9 with (fail)
        refine Drawn.wp_region_from (Below.refl _ _) (by kernel_rfl) (by kernel_rfl) (by kernel_rfl) ?_
        (repeat (first | (refine Drawn.seq_skip (by rfl) ?_; (try simp only [Act.put, List.setIfInBounds_toArray, List.set_cons_zero, List.set_cons_succ])) | (refine Drawn.seq_call (o := ⟨_, .call ⟨.value _, _, _⟩, _, _, _, _⟩) (by rfl) (by intro w2 hS; go_simp; first | done | with_reducible rfl | exact ⟨rfl, rfl⟩) (by intro w2 hS; first | ((with_reducible refine (len_any _ _ _ _ _).mono ?_); rintro e w' ⟨rfl, hb⟩; exact ⟨rfl, Below.after hS hb⟩) | ((with_reducible refine (fixed_any _ _ _ _).mono ?_); rintro e w' ⟨rfl, hb⟩; exact ⟨rfl, Below.after hS hb⟩)) ?_; (try simp only [Act.put, List.setIfInBounds_toArray, List.set_cons_zero, List.set_cons_succ])) | (refine Drawn.seq_value (by rfl) (by intro w2 hS; obtain ⟨hc, hf⟩ := bcell hS; go_simp; first | done | with_reducible rfl | exact ⟨rfl, rfl⟩) ?_; (try simp only [Act.put, List.setIfInBounds_toArray, List.set_cons_zero, List.set_cons_succ]))))
        refine Drawn.seq_end ?_; intro w2 hS
        (clear l0 c0_0 c0_1 c0_2 c0_3 c0_4 c0_5 c0_6 c0_7 l1 c1_0 c1_1 c1_2 c1_3 l2 c2_0 c2_1 c2_2 c2_3); (replace hB := Below.after2 (by first | exact hB | exact Below.alloc' hB _ | exact Below.alloc' (Below.alloc' hB _) _) (Nat.le_refl _) hS); replace A0 := At.keep (by first | exact A0 | exact At.alloc A0 _ | exact At.alloc (At.alloc A0 _) _) hS; replace A1 := At.keep (by first | exact A1 | exact At.alloc A1 _ | exact At.alloc (At.alloc A1 _) _) hS; replace A2 := At.keep (by first | exact A2 | exact At.alloc A2 _ | exact At.alloc (At.alloc A2 _) _) hS; clear hS; obtain ⟨l0, c0_0, c0_1, c0_2, c0_3, c0_4, c0_5, c0_6, c0_7⟩ := At.eight A0; obtain ⟨l1, c1_0, c1_1, c1_2, c1_3⟩ := At.four A1; obtain ⟨l2, c2_0, c2_1, c2_2, c2_3⟩ := At.four A2
        go_wp2
        go_roundw
        case rel => exact ⟨3, by omega, rfl, Lib.hid A0, Lib.hid A1, Lib.hid A2, Lib.hid hB⟩
        case measure => simp [intOf]
    · subst hk'
      rcases len_kinds k3 n3 base other with ⟨g0, g1, g2, g3⟩ | ⟨g0, g1, g2, g3⟩ | ⟨g0, g1, g2, g3⟩ | ⟨g0, g1, g2, g3⟩
      all_goals
        go_upto_region 9 with (fail)
        refine Drawn.wp_region_from (Below.refl _ _) (by kernel_rfl) (by kernel_rfl) (by kernel_rfl) ?_
        (repeat (first | (refine Drawn.seq_skip (by rfl) ?_; (try simp only [Act.put, List.setIfInBounds_toArray, List.set_cons_zero, List.set_cons_succ])) | (refine Drawn.seq_call (o := ⟨_, .call ⟨.value _, _, _⟩, _, _, _, _⟩) (by rfl) (by intro w2 hS; go_simp; first | done | with_reducible rfl | exact ⟨rfl, rfl⟩) (by intro w2 hS; first | ((with_reducible refine (len_any _ _ _ _ _).mono ?_); rintro e w' ⟨rfl, hb⟩; exact ⟨rfl, Below.after hS hb⟩) | ((with_reducible refine (fixed_any _ _ _ _).mono ?_); rintro e w' ⟨rfl, hb⟩; exact ⟨rfl, Below.after hS hb⟩)) ?_; (try simp only [Act.put, List.setIfInBounds_toArray, List.set_cons_zero, List.set_cons_succ])) | (refine Drawn.seq_value (by rfl) (by intro w2 hS; obtain ⟨hc, hf⟩ := bcell hS; go_simp; first | done | with_reducible rfl | exact ⟨rfl, rfl⟩) ?_; (try simp only [Act.put, List.setIfInBounds_toArray, List.set_cons_zero, List.set_cons_succ]))))
        refine Drawn.seq_end ?_; intro w2 hS
        (clear l0 c0_0 c0_1 c0_2 c0_3 c0_4 c0_5 c0_6 c0_7 l1 c1_0 c1_1 c1_2 c1_3 l2 c2_0 c2_1 c2_2 c2_3); (replace hB := Below.after2 (by first | exact hB | exact Below.alloc' hB _ | exact Below.alloc' (Below.alloc' hB _) _) (Nat.le_refl _) hS); replace A0 := At.keep (by first | exact A0 | exact At.alloc A0 _ | exact At.alloc (At.alloc A0 _) _) hS; replace A1 := At.keep (by first | exact A1 | exact At.alloc A1 _ | exact At.alloc (At.alloc A1 _) _) hS; replace A2 := At.keep (by first | exact A2 | exact At.alloc A2 _ | exact At.alloc (At.alloc A2 _) _) hS; clear hS; obtain ⟨l0, c0_0, c0_1, c0_2, c0_3, c0_4, c0_5, c0_6, c0_7⟩ := At.eight A0; obtain ⟨l1, c1_0, c1_1, c1_2, c1_3⟩ := At.four A1; obtain ⟨l2, c2_0, c2_1, c2_2, c2_3⟩ := At.four A2
        go_wp2
        go_roundw
        case rel => exact ⟨4, by omega, rfl, Lib.hid A0, Lib.hid A1, Lib.hid A2, Lib.hid hB⟩
        case measure => simp [intOf]
    · subst hk'
      go_wp2
      go_ret
      exact ⟨rfl, hB⟩

end Go.Proofs.Ythpocilmnohahaa.Fix
