/- RectCorners: it returns true, and leaves all that was there as it was. -/
import Derived.Test.YtfmbmgkckdlhfaaRectLaws
import Derived.IntWalk
namespace Go.Proofs.Ytfmbmgkckdlhfaa.Fix
open Go.ChangeShapes Go.WideShapes Go.ChangeAt Go.RowKit
set_option linter.unusedVariables false

set_option maxRecDepth 100000 in
set_option maxHeartbeats 8000000 in
theorem corners_1 (x y a b n : Int) (w : World) (x1 : -1073741824 ≤ x) (x2 : x ≤ 1073741824) (y1 : -1073741824 ≤ y) (y2 : y ≤ 1073741824) (a1 : 0 ≤ a) (a2 : a ≤ 1073741824) (b1 : 0 ≤ b) (b2 : b ≤ 1073741824) (n1 : -1073741824 ≤ n) (n2 : n ≤ 1073741824) (hw : 0<a) (hh : 0<b) :
    Calls Try.prog 5 #[.int .i64 x, .int .i64 y, .int .i64 a, .int .i64 b, .int .i64 n] w fun e w' => e = .returned (.bool true) ∧ Below w.heap.size w w' := by
  have q := run_eql_rect
  have q0 := guard_pt
  have e1 : Fx.cut x = x := Fx.cut_plain (by omega) (by omega)
  have e2 : Fx.cut y = y := Fx.cut_plain (by omega) (by omega)
  have e3 : Fx.cut a = a := Fx.cut_plain (by omega) (by omega)
  have e4 : Fx.cut b = b := Fx.cut_plain (by omega) (by omega)
  have e5 : Fx.cut n = n := Fx.cut_plain (by omega) (by omega)
  have e6 : Fx.mx a 0 = a := Fx.mx_zero a1
  have e7 : Fx.mx b 0 = b := Fx.mx_zero b1
  have e8 : Fx.cut (x + a) = x + a := Fx.cut_plain (by omega) (by omega)
  have e9 : Fx.cut (y + b) = y + b := Fx.cut_plain (by omega) (by omega)
  have e10 : Fx.cut (x + a - 1) = x + a - 1 := Fx.cut_plain (by omega) (by omega)
  have e11 : Fx.cut (y + b - 1) = y + b - 1 := Fx.cut_plain (by omega) (by omega)
  have e12 : Fx.hi x a = x + a := Fx.hi_plain (by omega) (by omega) a1 (by omega)
  have e13 : Fx.hi y b = y + b := Fx.hi_plain (by omega) (by omega) b1 (by omega)
  have e14 : Fx.size x (x + a) = a := by rw [Fx.size_plain (by omega) (by omega) (by omega)]; omega
  have e15 : Fx.size y (y + b) = b := by rw [Fx.size_plain (by omega) (by omega) (by omega)]; omega
  have P := fun p q => @Fx.hasR_plain x y a b p q (by omega) (by omega) (by omega) (by omega) (by omega) (by omega) (by omega) (by omega)
  have f1 : Fx.hasR x y a b x y = true := by rw [P]; simp; omega
  have f2 : Fx.hasR x y a b (x + a) y = false := by rw [P]; simp
  have f3 : Fx.hasR x y a b x (y + b) = false := by rw [P]; simp
  have f4 : Fx.hasR x y a b (x + a - 1) (y + b - 1) = true := by rw [P]; simp; omega
  have P5 := Lib.hid (P n y)
  clear P
  have g1 : IntKind.i64.wrap (x + a) = x + a := IntWalk.i64_in _ (by omega)
  have g2 : IntKind.i64.wrap (y + b) = y + b := IntWalk.i64_in _ (by omega)
  have g3 : IntKind.i64.wrap (x + a - 1) = x + a - 1 := IntWalk.i64_in _ (by omega)
  have g4 : IntKind.i64.wrap (y + b - 1) = y + b - 1 := IntWalk.i64_in _ (by omega)
  have d1 : decide (0 < a) = true := by simp; omega
  have d2 : decide (0 < b) = true := by simp; omega
  have d3 : decide (x < -1073741824) = false := by simp; omega
  have d4 : decide (1073741824 < x) = false := by simp; omega
  have d5 : decide (y < -1073741824) = false := by simp; omega
  have d6 : decide (1073741824 < y) = false := by simp; omega
  have d7 : decide (a < 0) = false := by simp; omega
  have d8 : decide (1073741824 < a) = false := by simp; omega
  have d9 : decide (b < 0) = false := by simp; omega
  have d10 : decide (1073741824 < b) = false := by simp; omega
  have d11 : decide (n < -1073741824) = false := by simp; omega
  have d12 : decide (1073741824 < n) = false := by simp; omega
  go_enter Try.func5, Try.ntmps5
  go_upto_region 6 with (first | (go_at_call 7; (with_reducible refine (rworks_any _).mono ?_); rintro e w' ⟨rfl, hb⟩; (try replace hb := Below.after (by assumption) hb); obtain ⟨hc, hf⟩ := bcell hb; have hz := hb.size; (try simp at hz)))
  have hB := hb
  clear hb hc hf hz
  go_upto_region 7 with (go_at_call 16; (with_reducible refine (ofR_any _ _ _ _ _).mono ?_); rintro e w' ⟨rfl, hb⟩; (replace hB := Below.after2 hB (Nat.le_refl _) hb); clear hb)
  (generalize hW : World.alloc _ _ = W1; have A0 : At W1 _ _ := hW ▸ At.new _ _; replace hB : Below w.heap.size w W1 := hW ▸ Below.alloc' hB _; clear hW; obtain ⟨l0, c0_0, c0_1, c0_2, c0_3⟩ := At.four A0)
  go_upto_region 8 with (fail)
  refine Drawn.wp_region_from (Below.refl _ _) (by kernel_rfl) (by kernel_rfl) (by kernel_rfl) ?_
  (repeat (first | (refine Drawn.seq_skip (by rfl) ?_; (try simp only [Act.put, List.setIfInBounds_toArray, List.set_cons_zero, List.set_cons_succ])) | (refine Drawn.seq_call (o := ⟨_, .call ⟨.value _, _, _⟩, _, _, _, _⟩) (by rfl) (by intro w2 hS; go_simp; first | done | with_reducible rfl | exact ⟨rfl, rfl⟩) (by intro w2 hS; first | ((with_reducible refine (of_any _ _ _).mono ?_); rintro e w' ⟨rfl, rfl⟩; exact ⟨rfl, hS⟩) | ((with_reducible refine (hasR_any _ _ _ _ _ _ _).mono ?_); rintro e w' ⟨rfl, hb⟩; exact ⟨rfl, Below.after hS hb⟩)) ?_; (try simp only [Act.put, List.setIfInBounds_toArray, List.set_cons_zero, List.set_cons_succ])) | (refine Drawn.seq_value (by rfl) (by intro w2 hS; obtain ⟨hc, hf⟩ := bcell hS; go_simp; first | done | with_reducible rfl | exact ⟨rfl, rfl⟩) ?_; (try simp only [Act.put, List.setIfInBounds_toArray, List.set_cons_zero, List.set_cons_succ]))))
  refine Drawn.seq_end ?_; intro w2 hS
  (clear l0 c0_0 c0_1 c0_2 c0_3); (replace hB := Below.after2 (by first | exact hB | exact Below.alloc' hB _ | exact Below.alloc' (Below.alloc' hB _) _) (Nat.le_refl _) hS); replace A0 := At.keep (by first | exact A0 | exact At.alloc A0 _ | exact At.alloc (At.alloc A0 _) _) hS; clear hS; obtain ⟨l0, c0_0, c0_1, c0_2, c0_3⟩ := At.four A0
  go_upto_region 9 with (fail)
  by_cases k1 : x ≤ n <;> by_cases k2 : n < x + a
  · have k3 : decide (x ≤ n) = true := by simpa using k1
    have k4 : decide (n < x + a) = true := by simpa using k2
    have f5 : Fx.hasR x y a b n y = true := by rw [P5.out]; simp; omega
    clear k1 k2
    refine Drawn.wp_region_from (Below.refl _ _) (by kernel_rfl) (by kernel_rfl) (by kernel_rfl) ?_
    (repeat (first | (refine Drawn.seq_skip (by rfl) ?_; (try simp only [Act.put, List.setIfInBounds_toArray, List.set_cons_zero, List.set_cons_succ])) | (refine Drawn.seq_call (o := ⟨_, .call ⟨.value _, _, _⟩, _, _, _, _⟩) (by rfl) (by intro w2 hS; go_simp; first | done | with_reducible rfl | exact ⟨rfl, rfl⟩) (by intro w2 hS; first | ((with_reducible refine (of_any _ _ _).mono ?_); rintro e w' ⟨rfl, rfl⟩; exact ⟨rfl, hS⟩) | ((with_reducible refine (hasR_any _ _ _ _ _ _ _).mono ?_); rintro e w' ⟨rfl, hb⟩; exact ⟨rfl, Below.after hS hb⟩) | ((with_reducible refine (across_any _ _ _ _ _).mono ?_); rintro e w' ⟨rfl, hb⟩; exact ⟨rfl, Below.after hS hb⟩) | ((with_reducible refine (down_span _ _ _ _ _).mono ?_); rintro e w' ⟨rfl, hb⟩; exact ⟨rfl, Below.after hS hb⟩) | ((with_reducible refine (byR_any _ _ _ _ _).mono ?_); rintro e w' ⟨rfl, hb⟩; exact ⟨rfl, Below.after hS hb⟩)) ?_; (try simp only [Act.put, List.setIfInBounds_toArray, List.set_cons_zero, List.set_cons_succ])) | (refine Drawn.seq_value (by rfl) (by intro w2 hS; obtain ⟨hc, hf⟩ := bcell hS; go_simp; first | done | with_reducible rfl | exact ⟨rfl, rfl⟩) ?_; (try simp only [Act.put, List.setIfInBounds_toArray, List.set_cons_zero, List.set_cons_succ]))))
    refine Drawn.seq_end ?_; intro w2 hS
    go_wp2
    go_ret
    exact ⟨rfl, Below.after2 hB (Nat.le_refl _) hS⟩
  · have k3 : decide (x ≤ n) = true := by simpa using k1
    have k4 : decide (n < x + a) = false := by simpa using k2
    have f5 : Fx.hasR x y a b n y = false := by rw [P5.out]; simp; omega
    clear k1 k2
    refine Drawn.wp_region_from (Below.refl _ _) (by kernel_rfl) (by kernel_rfl) (by kernel_rfl) ?_
    (repeat (first | (refine Drawn.seq_skip (by rfl) ?_; (try simp only [Act.put, List.setIfInBounds_toArray, List.set_cons_zero, List.set_cons_succ])) | (refine Drawn.seq_call (o := ⟨_, .call ⟨.value _, _, _⟩, _, _, _, _⟩) (by rfl) (by intro w2 hS; go_simp; first | done | with_reducible rfl | exact ⟨rfl, rfl⟩) (by intro w2 hS; first | ((with_reducible refine (of_any _ _ _).mono ?_); rintro e w' ⟨rfl, rfl⟩; exact ⟨rfl, hS⟩) | ((with_reducible refine (hasR_any _ _ _ _ _ _ _).mono ?_); rintro e w' ⟨rfl, hb⟩; exact ⟨rfl, Below.after hS hb⟩) | ((with_reducible refine (across_any _ _ _ _ _).mono ?_); rintro e w' ⟨rfl, hb⟩; exact ⟨rfl, Below.after hS hb⟩) | ((with_reducible refine (down_span _ _ _ _ _).mono ?_); rintro e w' ⟨rfl, hb⟩; exact ⟨rfl, Below.after hS hb⟩) | ((with_reducible refine (byR_any _ _ _ _ _).mono ?_); rintro e w' ⟨rfl, hb⟩; exact ⟨rfl, Below.after hS hb⟩)) ?_; (try simp only [Act.put, List.setIfInBounds_toArray, List.set_cons_zero, List.set_cons_succ])) | (refine Drawn.seq_value (by rfl) (by intro w2 hS; obtain ⟨hc, hf⟩ := bcell hS; go_simp; first | done | with_reducible rfl | exact ⟨rfl, rfl⟩) ?_; (try simp only [Act.put, List.setIfInBounds_toArray, List.set_cons_zero, List.set_cons_succ]))))
    refine Drawn.seq_end ?_; intro w2 hS
    go_wp2
    go_ret
    exact ⟨rfl, Below.after2 hB (Nat.le_refl _) hS⟩
  · have k3 : decide (x ≤ n) = false := by simpa using k1
    have f5 : Fx.hasR x y a b n y = false := by rw [P5.out]; simp; omega
    clear k1 k2
    refine Drawn.wp_region_from (Below.refl _ _) (by kernel_rfl) (by kernel_rfl) (by kernel_rfl) ?_
    (repeat (first | (refine Drawn.seq_skip (by rfl) ?_; (try simp only [Act.put, List.setIfInBounds_toArray, List.set_cons_zero, List.set_cons_succ])) | (refine Drawn.seq_call (o := ⟨_, .call ⟨.value _, _, _⟩, _, _, _, _⟩) (by rfl) (by intro w2 hS; go_simp; first | done | with_reducible rfl | exact ⟨rfl, rfl⟩) (by intro w2 hS; first | ((with_reducible refine (of_any _ _ _).mono ?_); rintro e w' ⟨rfl, rfl⟩; exact ⟨rfl, hS⟩) | ((with_reducible refine (hasR_any _ _ _ _ _ _ _).mono ?_); rintro e w' ⟨rfl, hb⟩; exact ⟨rfl, Below.after hS hb⟩) | ((with_reducible refine (across_any _ _ _ _ _).mono ?_); rintro e w' ⟨rfl, hb⟩; exact ⟨rfl, Below.after hS hb⟩) | ((with_reducible refine (down_span _ _ _ _ _).mono ?_); rintro e w' ⟨rfl, hb⟩; exact ⟨rfl, Below.after hS hb⟩) | ((with_reducible refine (byR_any _ _ _ _ _).mono ?_); rintro e w' ⟨rfl, hb⟩; exact ⟨rfl, Below.after hS hb⟩)) ?_; (try simp only [Act.put, List.setIfInBounds_toArray, List.set_cons_zero, List.set_cons_succ])) | (refine Drawn.seq_value (by rfl) (by intro w2 hS; obtain ⟨hc, hf⟩ := bcell hS; go_simp; first | done | with_reducible rfl | exact ⟨rfl, rfl⟩) ?_; (try simp only [Act.put, List.setIfInBounds_toArray, List.set_cons_zero, List.set_cons_succ]))))
    refine Drawn.seq_end ?_; intro w2 hS
    go_wp2
    go_ret
    exact ⟨rfl, Below.after2 hB (Nat.le_refl _) hS⟩
  · exfalso; omega

set_option maxRecDepth 100000 in
set_option maxHeartbeats 8000000 in
theorem corners_3 (x y a b n : Int) (w : World) (x1 : -1073741824 ≤ x) (x2 : x ≤ 1073741824) (y1 : -1073741824 ≤ y) (y2 : y ≤ 1073741824) (a1 : 0 ≤ a) (a2 : a ≤ 1073741824) (b1 : 0 ≤ b) (b2 : b ≤ 1073741824) (n1 : -1073741824 ≤ n) (n2 : n ≤ 1073741824) (hw : a≤0) (hh : 0<b) :
    Calls Try.prog 5 #[.int .i64 x, .int .i64 y, .int .i64 a, .int .i64 b, .int .i64 n] w fun e w' => e = .returned (.bool true) ∧ Below w.heap.size w w' := by
  have q := run_eql_rect
  have q0 := guard_pt
  have e1 : Fx.cut x = x := Fx.cut_plain (by omega) (by omega)
  have e2 : Fx.cut y = y := Fx.cut_plain (by omega) (by omega)
  have e3 : Fx.cut a = a := Fx.cut_plain (by omega) (by omega)
  have e4 : Fx.cut b = b := Fx.cut_plain (by omega) (by omega)
  have e5 : Fx.cut n = n := Fx.cut_plain (by omega) (by omega)
  have e6 : Fx.mx a 0 = a := Fx.mx_zero a1
  have e7 : Fx.mx b 0 = b := Fx.mx_zero b1
  have e8 : Fx.cut (x + a) = x + a := Fx.cut_plain (by omega) (by omega)
  have e9 : Fx.cut (y + b) = y + b := Fx.cut_plain (by omega) (by omega)
  have e10 : Fx.cut (x + a - 1) = x + a - 1 := Fx.cut_plain (by omega) (by omega)
  have e11 : Fx.cut (y + b - 1) = y + b - 1 := Fx.cut_plain (by omega) (by omega)
  have e12 : Fx.hi x a = x + a := Fx.hi_plain (by omega) (by omega) a1 (by omega)
  have e13 : Fx.hi y b = y + b := Fx.hi_plain (by omega) (by omega) b1 (by omega)
  have e14 : Fx.size x (x + a) = a := by rw [Fx.size_plain (by omega) (by omega) (by omega)]; omega
  have e15 : Fx.size y (y + b) = b := by rw [Fx.size_plain (by omega) (by omega) (by omega)]; omega
  have P := fun p q => @Fx.hasR_plain x y a b p q (by omega) (by omega) (by omega) (by omega) (by omega) (by omega) (by omega) (by omega)
  have f1 : Fx.hasR x y a b x y = false := by rw [P]; simp; omega
  have f2 : Fx.hasR x y a b (x + a) y = false := by rw [P]; simp
  have f3 : Fx.hasR x y a b x (y + b) = false := by rw [P]; simp
  have f4 : Fx.hasR x y a b (x + a - 1) (y + b - 1) = false := by rw [P]; simp; omega
  have P5 := Lib.hid (P n y)
  clear P
  have g1 : IntKind.i64.wrap (x + a) = x + a := IntWalk.i64_in _ (by omega)
  have g2 : IntKind.i64.wrap (y + b) = y + b := IntWalk.i64_in _ (by omega)
  have g3 : IntKind.i64.wrap (x + a - 1) = x + a - 1 := IntWalk.i64_in _ (by omega)
  have g4 : IntKind.i64.wrap (y + b - 1) = y + b - 1 := IntWalk.i64_in _ (by omega)
  have d1 : decide (0 < a) = false := by simp; omega
  have d2 : decide (0 < b) = true := by simp; omega
  have d3 : decide (x < -1073741824) = false := by simp; omega
  have d4 : decide (1073741824 < x) = false := by simp; omega
  have d5 : decide (y < -1073741824) = false := by simp; omega
  have d6 : decide (1073741824 < y) = false := by simp; omega
  have d7 : decide (a < 0) = false := by simp; omega
  have d8 : decide (1073741824 < a) = false := by simp; omega
  have d9 : decide (b < 0) = false := by simp; omega
  have d10 : decide (1073741824 < b) = false := by simp; omega
  have d11 : decide (n < -1073741824) = false := by simp; omega
  have d12 : decide (1073741824 < n) = false := by simp; omega
  go_enter Try.func5, Try.ntmps5
  go_upto_region 6 with (first | (go_at_call 7; (with_reducible refine (rworks_any _).mono ?_); rintro e w' ⟨rfl, hb⟩; (try replace hb := Below.after (by assumption) hb); obtain ⟨hc, hf⟩ := bcell hb; have hz := hb.size; (try simp at hz)))
  have hB := hb
  clear hb hc hf hz
  go_upto_region 7 with (go_at_call 16; (with_reducible refine (ofR_any _ _ _ _ _).mono ?_); rintro e w' ⟨rfl, hb⟩; (replace hB := Below.after2 hB (Nat.le_refl _) hb); clear hb)
  (generalize hW : World.alloc _ _ = W1; have A0 : At W1 _ _ := hW ▸ At.new _ _; replace hB : Below w.heap.size w W1 := hW ▸ Below.alloc' hB _; clear hW; obtain ⟨l0, c0_0, c0_1, c0_2, c0_3⟩ := At.four A0)
  go_upto_region 8 with (fail)
  refine Drawn.wp_region_from (Below.refl _ _) (by kernel_rfl) (by kernel_rfl) (by kernel_rfl) ?_
  (repeat (first | (refine Drawn.seq_skip (by rfl) ?_; (try simp only [Act.put, List.setIfInBounds_toArray, List.set_cons_zero, List.set_cons_succ])) | (refine Drawn.seq_call (o := ⟨_, .call ⟨.value _, _, _⟩, _, _, _, _⟩) (by rfl) (by intro w2 hS; go_simp; first | done | with_reducible rfl | exact ⟨rfl, rfl⟩) (by intro w2 hS; first | ((with_reducible refine (of_any _ _ _).mono ?_); rintro e w' ⟨rfl, rfl⟩; exact ⟨rfl, hS⟩) | ((with_reducible refine (hasR_any _ _ _ _ _ _ _).mono ?_); rintro e w' ⟨rfl, hb⟩; exact ⟨rfl, Below.after hS hb⟩)) ?_; (try simp only [Act.put, List.setIfInBounds_toArray, List.set_cons_zero, List.set_cons_succ])) | (refine Drawn.seq_value (by rfl) (by intro w2 hS; obtain ⟨hc, hf⟩ := bcell hS; go_simp; first | done | with_reducible rfl | exact ⟨rfl, rfl⟩) ?_; (try simp only [Act.put, List.setIfInBounds_toArray, List.set_cons_zero, List.set_cons_succ]))))
  refine Drawn.seq_end ?_; intro w2 hS
  (clear l0 c0_0 c0_1 c0_2 c0_3); (replace hB := Below.after2 (by first | exact hB | exact Below.alloc' hB _ | exact Below.alloc' (Below.alloc' hB _) _) (Nat.le_refl _) hS); replace A0 := At.keep (by first | exact A0 | exact At.alloc A0 _ | exact At.alloc (At.alloc A0 _) _) hS; clear hS; obtain ⟨l0, c0_0, c0_1, c0_2, c0_3⟩ := At.four A0
  go_upto_region 9 with (fail)
  by_cases k1 : x ≤ n <;> by_cases k2 : n < x + a
  · have k3 : decide (x ≤ n) = true := by simpa using k1
    have k4 : decide (n < x + a) = true := by simpa using k2
    have f5 : Fx.hasR x y a b n y = true := by rw [P5.out]; simp; omega
    clear k1 k2
    refine Drawn.wp_region_from (Below.refl _ _) (by kernel_rfl) (by kernel_rfl) (by kernel_rfl) ?_
    (repeat (first | (refine Drawn.seq_skip (by rfl) ?_; (try simp only [Act.put, List.setIfInBounds_toArray, List.set_cons_zero, List.set_cons_succ])) | (refine Drawn.seq_call (o := ⟨_, .call ⟨.value _, _, _⟩, _, _, _, _⟩) (by rfl) (by intro w2 hS; go_simp; first | done | with_reducible rfl | exact ⟨rfl, rfl⟩) (by intro w2 hS; first | ((with_reducible refine (of_any _ _ _).mono ?_); rintro e w' ⟨rfl, rfl⟩; exact ⟨rfl, hS⟩) | ((with_reducible refine (hasR_any _ _ _ _ _ _ _).mono ?_); rintro e w' ⟨rfl, hb⟩; exact ⟨rfl, Below.after hS hb⟩) | ((with_reducible refine (across_any _ _ _ _ _).mono ?_); rintro e w' ⟨rfl, hb⟩; exact ⟨rfl, Below.after hS hb⟩) | ((with_reducible refine (down_span _ _ _ _ _).mono ?_); rintro e w' ⟨rfl, hb⟩; exact ⟨rfl, Below.after hS hb⟩) | ((with_reducible refine (byR_any _ _ _ _ _).mono ?_); rintro e w' ⟨rfl, hb⟩; exact ⟨rfl, Below.after hS hb⟩)) ?_; (try simp only [Act.put, List.setIfInBounds_toArray, List.set_cons_zero, List.set_cons_succ])) | (refine Drawn.seq_value (by rfl) (by intro w2 hS; obtain ⟨hc, hf⟩ := bcell hS; go_simp; first | done | with_reducible rfl | exact ⟨rfl, rfl⟩) ?_; (try simp only [Act.put, List.setIfInBounds_toArray, List.set_cons_zero, List.set_cons_succ]))))
    refine Drawn.seq_end ?_; intro w2 hS
    go_wp2
    go_ret
    exact ⟨rfl, Below.after2 hB (Nat.le_refl _) hS⟩
  · have k3 : decide (x ≤ n) = true := by simpa using k1
    have k4 : decide (n < x + a) = false := by simpa using k2
    have f5 : Fx.hasR x y a b n y = false := by rw [P5.out]; simp; omega
    clear k1 k2
    refine Drawn.wp_region_from (Below.refl _ _) (by kernel_rfl) (by kernel_rfl) (by kernel_rfl) ?_
    (repeat (first | (refine Drawn.seq_skip (by rfl) ?_; (try simp only [Act.put, List.setIfInBounds_toArray, List.set_cons_zero, List.set_cons_succ])) | (refine Drawn.seq_call (o := ⟨_, .call ⟨.value _, _, _⟩, _, _, _, _⟩) (by rfl) (by intro w2 hS; go_simp; first | done | with_reducible rfl | exact ⟨rfl, rfl⟩) (by intro w2 hS; first | ((with_reducible refine (of_any _ _ _).mono ?_); rintro e w' ⟨rfl, rfl⟩; exact ⟨rfl, hS⟩) | ((with_reducible refine (hasR_any _ _ _ _ _ _ _).mono ?_); rintro e w' ⟨rfl, hb⟩; exact ⟨rfl, Below.after hS hb⟩) | ((with_reducible refine (across_any _ _ _ _ _).mono ?_); rintro e w' ⟨rfl, hb⟩; exact ⟨rfl, Below.after hS hb⟩) | ((with_reducible refine (down_span _ _ _ _ _).mono ?_); rintro e w' ⟨rfl, hb⟩; exact ⟨rfl, Below.after hS hb⟩) | ((with_reducible refine (byR_any _ _ _ _ _).mono ?_); rintro e w' ⟨rfl, hb⟩; exact ⟨rfl, Below.after hS hb⟩)) ?_; (try simp only [Act.put, List.setIfInBounds_toArray, List.set_cons_zero, List.set_cons_succ])) | (refine Drawn.seq_value (by rfl) (by intro w2 hS; obtain ⟨hc, hf⟩ := bcell hS; go_simp; first | done | with_reducible rfl | exact ⟨rfl, rfl⟩) ?_; (try simp only [Act.put, List.setIfInBounds_toArray, List.set_cons_zero, List.set_cons_succ]))))
    refine Drawn.seq_end ?_; intro w2 hS
    go_wp2
    go_ret
    exact ⟨rfl, Below.after2 hB (Nat.le_refl _) hS⟩
  · have k3 : decide (x ≤ n) = false := by simpa using k1
    have f5 : Fx.hasR x y a b n y = false := by rw [P5.out]; simp; omega
    clear k1 k2
    refine Drawn.wp_region_from (Below.refl _ _) (by kernel_rfl) (by kernel_rfl) (by kernel_rfl) ?_
    (repeat (first | (refine Drawn.seq_skip (by rfl) ?_; (try simp only [Act.put, List.setIfInBounds_toArray, List.set_cons_zero, List.set_cons_succ])) | (refine Drawn.seq_call (o := ⟨_, .call ⟨.value _, _, _⟩, _, _, _, _⟩) (by rfl) (by intro w2 hS; go_simp; first | done | with_reducible rfl | exact ⟨rfl, rfl⟩) (by intro w2 hS; first | ((with_reducible refine (of_any _ _ _).mono ?_); rintro e w' ⟨rfl, rfl⟩; exact ⟨rfl, hS⟩) | ((with_reducible refine (hasR_any _ _ _ _ _ _ _).mono ?_); rintro e w' ⟨rfl, hb⟩; exact ⟨rfl, Below.after hS hb⟩) | ((with_reducible refine (across_any _ _ _ _ _).mono ?_); rintro e w' ⟨rfl, hb⟩; exact ⟨rfl, Below.after hS hb⟩) | ((with_reducible refine (down_span _ _ _ _ _).mono ?_); rintro e w' ⟨rfl, hb⟩; exact ⟨rfl, Below.after hS hb⟩) | ((with_reducible refine (byR_any _ _ _ _ _).mono ?_); rintro e w' ⟨rfl, hb⟩; exact ⟨rfl, Below.after hS hb⟩)) ?_; (try simp only [Act.put, List.setIfInBounds_toArray, List.set_cons_zero, List.set_cons_succ])) | (refine Drawn.seq_value (by rfl) (by intro w2 hS; obtain ⟨hc, hf⟩ := bcell hS; go_simp; first | done | with_reducible rfl | exact ⟨rfl, rfl⟩) ?_; (try simp only [Act.put, List.setIfInBounds_toArray, List.set_cons_zero, List.set_cons_succ]))))
    refine Drawn.seq_end ?_; intro w2 hS
    go_wp2
    go_ret
    exact ⟨rfl, Below.after2 hB (Nat.le_refl _) hS⟩
  · exfalso; omega

end Go.Proofs.Ytfmbmgkckdlhfaa.Fix
