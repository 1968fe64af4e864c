/- The contract of the library's insertion sort over places that are compared by their keys, where they are in their own order ahead of it. -/
import Derived.Test.YtbmidmpooooheaaPaSort
set_option maxRecDepth 100000
namespace Go.Proofs.Ytbmidmpooooheaa.Fix
open Go.ChangeShapes Go.WideShapes Go.ChangeAt Go.RowKit
set_option linter.unusedVariables false

set_option maxHeartbeats 4000000 in
theorem pins_any (b kb : Nat) (A : Option Addr) (ks : PKS) (X : Nat → Nat) (n c cn a e : Nat) (w : World) (hk : PKeys w b kb A ks n c) (hA : IsV ks w b X n) (hX : ∀ k, a ≤ k → k < e → X k = k) (h1 : a ≤ e) (h2 : e ≤ n) (hn : n ≤ 100000) :
    Calls Try.prog 40 #[.slice (some ⟨b, 0, none⟩) n cn, .int .i64 a, .int .i64 e, .func (.func 32) #[] #[.pointer (some ⟨kb, 0, none⟩)]] w fun x w' => x = .returned (.tuple #[]) ∧ Only b w w' ∧ ∃ Y, IsV ks w' b Y n ∧ So.Sorted (pkey ks) a e Y ∧ So.Same a e X Y := by
  have HX := Lib.hid hX
  have HK0 := Lib.hid hk
  clear hX hk
  obtain ⟨a1, q1, q2⟩ : ∃ a1, a1 ≤ a + 1 ∧ a + 1 ≤ a1 := ⟨a + 1, by omega, by omega⟩
  have w0 : IntKind.i64.wrap ((a : Int) + 1) = (a1 : Int) := by rw [IntWalk.i64_in _ (by omega)]; omega
  go_enter Try.func40, Try.ntmps40
  go_wp2
  go_loopw [8] (fun vi wr => ∃ (i : Nat) (Y : Nat → Nat), vi = .int .i64 i ∧ a < i ∧ (i ≤ e ∨ i ≤ a1) ∧ IsV ks wr b Y n ∧ Only b w wr ∧ Hid (So.Sorted (pkey ks) a i Y ∧ So.Same a (min i e) X Y)) (fun vi _ => n + 2 - (intOf vi).toNat)
  case atStart => exact ⟨a1, X, by go_num, by omega, by omega, hA, Only.refl _ _, Lib.hid ⟨So.Sorted.short _ _ (by omega), So.Same.refl _ _ _⟩⟩
  case round =>
    obtain ⟨i, Y, rfl, hai, hie, hY, hB, HY⟩ := hrel
    by_cases hlt : i < e
    · have HS : Hid (So.Ins (pkey ks) a i i X Y) := Lib.hid (by
        obtain ⟨g1, g2⟩ := HY.out
        rw [Nat.min_eq_left (by omega)] at g2
        exact So.Ins.start (by rw [g2.1 i (Or.inr (Nat.le_refl _)), HX.out i (by omega) hlt]) g1 (g2.all (p := fun v => v < i) (fun k k1 k2 => by rw [HX.out k k1 (by omega)]; exact k2)) (g2.mono (Nat.le_refl _) (by omega)))
      have HI : Hid (min (i + 1) e = i + 1) := Lib.hid (by omega)
      go_wp2
      go_loopw [9] (fun vj wr => ∃ (j : Nat) (Z : Nat → Nat), vj = .int .i64 j ∧ a ≤ j ∧ j ≤ i ∧ IsV ks wr b Z n ∧ Only b w wr ∧ Hid (So.Ins (pkey ks) a i j X Z)) (fun vj _ => (intOf vj).toNat)
      case atStart => exact ⟨i, Y, rfl, by omega, Nat.le_refl _, hY, hB, HS⟩
      case round =>
        clear HS hY hB HY
        obtain ⟨j, Z, rfl, haj, hji, hZ, hB, HZI⟩ := hrel
        have HK := Lib.hid (HK0.out.keep hB)
        by_cases hja : a < j
        · have hja1 : (a : Int) < (j : Int) := by omega
          have hja2 : decide ((a : Int) < (j : Int)) = true := decide_eq_true hja1
          obtain ⟨p, p1, p2⟩ : ∃ p, p + 1 ≤ j ∧ j ≤ p + 1 := ⟨j - 1, by omega, by omega⟩
          have w1 : IntKind.i64.wrap ((j : Int) - 1) = (p : Int) := by rw [IntWalk.i64_in _ (by omega)]; omega
          have HP : Hid (j - 1 = p) := Lib.hid (by omega)
          have jn : j < n := by omega
          have pn : p < n := by omega
          have ne : j ≠ p := by omega
          have ne' : p ≠ j := by omega
          have c1 := hZ.cell jn
          have c2 := hZ.cell pn
          have z1 := hZ.thaw j
          have z2 := hZ.thaw p
          have lb := hZ.lt
          obtain ⟨u, hu⟩ : ∃ u, u = Z j := ⟨_, rfl⟩
          obtain ⟨v, hv⟩ : ∃ v, v = Z p := ⟨_, rfl⟩
          have un : u < n := by have := HZI.out.low haj hji; omega
          have vn : v < n := by have := HZI.out.low (show a ≤ p by omega) (show p ≤ i by omega); omega
          rw [← hu] at c1
          rw [← hv] at c2
          have HU := Lib.hid hu
          have HV := Lib.hid hv
          clear hu hv
          obtain ⟨z, hz⟩ : ∃ z, cmp3 (pkey ks u) (pkey ks v) = z := ⟨_, rfl⟩
          have HZ := Lib.hid hz
          clear hz
          by_cases hz0 : z < 0
          · go_upto_region 4 with (fail)
            refine Drawn.wp_region_from (Below.refl _ _) (by kernel_rfl) (by kernel_rfl) (by kernel_rfl) ?_
            (repeat (first | (refine Drawn.seq_skip (by rfl) ?_; (try simp only [Act.put, List.setIfInBounds_toArray, List.set_cons_zero, List.set_cons_succ])) | (refine Drawn.seq_call (o := ⟨_, .call ⟨.value _, _, _⟩, _, _, _, _⟩) (by rfl) (by intro w2 hS; go_simp; first | done | with_reducible rfl | exact ⟨rfl, rfl⟩) (by intro w2 hS; first | ((with_reducible refine (plow_any _ _ _ _ _ _ _ _ _ _ (HK.out.after hS) (by assumption) (by assumption) HZ.out).mono ?_); rintro e w' ⟨rfl, hb⟩; exact ⟨rfl, Below.after hS hb⟩)) ?_; (try simp only [Act.put, List.setIfInBounds_toArray, List.set_cons_zero, List.set_cons_succ])) | (refine Drawn.seq_value (by rfl) (by intro w2 hS; obtain ⟨hc, hf⟩ := bcell hS; go_simp; first | done | with_reducible rfl | exact ⟨rfl, rfl⟩) ?_; (try simp only [Act.put, List.setIfInBounds_toArray, List.set_cons_zero, List.set_cons_succ]))))
            refine Drawn.seq_end ?_; intro w2 hS
            have hZ2 := hZ.keep hS
            have hB2 : Only b w w2 := hB.trans (Only.of_below hS)
            clear c1 c2 z1 z2 lb hS hZ hB HK
            have c1 := hZ2.cell jn
            have c2 := hZ2.cell pn
            rw [← HU.out] at c1
            rw [← HV.out] at c2
            have z1 := hZ2.thaw j
            have z2 := hZ2.thaw p
            have lb := hZ2.lt
            go_upto_region 6 with (fail)
            go_region
            generalize hW : World.drew _ = W2
            have hZ3 : IsV ks W2 b (So.swap Z j p) n := by
              rw [← hW, HU.out, HV.out]
              exact hZ2.swapped j p
            have hB3 : Only b w W2 := hW ▸ Only.swapped hB2 _ _ _ _
            clear hW c1 c2 z1 z2 lb hZ2 hB2
            go_wp2
            go_roundw
            case rel => exact ⟨p, So.swap Z j p, by go_num, by omega, by omega, hZ3, hB3, Lib.hid (by
              have := HZI.out.step hja hji (by rw [HP.out, ← HU.out, ← HV.out]; exact cmp3_neg.1 (by rw [HZ.out]; exact hz0))
              rw [HP.out] at this; exact this)⟩
            case measure => simp [intOf]; omega
          · have hz1 : decide (z < 0) = false := decide_eq_false hz0
            go_upto_region 4 with (fail)
            refine Drawn.wp_region_from (Below.refl _ _) (by kernel_rfl) (by kernel_rfl) (by kernel_rfl) ?_
            (repeat (first | (refine Drawn.seq_skip (by rfl) ?_; (try simp only [Act.put, List.setIfInBounds_toArray, List.set_cons_zero, List.set_cons_succ])) | (refine Drawn.seq_call (o := ⟨_, .call ⟨.value _, _, _⟩, _, _, _, _⟩) (by rfl) (by intro w2 hS; go_simp; first | done | with_reducible rfl | exact ⟨rfl, rfl⟩) (by intro w2 hS; first | ((with_reducible refine (plow_any _ _ _ _ _ _ _ _ _ _ (HK.out.after hS) (by assumption) (by assumption) HZ.out).mono ?_); rintro e w' ⟨rfl, hb⟩; exact ⟨rfl, Below.after hS hb⟩)) ?_; (try simp only [Act.put, List.setIfInBounds_toArray, List.set_cons_zero, List.set_cons_succ])) | (refine Drawn.seq_value (by rfl) (by intro w2 hS; obtain ⟨hc, hf⟩ := bcell hS; go_simp; first | done | with_reducible rfl | exact ⟨rfl, rfl⟩) ?_; (try simp only [Act.put, List.setIfInBounds_toArray, List.set_cons_zero, List.set_cons_succ]))))
            refine Drawn.seq_end ?_; intro w2 hS
            have hZ2 := hZ.keep hS
            have hB2 : Only b w w2 := hB.trans (Only.of_below hS)
            clear c1 c2 z1 z2 lb hS hZ hB HK
            go_wp2
            go_roundw
            case rel => exact ⟨i + 1, Z, by go_num, by omega, by omega, hZ2, hB2, Lib.hid (by
              rw [HI.out]
              exact ⟨HZI.out.done haj hji (Or.inr (by rw [HP.out, ← HU.out, ← HV.out, ← cmp3_neg, HZ.out]; exact hz0)), HZI.out.same⟩)⟩
            case measure => simp [intOf]; omega
        · have hja1 : ¬ (a : Int) < (j : Int) := by omega
          have hja2 : decide ((a : Int) < (j : Int)) = false := decide_eq_false hja1
          have hja3 : j = a := by omega
          have HJ := Lib.hid hja3
          clear hja3
          have lb := hZ.lt
          obtain ⟨u, hu⟩ : ∃ u : Nat, u = 0 := ⟨_, rfl⟩
          have HZ : Hid (cmp3 (pkey ks u) (pkey ks u) = 0) := Lib.hid (by unfold cmp3; simp)
          go_upto_region 4 with (fail)
          refine Drawn.wp_region_from (Below.refl _ _) (by kernel_rfl) (by kernel_rfl) (by kernel_rfl) ?_
          (repeat (first | (refine Drawn.seq_skip (by rfl) ?_; (try simp only [Act.put, List.setIfInBounds_toArray, List.set_cons_zero, List.set_cons_succ])) | (refine Drawn.seq_call (o := ⟨_, .call ⟨.value _, _, _⟩, _, _, _, _⟩) (by rfl) (by intro w2 hS; go_simp; first | done | with_reducible rfl | exact ⟨rfl, rfl⟩) (by intro w2 hS; first | ((with_reducible refine (plow_any _ _ _ _ _ _ _ _ _ _ (HK.out.after hS) (by assumption) (by assumption) HZ.out).mono ?_); rintro e w' ⟨rfl, hb⟩; exact ⟨rfl, Below.after hS hb⟩)) ?_; (try simp only [Act.put, List.setIfInBounds_toArray, List.set_cons_zero, List.set_cons_succ])) | (refine Drawn.seq_value (by rfl) (by intro w2 hS; obtain ⟨hc, hf⟩ := bcell hS; go_simp; first | done | with_reducible rfl | exact ⟨rfl, rfl⟩) ?_; (try simp only [Act.put, List.setIfInBounds_toArray, List.set_cons_zero, List.set_cons_succ]))))
          refine Drawn.seq_end ?_; intro w2 hS
          have hZ2 := hZ.keep hS
          have hB2 : Only b w w2 := hB.trans (Only.of_below hS)
          clear lb hS hZ hB HK
          go_wp2
          go_roundw
          case rel => exact ⟨i + 1, Z, by go_num, by omega, by omega, hZ2, hB2, Lib.hid (by
            rw [HI.out]
            exact ⟨HZI.out.done haj hji (Or.inl HJ.out), HZI.out.same⟩)⟩
          case measure => simp [intOf]; omega
    · have he : e ≤ i := by omega
      have HM : Hid (min i e = e) := Lib.hid (by omega)
      go_wp2
      go_end0
      exact ⟨rfl, hB, Y, hY, HY.out.1.mono (Nat.le_refl _) he, by rw [← HM.out]; exact HY.out.2⟩

end Go.Proofs.Ytbmidmpooooheaa.Fix
