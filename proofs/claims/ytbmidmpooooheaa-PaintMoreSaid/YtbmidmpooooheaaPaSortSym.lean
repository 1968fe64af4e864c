/- The contract of the library's symmetric merge over places that are compared by their keys: where one part is a single place. -/
import Derived.Test.YtbmidmpooooheaaPaSort
set_option maxRecDepth 100000
namespace Go.Proofs.Ytbmidmpooooheaa.Fix
open Go.ChangeShapes Go.WideShapes Go.ChangeAt Go.RowKit
set_option linter.unusedVariables false

/-- Where a search stands: all ahead of i are ahead of x, all from j on behind it. -/
structure Seek (K : Nat → Int) (X : Nat → Nat) (x lo i j hi : Nat) : Prop where
  ahead : ∀ q, lo ≤ q → q < i → So.lt K (X q) x
  behind : ∀ q, j ≤ q → q < hi → So.lt K x (X q)

theorem Seek.start (K : Nat → Int) (X : Nat → Nat) (x lo hi : Nat) : Seek K X x lo lo hi hi := ⟨fun q h1 h2 => by omega, fun q h1 h2 => by omega⟩

theorem Seek.up {K : Nat → Int} {X : Nat → Nat} {x lo i j hi h : Nat} (hs : Seek K X x lo i j hi) (hX : So.Sorted K lo hi X) (h1 : h < hi) (hl : So.lt K (X h) x) : Seek K X x lo (h + 1) j hi :=
  ⟨fun q q1 q2 => hX.le q1 (by omega) h1 hl, hs.behind⟩

theorem Seek.down {K : Nat → Int} {X : Nat → Nat} {x lo i j hi h : Nat} (hs : Seek K X x lo i j hi) (hX : So.Sorted K lo hi X) (h1 : lo ≤ h) (hl : So.lt K x (X h)) : Seek K X x lo i h hi :=
  ⟨hs.ahead, fun q q1 q2 => hX.ge h1 q1 q2 hl⟩

set_option maxHeartbeats 4000000 in
set_option maxRecDepth 100000 in
theorem psym_left (b kb : Nat) (A : Option Addr) (ks : PKS) (X : Nat → Nat) (n c cn a m e : Nat) (w : World) (hk : PKeys w b kb A ks n c) (hA : IsV ks w b X n) (hX : So.Parts (pkey ks) a m e X) (hb : ∀ p, a ≤ p → p < e → X p < n) (h1 : a + 1 ≤ m) (h1' : m ≤ a + 1) (h2 : m < e) (h3 : e ≤ n) (hn : n ≤ 100000) :
    Calls Try.prog 41 #[.slice (some ⟨b, 0, none⟩) n cn, .int .i64 a, .int .i64 m, .int .i64 e, .func (.func 32) #[] #[.pointer (some ⟨kb, 0, none⟩)]] w fun x w' => x = .returned (.tuple #[]) ∧ Only b w w' ∧ ∃ Y, IsV ks w' b Y n ∧ So.Sorted (pkey ks) a e Y ∧ So.Same a e X Y := by
  have HX := Lib.hid hX
  have HB := Lib.hid hb
  have HK0 := Lib.hid hk
  clear hX hk hb
  have v1 : IntKind.i64.wrap ((m : Int) - (a : Int)) = 1 := by rw [IntWalk.i64_in _ (by omega)]; omega
  go_enter Try.func41, Try.ntmps41
  go_wp2
  go_loopw [10, 11] (fun vi vj wr => ∃ i j : Nat, vi = .int .i64 i ∧ vj = .int .i64 j ∧ m ≤ i ∧ i ≤ j ∧ j ≤ e ∧ IsV ks wr b X n ∧ Only b w wr ∧ Hid (Seek (pkey ks) X (X a) m i j e)) (fun vi vj _ => (intOf vj).toNat - (intOf vi).toNat)
  case atStart => exact ⟨m, e, rfl, rfl, Nat.le_refl _, by omega, Nat.le_refl _, hA, Only.refl _ _, Lib.hid (Seek.start _ _ _ _ _)⟩
  case round =>
    obtain ⟨i, j, rfl, rfl, hmi, hij, hje, hY, hB, HS⟩ := hrel
    by_cases hlt : i < j
    · have hltz : (i : Int) < (j : Int) := by omega
      obtain ⟨t, t1, t2⟩ : ∃ t, t ≤ i + j ∧ i + j ≤ t := ⟨i + j, by omega, by omega⟩
      have w1 : IntKind.i64.wrap ((i : Int) + (j : Int)) = (t : Int) := by rw [IntWalk.i64_in _ (by omega)]; omega
      obtain ⟨h, g1, g2⟩ : ∃ h, 2 * h ≤ t ∧ t ≤ 2 * h + 1 := ⟨t / 2, by omega, by omega⟩
      have wh : (t : Int) / 2 = (h : Int) := by omega
      have w2 : IntKind.i64.wrap ((h : Int) + 1) = ((h + 1 : Nat) : Int) := by rw [IntWalk.i64_in _ (by omega)]; omega
      have hn' : h < n := by omega
      have an : a < n := by omega
      have c1 := hY.cell hn'
      have c2 := hY.cell an
      have lb := hY.lt
      have HK := Lib.hid (HK0.out.keep hB)
      obtain ⟨u, hu⟩ : ∃ u, u = X h := ⟨_, rfl⟩
      obtain ⟨v, hv⟩ : ∃ v, v = X a := ⟨_, rfl⟩
      have un : u < n := by rw [hu]; exact HB.out _ (by omega) (by omega)
      have vn : v < n := by rw [hv]; exact HB.out _ (by omega) (by omega)
      rw [← hu] at c1
      rw [← hv] at c2
      have HU := Lib.hid hu
      have HV := Lib.hid hv
      clear hu hv
      obtain ⟨z, hz⟩ : ∃ z, cmp3 (pkey ks u) (pkey ks v) = z := ⟨_, rfl⟩
      have HZ := Lib.hid hz
      clear hz
      have HL : Hid (X a < X h) := Lib.hid (HX.out.less a h (by omega) (by omega) (by omega) (by omega))
      by_cases hz0 : z < 0
      · go_upto_region 5 with (fail)
        refine Drawn.wp_region_from (Below.refl _ _) (by kernel_rfl) (by kernel_rfl) (by kernel_rfl) ?_
        (repeat (first | (refine Drawn.seq_skip (by rfl) ?_; (try simp only [Act.put, List.setIfInBounds_toArray, List.set_cons_zero, List.set_cons_succ])) | (refine Drawn.seq_call (o := ⟨_, .call ⟨.value _, _, _⟩, _, _, _, _⟩) (by rfl) (by intro w2 hS; go_simp; first | done | with_reducible rfl | exact ⟨rfl, rfl⟩) (by intro w2 hS; first | ((with_reducible refine (plow_any _ _ _ _ _ _ _ _ _ _ (HK.out.after hS) (by assumption) (by assumption) HZ.out).mono ?_); rintro e w' ⟨rfl, hb⟩; exact ⟨rfl, Below.after hS hb⟩)) ?_; (try simp only [Act.put, List.setIfInBounds_toArray, List.set_cons_zero, List.set_cons_succ])) | (refine Drawn.seq_value (by rfl) (by intro w2 hS; obtain ⟨hc, hf⟩ := bcell hS; go_simp; first | done | with_reducible rfl | exact ⟨rfl, rfl⟩) ?_; (try simp only [Act.put, List.setIfInBounds_toArray, List.set_cons_zero, List.set_cons_succ]))))
        refine Drawn.seq_end ?_; intro w2 hS
        have hY2 := hY.keep hS
        have hB2 : Only b w w2 := hB.trans (Only.of_below hS)
        clear c1 c2 lb hS hY hB HK
        go_wp2
        go_roundw
        case rel => exact ⟨h + 1, j, by go_num, rfl, by omega, by omega, hje, hY2, hB2, Lib.hid (HS.out.up HX.out.right (by omega) ((So.lt_later HL.out).2 (by rw [← HU.out, ← HV.out]; exact cmp3_neg.1 (by rw [HZ.out]; exact hz0))))⟩
        case measure => simp [intOf]; omega
      · have hz1 : decide (z < 0) = false := decide_eq_false hz0
        go_upto_region 5 with (fail)
        refine Drawn.wp_region_from (Below.refl _ _) (by kernel_rfl) (by kernel_rfl) (by kernel_rfl) ?_
        (repeat (first | (refine Drawn.seq_skip (by rfl) ?_; (try simp only [Act.put, List.setIfInBounds_toArray, List.set_cons_zero, List.set_cons_succ])) | (refine Drawn.seq_call (o := ⟨_, .call ⟨.value _, _, _⟩, _, _, _, _⟩) (by rfl) (by intro w2 hS; go_simp; first | done | with_reducible rfl | exact ⟨rfl, rfl⟩) (by intro w2 hS; first | ((with_reducible refine (plow_any _ _ _ _ _ _ _ _ _ _ (HK.out.after hS) (by assumption) (by assumption) HZ.out).mono ?_); rintro e w' ⟨rfl, hb⟩; exact ⟨rfl, Below.after hS hb⟩)) ?_; (try simp only [Act.put, List.setIfInBounds_toArray, List.set_cons_zero, List.set_cons_succ])) | (refine Drawn.seq_value (by rfl) (by intro w2 hS; obtain ⟨hc, hf⟩ := bcell hS; go_simp; first | done | with_reducible rfl | exact ⟨rfl, rfl⟩) ?_; (try simp only [Act.put, List.setIfInBounds_toArray, List.set_cons_zero, List.set_cons_succ]))))
        refine Drawn.seq_end ?_; intro w2 hS
        have hY2 := hY.keep hS
        have hB2 : Only b w w2 := hB.trans (Only.of_below hS)
        clear c1 c2 lb hS hY hB HK
        go_wp2
        go_roundw
        case rel => exact ⟨i, h, rfl, by go_num, hmi, by omega, by omega, hY2, hB2, Lib.hid (HS.out.down HX.out.right (by omega) (So.lt_not HL.out (by rw [← HU.out, ← HV.out, ← cmp3_neg, HZ.out]; exact hz0)))⟩
        case measure => simp [intOf]; omega
    · have hltz : ¬ (i : Int) < (j : Int) := by omega
      have HE : Hid (i = j) := Lib.hid (by omega)
      obtain ⟨i1, g1, g2⟩ : ∃ i1, i1 + 1 ≤ i ∧ i ≤ i1 + 1 := ⟨i - 1, by omega, by omega⟩
      have w1 : IntKind.i64.wrap ((i : Int) - 1) = (i1 : Int) := by rw [IntWalk.i64_in _ (by omega)]; omega
      have HI : Hid (i - 1 = i1) := Lib.hid (by omega)
      go_wp2
      go_loopw [13] (fun vk wr => ∃ k : Nat, vk = .int .i64 k ∧ a ≤ k ∧ k ≤ i1 ∧ IsV ks wr b (So.shl X a k) n ∧ Only b w wr) (fun vk _ => i1 - (intOf vk).toNat)
      case atStart => exact ⟨a, rfl, Nat.le_refl _, by omega, by rw [So.shl_zero]; exact hY, hB⟩
      case round =>
        clear hY hB
        obtain ⟨k, rfl, hak, hki, hY, hB⟩ := hrel
        by_cases hk : k < i1
        · have hkz : (k : Int) < (i1 : Int) := by omega
          obtain ⟨k1, r1, r2⟩ : ∃ k1, k1 ≤ k + 1 ∧ k + 1 ≤ k1 := ⟨k + 1, by omega, by omega⟩
          have w2 : IntKind.i64.wrap ((k : Int) + 1) = (k1 : Int) := by rw [IntWalk.i64_in _ (by omega)]; omega
          have HS2 : Hid (So.swap (So.shl X a k) k k1 = So.shl X a k1) := Lib.hid (by
            obtain rfl : k1 = k + 1 := by omega
            exact So.shl_succ X hak)
          generalize So.shl X a k = Y at *
          have kn : k < n := by omega
          have kn1 : k1 < n := by omega
          have ne : k ≠ k1 := by omega
          have ne' : k1 ≠ k := by omega
          have c1 := hY.cell kn
          have c2 := hY.cell kn1
          have z1 := hY.thaw k
          have z2 := hY.thaw k1
          have lb := hY.lt
          obtain ⟨u, hu⟩ : ∃ u, u = Y k := ⟨_, rfl⟩
          obtain ⟨v, hv⟩ : ∃ v, v = Y k1 := ⟨_, rfl⟩
          rw [← hu] at c1
          rw [← hv] at c2
          have HU := Lib.hid hu
          have HV := Lib.hid hv
          clear hu hv
          go_upto_region 11 with (fail)
          go_region
          generalize hW : World.drew _ = W2
          have hY2 : IsV ks W2 b (So.shl X a k1) n := by
            rw [← hW, ← HS2.out, HU.out, HV.out]
            exact hY.swapped k k1
          have hB2 : Only b w W2 := hW ▸ Only.swapped hB _ _ _ _
          clear hW c1 c2 z1 z2 lb hY hB
          go_wp2
          go_roundw
          case rel => exact ⟨k1, by go_num, by omega, by omega, hY2, hB2⟩
          case measure => simp [intOf]; omega
        · have hkz : ¬ (k : Int) < (i1 : Int) := by omega
          have HK1 : Hid (k = i1) := Lib.hid (by omega)
          go_wp2
          refine bodyPost_ret (results_none rfl _ _ _) rfl ?_
          refine ⟨rfl, hB, _, hY, ?_, ?_⟩
          · rw [HK1.out, ← HI.out]
            have e1 : m = a + 1 := by omega
            refine So.shl_sorted (c := e) (e1 ▸ HX.out.right) (by omega) (by omega) (fun q q1 q2 => HS.out.ahead q (by omega) q2) (fun q q1 q2 => HS.out.behind q (by rw [← HE.out]; exact q1) q2)
          · exact So.Same.shl X hak (by omega)

set_option maxRecDepth 100000 in
theorem psym_right (b kb : Nat) (A : Option Addr) (ks : PKS) (X : Nat → Nat) (n c cn a m e : Nat) (w : World) (hk : PKeys w b kb A ks n c) (hA : IsV ks w b X n) (hX : So.Parts (pkey ks) a m e X) (hb : ∀ p, a ≤ p → p < e → X p < n) (h1 : a + 1 < m) (h2 : m + 1 ≤ e) (h2' : e ≤ m + 1) (h3 : e ≤ n) (hn : n ≤ 100000) :
    Calls Try.prog 41 #[.slice (some ⟨b, 0, none⟩) n cn, .int .i64 a, .int .i64 m, .int .i64 e, .func (.func 32) #[] #[.pointer (some ⟨kb, 0, none⟩)]] w fun x w' => x = .returned (.tuple #[]) ∧ Only b w w' ∧ ∃ Y, IsV ks w' b Y n ∧ So.Sorted (pkey ks) a e Y ∧ So.Same a e X Y := by
  have HX := Lib.hid hX
  have HB := Lib.hid hb
  have HK0 := Lib.hid hk
  clear hX hk hb
  obtain ⟨d, d1, d2⟩ : ∃ d, d + a ≤ m ∧ m ≤ d + a := ⟨m - a, by omega, by omega⟩
  have v0 : IntKind.i64.wrap ((m : Int) - (a : Int)) = (d : Int) := by rw [IntWalk.i64_in _ (by omega)]; omega
  have v2 : ((d : Int) == 1) = false := by simp; omega
  have v1 : IntKind.i64.wrap ((e : Int) - (m : Int)) = 1 := by rw [IntWalk.i64_in _ (by omega)]; omega
  go_enter Try.func41, Try.ntmps41
  go_wp2
  go_loopw [14, 15] (fun vi vj wr => ∃ i j : Nat, vi = .int .i64 i ∧ vj = .int .i64 j ∧ a ≤ i ∧ i ≤ j ∧ j ≤ m ∧ IsV ks wr b X n ∧ Only b w wr ∧ Hid (Seek (pkey ks) X (X m) a i j m)) (fun vi vj _ => (intOf vj).toNat - (intOf vi).toNat)
  case atStart => exact ⟨a, m, rfl, rfl, Nat.le_refl _, by omega, Nat.le_refl _, hA, Only.refl _ _, Lib.hid (Seek.start _ _ _ _ _)⟩
  case round =>
    obtain ⟨i, j, rfl, rfl, hmi, hij, hje, hY, hB, HS⟩ := hrel
    by_cases hlt : i < j
    · have hltz : (i : Int) < (j : Int) := by omega
      obtain ⟨t, t1, t2⟩ : ∃ t, t ≤ i + j ∧ i + j ≤ t := ⟨i + j, by omega, by omega⟩
      have w1 : IntKind.i64.wrap ((i : Int) + (j : Int)) = (t : Int) := by rw [IntWalk.i64_in _ (by omega)]; omega
      obtain ⟨h, g1, g2⟩ : ∃ h, 2 * h ≤ t ∧ t ≤ 2 * h + 1 := ⟨t / 2, by omega, by omega⟩
      have wh : (t : Int) / 2 = (h : Int) := by omega
      have w2 : IntKind.i64.wrap ((h : Int) + 1) = ((h + 1 : Nat) : Int) := by rw [IntWalk.i64_in _ (by omega)]; omega
      have hn' : h < n := by omega
      have mn : m < n := by omega
      have c1 := hY.cell hn'
      have c2 := hY.cell mn
      have lb := hY.lt
      have HK := Lib.hid (HK0.out.keep hB)
      obtain ⟨u, hu⟩ : ∃ u, u = X m := ⟨_, rfl⟩
      obtain ⟨v, hv⟩ : ∃ v, v = X h := ⟨_, rfl⟩
      have un : u < n := by rw [hu]; exact HB.out _ (by omega) (by omega)
      have vn : v < n := by rw [hv]; exact HB.out _ (by omega) (by omega)
      rw [← hv] at c1
      rw [← hu] at c2
      have HU := Lib.hid hu
      have HV := Lib.hid hv
      clear hu hv
      obtain ⟨z, hz⟩ : ∃ z, cmp3 (pkey ks u) (pkey ks v) = z := ⟨_, rfl⟩
      have HZ := Lib.hid hz
      clear hz
      have HL : Hid (X h < X m) := Lib.hid (HX.out.less h m (by omega) (by omega) (by omega) (by omega))
      by_cases hz0 : z < 0
      · go_upto_region 17 with (fail)
        refine Drawn.wp_region_from (Below.refl _ _) (by kernel_rfl) (by kernel_rfl) (by kernel_rfl) ?_
        (repeat (first | (refine Drawn.seq_skip (by rfl) ?_; (try simp only [Act.put, List.setIfInBounds_toArray, List.set_cons_zero, List.set_cons_succ])) | (refine Drawn.seq_call (o := ⟨_, .call ⟨.value _, _, _⟩, _, _, _, _⟩) (by rfl) (by intro w2 hS; go_simp; first | done | with_reducible rfl | exact ⟨rfl, rfl⟩) (by intro w2 hS; first | ((with_reducible refine (plow_any _ _ _ _ _ _ _ _ _ _ (HK.out.after hS) (by assumption) (by assumption) HZ.out).mono ?_); rintro e w' ⟨rfl, hb⟩; exact ⟨rfl, Below.after hS hb⟩)) ?_; (try simp only [Act.put, List.setIfInBounds_toArray, List.set_cons_zero, List.set_cons_succ])) | (refine Drawn.seq_value (by rfl) (by intro w2 hS; obtain ⟨hc, hf⟩ := bcell hS; go_simp; first | done | with_reducible rfl | exact ⟨rfl, rfl⟩) ?_; (try simp only [Act.put, List.setIfInBounds_toArray, List.set_cons_zero, List.set_cons_succ]))))
        refine Drawn.seq_end ?_; intro w2 hS
        have hY2 := hY.keep hS
        have hB2 : Only b w w2 := hB.trans (Only.of_below hS)
        clear c1 c2 lb hS hY hB HK
        go_wp2
        go_roundw
        case rel => exact ⟨i, h, rfl, by go_num, hmi, by omega, by omega, hY2, hB2, Lib.hid (HS.out.down HX.out.left (by omega) ((So.lt_later HL.out).2 (by rw [← HU.out, ← HV.out]; exact cmp3_neg.1 (by rw [HZ.out]; exact hz0))))⟩
        case measure => simp [intOf]; omega
      · have hz1 : decide (z < 0) = false := decide_eq_false hz0
        go_upto_region 17 with (fail)
        refine Drawn.wp_region_from (Below.refl _ _) (by kernel_rfl) (by kernel_rfl) (by kernel_rfl) ?_
        (repeat (first | (refine Drawn.seq_skip (by rfl) ?_; (try simp only [Act.put, List.setIfInBounds_toArray, List.set_cons_zero, List.set_cons_succ])) | (refine Drawn.seq_call (o := ⟨_, .call ⟨.value _, _, _⟩, _, _, _, _⟩) (by rfl) (by intro w2 hS; go_simp; first | done | with_reducible rfl | exact ⟨rfl, rfl⟩) (by intro w2 hS; first | ((with_reducible refine (plow_any _ _ _ _ _ _ _ _ _ _ (HK.out.after hS) (by assumption) (by assumption) HZ.out).mono ?_); rintro e w' ⟨rfl, hb⟩; exact ⟨rfl, Below.after hS hb⟩)) ?_; (try simp only [Act.put, List.setIfInBounds_toArray, List.set_cons_zero, List.set_cons_succ])) | (refine Drawn.seq_value (by rfl) (by intro w2 hS; obtain ⟨hc, hf⟩ := bcell hS; go_simp; first | done | with_reducible rfl | exact ⟨rfl, rfl⟩) ?_; (try simp only [Act.put, List.setIfInBounds_toArray, List.set_cons_zero, List.set_cons_succ]))))
        refine Drawn.seq_end ?_; intro w2 hS
        have hY2 := hY.keep hS
        have hB2 : Only b w w2 := hB.trans (Only.of_below hS)
        clear c1 c2 lb hS hY hB HK
        go_wp2
        go_roundw
        case rel => exact ⟨h + 1, j, by go_num, rfl, by omega, by omega, hje, hY2, hB2, Lib.hid (HS.out.up HX.out.left (by omega) (So.lt_not HL.out (by rw [← HU.out, ← HV.out, ← cmp3_neg, HZ.out]; exact hz0)))⟩
        case measure => simp [intOf]; omega
    · have hltz : ¬ (i : Int) < (j : Int) := by omega
      have HE : Hid (i = j) := Lib.hid (by omega)
      go_wp2
      go_loopw [17] (fun vk wr => ∃ k : Nat, vk = .int .i64 k ∧ i ≤ k ∧ k ≤ m ∧ IsV ks wr b (So.shr X m k) n ∧ Only b w wr) (fun vk _ => (intOf vk).toNat)
      case atStart => exact ⟨m, rfl, by omega, Nat.le_refl _, by rw [So.shr_zero]; exact hY, hB⟩
      case round =>
        clear hY hB
        obtain ⟨k, rfl, hak, hki, hY, hB⟩ := hrel
        by_cases hk : i < k
        · have hkz : (i : Int) < (k : Int) := by omega
          obtain ⟨k1, r1, r2⟩ : ∃ k1, k1 + 1 ≤ k ∧ k ≤ k1 + 1 := ⟨k - 1, by omega, by omega⟩
          have w2 : IntKind.i64.wrap ((k : Int) - 1) = (k1 : Int) := by rw [IntWalk.i64_in _ (by omega)]; omega
          have HS2 : Hid (So.swap (So.shr X m k) k k1 = So.shr X m k1) := Lib.hid (by
            obtain rfl : k = k1 + 1 := by omega
            exact So.shr_succ X (by omega))
          generalize So.shr X m k = Y at *
          have kn : k < n := by omega
          have kn1 : k1 < n := by omega
          have ne : k ≠ k1 := by omega
          have ne' : k1 ≠ k := by omega
          have c1 := hY.cell kn
          have c2 := hY.cell kn1
          have z1 := hY.thaw k
          have z2 := hY.thaw k1
          have lb := hY.lt
          obtain ⟨u, hu⟩ : ∃ u, u = Y k := ⟨_, rfl⟩
          obtain ⟨v, hv⟩ : ∃ v, v = Y k1 := ⟨_, rfl⟩
          rw [← hu] at c1
          rw [← hv] at c2
          have HU := Lib.hid hu
          have HV := Lib.hid hv
          clear hu hv
          go_upto_region 23 with (fail)
          go_region
          generalize hW : World.drew _ = W2
          have hY2 : IsV ks W2 b (So.shr X m k1) n := by
            rw [← hW, ← HS2.out, HU.out, HV.out]
            exact hY.swapped k k1
          have hB2 : Only b w W2 := hW ▸ Only.swapped hB _ _ _ _
          clear hW c1 c2 z1 z2 lb hY hB
          go_wp2
          go_roundw
          case rel => exact ⟨k1, by go_num, by omega, by omega, hY2, hB2⟩
          case measure => simp [intOf]; omega
        · have hkz : ¬ (i : Int) < (k : Int) := by omega
          have HK1 : Hid (k = i) := Lib.hid (by omega)
          have HM : Hid (m + 1 = e) := Lib.hid (by omega)
          go_wp2
          refine bodyPost_ret (results_none rfl _ _ _) rfl ?_
          refine ⟨rfl, hB, _, hY, ?_, ?_⟩
          · rw [HK1.out, ← HM.out]
            exact So.shr_sorted HX.out.left hmi (by omega) (fun q q1 q2 => HS.out.ahead q q1 q2) (fun q q1 q2 => HS.out.behind q (by rw [← HE.out]; exact q1) q2)
          · rw [← HM.out]; exact So.Same.shr X (by omega) hki

end Go.Proofs.Ytbmidmpooooheaa.Fix
