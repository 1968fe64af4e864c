/- The contracts of Share of the layer flex, and of the document's own answer for it. -/
import Derived.Test.YtefofdjkinbfgaaFlex
namespace Go.Proofs.Ytefofdjkinbfgaa.Fix
open Go.ChangeShapes Go.WideShapes Go.ChangeAt Go.RowKit
set_option linter.unusedVariables false

theorem ints_of_made {w : World} {b : Nat} {T : TypeId} (f : Nat → Int) (n : Nat) (hn : n ≤ maxLen) (h : At w b (.cells (stRow f n n) T)) : Ints w (some ⟨b, 0, none⟩) ((List.range n).map f) := by
  refine ⟨by simpa using hn, fun h0 => ⟨b, 0, rfl, fun k hk => ?_⟩⟩
  simp only [List.length_map, List.length_range] at hk
  rw [h.cell, Nat.zero_add, stRow_get _ hk]
  simp [hk]

theorem stRow_zero (f : Nat → Int) (n : Nat) (h : ∀ k, k < n → f k = 0) : stRow f n 0 = stRow f n n := by
  unfold stRow
  congr 1
  apply List.map_congr_left
  intro j hj
  have hj : j < n := by simpa using hj
  simp [hj, h j hj]

set_option maxHeartbeats 4000000 in
theorem share_any (A : Option Addr) (l : List Int) (n c : Nat) (x : Int) (w : World) (hI : Ints w A l) (hl : l.length = n) (hn : n ≤ 64) :
    Calls Try.prog 17 #[.int .i64 x, .slice A n c] w fun e w' => (∃ b, e = .returned (.slice (some ⟨b, 0, none⟩) n n) ∧ w.heap.size ≤ b ∧ Ints w' (some ⟨b, 0, none⟩) (Fe.share x l)) ∧ Below w.heap.size w w' := by
  obtain ⟨i0, hi0, hz0, hz1, hz2⟩ := info_parts intZero
  have HI := Lib.hid hI; clear hI
  have HL := Lib.hid hl; clear hl
  go_enter Try.func17, Try.ntmps17
  go_upto_region 5 with (first | first | (go_at_call 20; (with_reducible refine (fto_any _ _ _ (by omega)).mono ?_); rintro e w' ⟨rfl, rfl⟩) | (at_make; refine wpList_make_row _ rfl _ _ 32 rfl 3 i0 (.int .i64 0) Try.underlying32 hi0 hz0 hz1 rfl .i64 .i64 n rfl rfl (by rw [hz2]; omega) (by omega) ?_))
  have hA0 : At (w.alloc (.cells (madeCells #[.int .i64 0] n) 3)) w.heap.size (.cells (stRow (Fe.part x l) n 0) 3) := by rw [← stRow_made]; exact At.new _ _
  have hB0 : Below w.heap.size w (w.alloc (.cells (madeCells #[.int .i64 0] n) 3)) := Below.alloc' (Below.refl _ _) _
  generalize (w.alloc (.cells (madeCells #[.int .i64 0] n) 3)) = W1 at *
  have HI1 : Hid (Ints W1 A l) := Lib.hid (HI.out.after hB0)
  obtain ⟨N, hN⟩ : ∃ N, N = Fe.to x 67108864 := ⟨_, rfl⟩
  have N1 : 0 ≤ N := by rw [hN]; exact Fe.to_ge (by omega)
  have N2 : N ≤ 67108864 := by rw [hN]; exact Fe.to_le (by omega)
  rw [← hN]
  have HN := Lib.hid hN; clear hN
  have HA0 := Lib.hid hA0; clear hA0
  have HB0 := Lib.hid hB0; clear hB0
  go_wp2
  go_loop [6, 24] (fun s i => ∃ k : Nat, k ≤ n ∧ i = .int .i64 k ∧ s = .int .i64 (Fe.up l k)) (fun _ i => n - (intOf i).toNat)
  case atStart => exact ⟨0, by omega, rfl, rfl⟩
  case round =>
    obtain ⟨k, hk, rfl, rfl⟩ := hrel
    by_cases hlt : k < n
    · obtain ⟨b1, o1, hA1, l1, c1⟩ := HI1.out.at_ (k := k) (by rw [HL.out]; exact hlt)
      have hs : Hid (Fe.up l k + Fe.cw (l.getD k 0) = Fe.up l (k + 1)) := Lib.hid rfl
      have g1 := Fe.up_ge l k
      have g2 : Fe.up l k ≤ 68719476736 := by have := Fe.up_le l k; omega
      have g3 := Fe.cw_ge (l.getD k 0)
      have g4 := Fe.cw_le (l.getD k 0)
      generalize l.getD k 0 = z at *
      generalize Fe.up l k = u at *
      subst hA1
      go_wp2_with (first | (go_at_call 28; (with_reducible refine (cwe_any _ _).mono ?_); rintro e w' ⟨rfl, rfl⟩))
      go_round
      case rel => exact ⟨k + 1, by omega, by go_num, by rw [hs.out]⟩
      case measure => simp [intOf]; omega
    · obtain rfl : k = n := by omega
      have ha : Hid (Fe.up l k = Fe.all l) := Lib.hid (by unfold Fe.all; rw [HL.out])
      have g1 := Fe.up_ge l k
      have g2 : Fe.up l k ≤ 68719476736 := by have := Fe.up_le l k; omega
      generalize ha' : Fe.up l k = a at *
      by_cases h0 : a = 0
      · subst h0
        go_wp2
        refine bodyPost_ret (v := .slice (some ⟨w.heap.size, 0, none⟩) k k) (by simp [results, Try.results17, go_sem, *]; first | done | exact ⟨rfl, rfl⟩ | rfl) rfl ⟨⟨w.heap.size, rfl, Nat.le_refl _, ?_⟩, HB0.out⟩
        unfold Fe.share
        rw [HL.out]
        refine ints_of_made (T := 3) _ k (by unfold maxLen; omega) ?_
        have h9 := HA0.out
        rw [stRow_zero _ _ (fun j _ => Fe.part_none (ha.out.symm) j)] at h9
        exact h9
      · have ha1 : 1 ≤ a := by omega
        have HAA : Hid (Fe.up l k = a) := Lib.hid ha'
        clear ha'
        go_wp2
        go_loopw [9, 10, 38] (fun h t i wr => ∃ j : Nat, j ≤ k ∧ i = .int .i64 j ∧ h = .int .i64 (Fe.up l j) ∧ t = .int .i64 (Fe.so x l j) ∧ At wr w.heap.size (.cells (stRow (Fe.part x l) k j) 3) ∧ Below w.heap.size w wr) (fun _ _ i _ => k - (intOf i).toNat)
        case atStart => exact ⟨0, by omega, rfl, rfl, by rw [Fe.so_zero], HA0.out, HB0.out⟩
        case round =>
          obtain ⟨j, hj, rfl, rfl, rfl, hA, hB⟩ := hrel
          by_cases hjt : j < k
          · obtain ⟨b1, o1, hA1, l1, c1⟩ := (HI.out.after hB).at_ (k := j) (by rw [HL.out]; exact hjt)
            have hs : Hid (Fe.up l j + Fe.cw (l.getD j 0) = Fe.up l (j + 1)) := Lib.hid rfl
            have g3 := Fe.cw_ge (l.getD j 0)
            have g4 := Fe.cw_le (l.getD j 0)
            have g5 := Fe.up_ge l j
            have g6 : Fe.up l j ≤ 68719476736 := by have := Fe.up_le l j; omega
            have hq : Hid (N * Fe.up l (j + 1) / a = Fe.so x l (j + 1)) := Lib.hid (by unfold Fe.so; rw [HN.out, ha.out])
            have hp : Hid (Fe.so x l (j + 1) - Fe.so x l j = Fe.part x l j) := Lib.hid rfl
            have q1 := Fe.so_ge x l j
            have q2 := Fe.so_mono x l (show j ≤ j + 1 by omega)
            have q3 : Fe.so x l (j + 1) ≤ 67108864 := Int.le_trans (Fe.so_le x l (k := j + 1) (by rw [HL.out]; omega)) (Fe.to_le (by omega))
            have p1 := Fe.so_bd x l (k := j + 1) (by omega)
            rw [← HN.out] at p1
            have e1 : (N * Fe.up l (j + 1)).tdiv a = Fe.so x l (j + 1) := by
              rw [← hq.out]
              exact Int.tdiv_eq_ediv_of_nonneg p1.1
            have W2 : Hid (wrap64 ((wrap64 (N * Fe.up l (j + 1))).tdiv a) = Fe.so x l (j + 1)) := Lib.hid (by rw [IntWalk.wrap64_in (N * Fe.up l (j + 1)) (by omega), e1]; exact IntWalk.wrap64_in _ (by omega))
            have W3 : Hid (wrap64 (Fe.so x l (j + 1) - Fe.so x l j) = Fe.part x l j) := Lib.hid (by rw [IntWalk.wrap64_in _ (by omega)]; exact hp.out)
            have w3 : IntKind.i64.wrap (Fe.up l j + Fe.cw (l.getD j 0)) = Fe.up l (j + 1) := by rw [hs.out]; exact IntWalk.i64_in _ (by have := Fe.up_le l (j + 1); have := Fe.up_ge l (j + 1); omega)
            have hz := hA.thaw j
            have hc0 := hA.cell j
            rw [stRow_get _ hjt] at hc0
            have hlb := hA.lt
            clear e1 p1 q1 q2 q3
            generalize l.getD j 0 = z at *
            generalize hu' : Fe.up l (j + 1) = u' at *
            have hs2 := Lib.hid hu'; clear hu'
            generalize Fe.up l j = u at *
            generalize hs' : Fe.so x l (j + 1) = s' at *
            have hs1 := Lib.hid hs'; clear hs'
            generalize Fe.so x l j = s at *
            generalize hpp : Fe.part x l j = p at *
            have HPP := Lib.hid hpp; clear hpp
            subst hA1
            go_wp2_with (first | (go_at_call 28; (with_reducible refine (cwe_any _ _).mono ?_); rintro e w' ⟨rfl, rfl⟩))
            go_roundw
            case rel =>
              refine ⟨j + 1, by omega, by go_num, by rw [hs2.out], by rw [W2.out, hs1.out], ?_, Below.setCell hB (Nat.le_refl _) _⟩
              rw [W2.out, W3.out, ← stRow_set _ hjt, HPP.out]
              exact hA.set j _
            case measure => simp [intOf]; omega
          · obtain rfl : j = k := by omega
            go_wp2
            refine bodyPost_ret (v := .slice (some ⟨w.heap.size, 0, none⟩) j j) (by simp [results, Try.results17, go_sem, *]; first | done | exact ⟨rfl, rfl⟩ | rfl) rfl ⟨⟨w.heap.size, rfl, Nat.le_refl _, ?_⟩, hB⟩
            unfold Fe.share
            rw [HL.out]
            exact ints_of_made _ j (by unfold maxLen; omega) hA

set_option maxHeartbeats 4000000 in
theorem rshare_any (A : Option Addr) (l : List Int) (n c : Nat) (x : Int) (w : World) (hI : Ints w A l) (hl : l.length = n) (hn : n ≤ 64) :
    Calls Try.prog 18 #[.int .i64 x, .slice A n c] w fun e w' => (∃ b, e = .returned (.slice (some ⟨b, 0, none⟩) n n) ∧ w.heap.size ≤ b ∧ Ints w' (some ⟨b, 0, none⟩) (Fe.share x l)) ∧ Below w.heap.size w w' := by
  obtain ⟨i0, hi0, hz0, hz1, hz2⟩ := info_parts intZero
  have HI := Lib.hid hI; clear hI
  have HL := Lib.hid hl; clear hl
  obtain ⟨N, hN⟩ : ∃ N, N = Fe.to x 67108864 := ⟨_, rfl⟩
  have N1 : 0 ≤ N := by rw [hN]; exact Fe.to_ge (by omega)
  have N2 : N ≤ 67108864 := by rw [hN]; exact Fe.to_le (by omega)
  have HN := Lib.hid hN; clear hN
  go_enter Try.func18, Try.ntmps18
  go_wp2_with (go_at_call 27; refine (rto2_any _ _ _ (by omega)).mono ?_; rintro e w' ⟨rfl, rfl⟩; rw [← HN.out])
  go_loop [5, 6] (fun s i => ∃ k : Nat, k ≤ n ∧ i = .int .i64 k ∧ s = .int .i64 (Fe.up l k)) (fun _ i => n - (intOf i).toNat)
  case atStart => exact ⟨0, by omega, rfl, rfl⟩
  case round =>
    obtain ⟨k, hk, rfl, rfl⟩ := hrel
    by_cases hlt : k < n
    · obtain ⟨b1, o1, hA1, l1, c1⟩ := HI.out.at_ (k := k) (by rw [HL.out]; exact hlt)
      have hs : Hid (Fe.up l k + Fe.cw (l.getD k 0) = Fe.up l (k + 1)) := Lib.hid rfl
      have g1 := Fe.up_ge l k
      have g2 : Fe.up l k ≤ 68719476736 := by have := Fe.up_le l k; omega
      have g3 := Fe.cw_ge (l.getD k 0)
      have g4 := Fe.cw_le (l.getD k 0)
      generalize l.getD k 0 = z at *
      generalize Fe.up l k = u at *
      subst hA1
      go_wp2_with (go_at_call 27; refine (rto2_any _ _ _ (by omega)).mono ?_; rintro e w' ⟨rfl, rfl⟩; rw [← Fe.cw])
      go_round
      case rel => exact ⟨k + 1, by omega, by go_num, by rw [hs.out]⟩
      case measure => simp [intOf]; omega
    · obtain rfl : k = n := by omega
      have ha : Hid (Fe.up l k = Fe.all l) := Lib.hid (by unfold Fe.all; rw [HL.out])
      have g1 := Fe.up_ge l k
      have g2 : Fe.up l k ≤ 68719476736 := by have := Fe.up_le l k; omega
      generalize ha' : Fe.up l k = a at *
      have HAA : Hid (Fe.up l k = a) := Lib.hid ha'
      clear ha'
      go_upto_region 10 with (at_make; refine wpList_make_row _ rfl _ _ 32 rfl 3 i0 (.int .i64 0) Try.underlying32 hi0 hz0 hz1 rfl .i64 .i64 k rfl rfl (by rw [hz2]; omega) (by omega) ?_)
      have hA0 : At (w.alloc (.cells (madeCells #[.int .i64 0] k) 3)) w.heap.size (.cells (stRow (Fe.part x l) k 0) 3) := by rw [← stRow_made]; exact At.new _ _
      have hB0 : Below w.heap.size w (w.alloc (.cells (madeCells #[.int .i64 0] k) 3)) := Below.alloc' (Below.refl _ _) _
      generalize (w.alloc (.cells (madeCells #[.int .i64 0] k) 3)) = W1 at *
      have HA0 := Lib.hid hA0; clear hA0
      have HB0 := Lib.hid hB0; clear hB0
      go_wp2
      go_loopw [8, 9, 10] (fun h t i wr => ∃ j : Nat, j ≤ k ∧ i = .int .i64 j ∧ h = .int .i64 (Fe.up l j) ∧ t = .int .i64 (Fe.so x l j) ∧ At wr w.heap.size (.cells (stRow (Fe.part x l) k j) 3) ∧ Below w.heap.size w wr) (fun _ _ i _ => k - (intOf i).toNat)
      case atStart => exact ⟨0, by omega, rfl, rfl, by rw [Fe.so_zero], HA0.out, HB0.out⟩
      case round =>
        obtain ⟨j, hj, rfl, rfl, rfl, hA, hB⟩ := hrel
        by_cases h0 : a = 0
        · have HE : Hid (At wr w.heap.size (.cells (stRow (Fe.part x l) k k) 3)) := Lib.hid (by
            have e1 := stRow_zero (Fe.part x l) k (fun j _ => Fe.part_none (by rw [← ha.out]; exact h0) j)
            have e2 : stRow (Fe.part x l) k j = stRow (Fe.part x l) k k := by
              unfold stRow
              congr 1
              apply List.map_congr_left
              intro i hi
              have hi : i < k := by simpa using hi
              have hz := Fe.part_none (n := x) (w := l) (by rw [← ha.out]; exact h0) i
              simp [hi, hz]
            rw [← e2]; exact hA)
          subst h0
          by_cases hjt : j < k <;>
          · go_wp2
            refine bodyPost_ret (v := .slice (some ⟨w.heap.size, 0, none⟩) k k) (by simp [results, Try.results18, go_sem, *]; first | done | exact ⟨rfl, rfl⟩ | rfl) rfl ⟨⟨w.heap.size, rfl, Nat.le_refl _, ?_⟩, hB⟩
            unfold Fe.share
            rw [HL.out]
            exact ints_of_made _ k (by unfold maxLen; omega) HE.out
        · have ha1 : 1 ≤ a := by omega
          by_cases hjt : j < k
          · obtain ⟨b1, o1, hA1, l1, c1⟩ := (HI.out.after hB).at_ (k := j) (by rw [HL.out]; exact hjt)
            have hs : Hid (Fe.up l j + Fe.cw (l.getD j 0) = Fe.up l (j + 1)) := Lib.hid rfl
            have g3 := Fe.cw_ge (l.getD j 0)
            have g4 := Fe.cw_le (l.getD j 0)
            have g5 := Fe.up_ge l j
            have g6 : Fe.up l j ≤ 68719476736 := by have := Fe.up_le l j; omega
            have hq : Hid (N * Fe.up l (j + 1) / a = Fe.so x l (j + 1)) := Lib.hid (by unfold Fe.so; rw [HN.out, ha.out])
            have hp : Hid (Fe.so x l (j + 1) - Fe.so x l j = Fe.part x l j) := Lib.hid rfl
            have q1 := Fe.so_ge x l j
            have q2 := Fe.so_mono x l (show j ≤ j + 1 by omega)
            have q3 : Fe.so x l (j + 1) ≤ 67108864 := Int.le_trans (Fe.so_le x l (k := j + 1) (by rw [HL.out]; omega)) (Fe.to_le (by omega))
            have p1 := Fe.so_bd x l (k := j + 1) (by omega)
            rw [← HN.out] at p1
            have e1 : (N * Fe.up l (j + 1)).tdiv a = Fe.so x l (j + 1) := by
              rw [← hq.out]
              exact Int.tdiv_eq_ediv_of_nonneg p1.1
            have W2 : Hid (wrap64 ((wrap64 (N * Fe.up l (j + 1))).tdiv a) = Fe.so x l (j + 1)) := Lib.hid (by rw [IntWalk.wrap64_in (N * Fe.up l (j + 1)) (by omega), e1]; exact IntWalk.wrap64_in _ (by omega))
            have W3 : Hid (wrap64 (Fe.so x l (j + 1) - Fe.so x l j) = Fe.part x l j) := Lib.hid (by rw [IntWalk.wrap64_in _ (by omega)]; exact hp.out)
            have w3 : IntKind.i64.wrap (Fe.up l j + Fe.cw (l.getD j 0)) = Fe.up l (j + 1) := by rw [hs.out]; exact IntWalk.i64_in _ (by have := Fe.up_le l (j + 1); have := Fe.up_ge l (j + 1); omega)
            have hz := hA.thaw j
            have hc0 := hA.cell j
            rw [stRow_get _ hjt] at hc0
            have hlb := hA.lt
            clear e1 p1 q1 q2 q3
            generalize l.getD j 0 = z at *
            generalize hu' : Fe.up l (j + 1) = u' at *
            have hs2 := Lib.hid hu'; clear hu'
            generalize Fe.up l j = u at *
            generalize hs' : Fe.so x l (j + 1) = s' at *
            have hs1 := Lib.hid hs'; clear hs'
            generalize Fe.so x l j = s at *
            generalize hpp : Fe.part x l j = p at *
            have HPP := Lib.hid hpp; clear hpp
            subst hA1
            go_wp2_with (go_at_call 27; refine (rto2_any _ _ _ (by omega)).mono ?_; rintro e w' ⟨rfl, rfl⟩; rw [← Fe.cw])
            go_roundw
            case rel =>
              refine ⟨j + 1, by omega, by go_num, by rw [hs2.out], by rw [W2.out, hs1.out], ?_, Below.setCell hB (Nat.le_refl _) _⟩
              rw [W2.out, W3.out, ← stRow_set _ hjt, HPP.out]
              exact hA.set j _
            case measure => simp [intOf]; omega
          · obtain rfl : j = k := by omega
            go_wp2
            refine bodyPost_ret (v := .slice (some ⟨w.heap.size, 0, none⟩) j j) (by simp [results, Try.results18, go_sem, *]; first | done | exact ⟨rfl, rfl⟩ | rfl) rfl ⟨⟨w.heap.size, rfl, Nat.le_refl _, ?_⟩, hB⟩
            unfold Fe.share
            rw [HL.out]
            exact ints_of_made _ j (by unfold maxLen; omega) hA

/-- Of more than 64 there is nothing. -/
theorem share_none (A : Option Addr) (n c : Nat) (x : Int) (w : World) (hn : 64 < n) : Calls Try.prog 17 #[.int .i64 x, .slice A n c] w fun e w' => e = .returned (.slice none 0 0) ∧ w = w' := by
  go_enter Try.func17, Try.ntmps17
  go_wp2
  refine bodyPost_ret (v := .slice none 0 0) (by simp [results, Try.results17, go_sem, *]; first | done | exact ⟨rfl, rfl⟩ | rfl) rfl ⟨rfl, rfl⟩

/-- Of more than 64 there is nothing. -/
theorem rshare_none (A : Option Addr) (n c : Nat) (x : Int) (w : World) (hn : 64 < n) : Calls Try.prog 18 #[.int .i64 x, .slice A n c] w fun e w' => e = .returned (.slice none 0 0) ∧ w = w' := by
  go_enter Try.func18, Try.ntmps18
  go_wp2
  refine bodyPost_ret (v := .slice none 0 0) (by simp [results, Try.results18, go_sem, *]; first | done | exact ⟨rfl, rfl⟩ | rfl) rfl ⟨rfl, rfl⟩

end Go.Proofs.Ytefofdjkinbfgaa.Fix
