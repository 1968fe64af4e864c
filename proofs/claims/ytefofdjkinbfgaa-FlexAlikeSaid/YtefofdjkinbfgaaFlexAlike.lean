/- FlexAlike: it returns true, and leaves all that was there as it was. -/
import Derived.Test.YtefofdjkinbfgaaFlexFills
import Derived.Test.YtefofdjkinbfgaaFlexAlikeMath
namespace Go.Proofs.Ytefofdjkinbfgaa.Fix
open Go.ChangeShapes Go.WideShapes Go.ChangeAt Go.RowKit
set_option linter.unusedVariables false

theorem falike_out (x0 x1 x2 x3 x4 n room : Int) (w : World) (h : n < 1 ∨ 64 < n) :
    Calls Try.prog 7 #[.agg #[.int .i64 x0, .int .i64 x1, .int .i64 x2, .int .i64 x3, .int .i64 x4], .int .i64 n, .int .i64 room] w fun e w' => e = .returned (.bool true) ∧ Below w.heap.size w w' := by
  by_cases h1 : n < 1
  · go_enter Try.func7, Try.ntmps7
    go_wp2_with (go_at_call 10; with_reducible refine (fworks_any _).mono ?_; rintro e w1 ⟨rfl, hB⟩)
    go_ret
    exact ⟨rfl, Below.after2 (Below.alloc' (Below.refl _ _) _) (Nat.le_refl _) hB⟩
  · have e1 : decide (n < 1) = false := by simp; omega
    have h2 : 64 < n := by omega
    clear h
    go_enter Try.func7, Try.ntmps7
    go_wp2_with (go_at_call 10; with_reducible refine (fworks_any _).mono ?_; rintro e w1 ⟨rfl, hB⟩)
    go_ret
    exact ⟨rfl, Below.after2 (Below.alloc' (Below.refl _ _) _) (Nat.le_refl _) hB⟩

set_option maxHeartbeats 4000000 in
theorem falike_core (x0 x1 x2 x3 x4 room : Int) (n : Nat) (w : World) (hn1 : 1 ≤ n) (hn : n ≤ 64) :
    Calls Try.prog 7 #[.agg #[.int .i64 x0, .int .i64 x1, .int .i64 x2, .int .i64 x3, .int .i64 x4], .int .i64 (n : Int), .int .i64 room] w fun e w' => e = .returned (.bool true) ∧ Below w.heap.size w w' := by
  have e1 : decide ((n : Int) < 1) = false := by simp; omega
  have e2 : decide (64 < (n : Int)) = false := by simp; omega
  go_enter Try.func7, Try.ntmps7
  go_wp2_with (go_at_call 10; with_reducible refine (fworks_any _).mono ?_; rintro e w1 ⟨rfl, hb1⟩)
  have hA : At w1 w.heap.size (.cells #[.int .i64 x0, .int .i64 x1, .int .i64 x2, .int .i64 x3, .int .i64 x4] 28) := (At.new w _).keep hb1
  have hB : Below w.heap.size w w1 := Below.after2 (Below.alloc' (Below.refl _ _) _) (Nat.le_refl _) hb1
  have hl := hA.lt
  have HA := Lib.hid hA
  have HB := Lib.hid hB
  clear hA hB hb1
  go_loopw [8, 9] (fun v i wr => ∃ k : Nat, k ≤ n ∧ i = .int .i64 k ∧ wr.ownsRow (w.heap.size + 1) 28 5 v k (flatI (fun _ => ⟨x0, x1, x2, x3, x4⟩) k) ∧ Below (w.heap.size + 1) w1 wr) (fun _ i _ => n - (intOf i).toNat)
  case atStart => exact ⟨0, by omega, rfl, World.ownsRow_nil _ _ _ _, Below.refl _ _⟩
  case round =>
    obtain ⟨k, hk, rfl, hown, hB1⟩ := hrel
    by_cases hlt : k < n
    · have hA : At wr w.heap.size (.cells #[.int .i64 x0, .int .i64 x1, .int .i64 x2, .int .i64 x3, .int .i64 x4] 28) := (hB1.block _ (by omega)).trans HA.out
      obtain ⟨l9, a0, a1, a2, a3, a4⟩ := hA.five
      have hsz := hB1.size
      obtain ⟨v', w', hrun, hown2, hB2, hb2⟩ := append_item (l := fun _ => ⟨x0, x1, x2, x3, x4⟩) hown hB1 (by omega) (by omega)
      have HO := Lib.hid hown2
      have HRUN := Lib.hid hrun
      clear hrun hown hown2 hB1 hA
      have hltz : (k : Int) < (n : Int) := by omega
      go_wp2_with (at_builtin; refine wpList_append_run (by rfl) _ _ 22 rfl rfl rfl HRUN.out ?_)
      go_roundw
      case rel => exact ⟨k + 1, by omega, by go_num, HO.out, hB2⟩
      case measure => simp [intOf]; omega
    · obtain rfl : k = n := by omega
      have hltz : ¬ (k : Int) < (k : Int) := by omega
      obtain ⟨D, d, rfl, hID⟩ := items_of_own hown
      have hB2 : Below w.heap.size w wr := Below.trans HB.out (hB1.mono (by omega))
      obtain ⟨a, ha⟩ := Fe.alike ⟨x0, x1, x2, x3, x4⟩ k (Fe.to room 67108864) hn1 hn (Fe.to_ge (by omega)) (Fe.to_le (by omega))
      have hzb : ∀ i, 0 ≤ (Fe.fin (fun _ => ⟨x0, x1, x2, x3, x4⟩) k (Fe.to room 67108864) i).z ∧ (Fe.fin (fun _ => ⟨x0, x1, x2, x3, x4⟩) k (Fe.to room 67108864) i).z ≤ 1048576 := fun i => by
        rw [← Fe.fin_within]; exact Fe.clamp_bd _ _
      have a1 : -1 ≤ a := by have := (ha 0 (by omega)).2; have := (hzb 0).1; omega
      have a2 : a ≤ 1048576 := by have := (ha 0 (by omega)).1; have := (hzb 0).2; omega
      have HAA := Lib.hid ha
      have HZB := Lib.hid hzb
      clear hown hB1 ha hzb
      go_wp2_with (go_at_call 15; refine (xsizes_any D (fun _ => ⟨x0, x1, x2, x3, x4⟩) k d room _ hID hn).mono ?_; rintro e w2 ⟨⟨b2, rfl, hbb2, hI2⟩, hb2⟩)
      have hB3 := Below.after2 hB2 (Nat.le_refl _) hb2
      clear hb2 hbb2 hB2 hID
      have HI2 := Lib.hid hI2
      clear hI2
      go_loop [11, 12, 13] (fun p q i => ∃ (j : Nat) (lo hi : Int), j ≤ k ∧ i = .int .i64 j ∧ p = .int .i64 lo ∧ q = .int .i64 hi ∧ Hid ((j = 0 ∧ lo = 1073741824 ∧ hi = 0) ∨ (1 ≤ j ∧ a ≤ lo ∧ lo ≤ a + 1 ∧ a ≤ hi ∧ hi ≤ a + 1))) (fun _ _ i => k - (intOf i).toNat)
      case atStart => exact ⟨0, 1073741824, 0, by omega, rfl, rfl, rfl, Lib.hid (.inl ⟨rfl, rfl, rfl⟩)⟩
      case round =>
        obtain ⟨j, lo, hi, hj, rfl, rfl, rfl, hH⟩ := hrel
        by_cases hjt : j < k
        · obtain ⟨l2, d2⟩ := ints_cells HI2.out (k := j) (by rw [sizesOf_length]; exact hjt)
          rw [sizes_get _ _ _ hjt] at d2
          have HN : Hid (∀ z, z = (Fe.fin (fun _ => ⟨x0, x1, x2, x3, x4⟩) k (Fe.to room 67108864) j).z → 1 ≤ j + 1 ∧ a ≤ min lo z ∧ min lo z ≤ a + 1 ∧ a ≤ max hi z ∧ max hi z ≤ a + 1) := Lib.hid (by
            rintro z rfl
            have h1 := HAA.out j hjt
            have h2 := HZB.out j
            have := hH.out
            omega)
          generalize hz : (Fe.fin (fun _ => ⟨x0, x1, x2, x3, x4⟩) k (Fe.to room 67108864) j).z = z at *
          have HZ := Lib.hid hz
          clear hz hH
          go_wp2
          go_round
          case rel => exact ⟨j + 1, _, _, by omega, by go_num, rfl, rfl, Lib.hid (.inr (HN.out z rfl))⟩
          case measure => simp [intOf]; omega
        · obtain rfl : j = k := by omega
          have hh : a ≤ lo ∧ lo ≤ a + 1 ∧ a ≤ hi ∧ hi ≤ a + 1 := by
            have := hH.out; omega
          obtain ⟨g1, g2, g3, g4⟩ := hh
          clear hH
          have g5 : hi - lo ≤ 1 := by omega
          go_wp2
          go_ret
          exact ⟨rfl, hB3⟩

theorem falike_walk (x0 x1 x2 x3 x4 n room : Int) (w : World) :
    Calls Try.prog 7 #[.agg #[.int .i64 x0, .int .i64 x1, .int .i64 x2, .int .i64 x3, .int .i64 x4], .int .i64 n, .int .i64 room] w fun e w' => e = .returned (.bool true) ∧ Below w.heap.size w w' := by
  by_cases h : n < 1 ∨ 64 < n
  · exact falike_out x0 x1 x2 x3 x4 n room w h
  · obtain ⟨m, rfl⟩ : ∃ m : Nat, n = (m : Int) := ⟨n.toNat, by omega⟩
    exact falike_core x0 x1 x2 x3 x4 room m w (by omega) (by omega)

end Go.Proofs.Ytefofdjkinbfgaa.Fix
