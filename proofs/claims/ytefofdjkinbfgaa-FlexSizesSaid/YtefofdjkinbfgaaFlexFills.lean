/- FlexFills: it returns true, and leaves all that was there as it was. -/
import Derived.Test.YtefofdjkinbfgaaFlexStill
import Derived.Test.YtefofdjkinbfgaaFlexFillsMath
namespace Go.Proofs.Ytefofdjkinbfgaa.Fix
open Go.ChangeShapes Go.WideShapes Go.ChangeAt Go.RowKit
set_option linter.unusedVariables false

theorem itemInfo : (Try.prog.info? 28).map (fun i => (i.zero, i.size, i.bytes)) = some (some (.agg #[.int .i64 0, .int .i64 0, .int .i64 0, .int .i64 0, .int .i64 0]), 5, 40) := by kernel_rfl

def encI (x : Fe.It) : List Value := [.int .i64 x.b, .int .i64 x.lo, .int .i64 x.hi, .int .i64 x.g, .int .i64 x.s]
def flatI (l : Nat → Fe.It) : Nat → List Value
  | 0 => []
  | k + 1 => flatI l k ++ encI (l k)
theorem flatI_length (l : Nat → Fe.It) (k : Nat) : (flatI l k).length = k * 5 := by
  induction k with
  | zero => rfl
  | succ k ih => simp only [flatI, List.length_append, ih, encI, List.length_cons, List.length_nil]; omega
theorem flatI_get (l : Nat → Fe.It) {n k j : Nat} (hk : k < n) (hj : j < 5) : (flatI l n)[k * 5 + j]? = (encI (l k))[j]? := by
  induction n with
  | zero => omega
  | succ n ih =>
    simp only [flatI]
    rcases Nat.lt_or_ge k n with h | h
    · rw [List.getElem?_append_left (by rw [flatI_length]; omega)]; exact ih h
    · obtain rfl : k = n := by omega
      rw [List.getElem?_append_right (by rw [flatI_length]; omega), flatI_length]
      congr 1
      omega

/-- An item more behind a row of one's own. -/
theorem append_item {w0 W : World} {base : Nat} {v : Value} {k : Nat} {l : Nat → Fe.It} (hown : W.ownsRow base 28 5 v k (flatI l k)) (hB : Below base w0 W) (hbase : base ≤ W.heap.size) (hk : k ≤ 1000) :
    ∃ v' w', (Builtin.append_ #[22, 22] 22 #[v, .slice (some ⟨W.heap.size, 0, none⟩) 1 1]).run Try.prog (W.alloc (.cells #[.int .i64 (l k).b, .int .i64 (l k).lo, .int .i64 (l k).hi, .int .i64 (l k).g, .int .i64 (l k).s] 28)) = .ok v' w' ∧ w'.ownsRow base 28 5 v' (k + 1) (flatI l (k + 1)) ∧ Below base w0 w' ∧ base ≤ w'.heap.size := by
  obtain ⟨i0, hi0, hz0, hz1, hz2⟩ := info_parts itemInfo
  have hA := At.new W (.cells #[.int .i64 (l k).b, .int .i64 (l k).lo, .int .i64 (l k).hi, .int .i64 (l k).g, .int .i64 (l k).s] 28)
  obtain ⟨v', w', hr, ho, hg, _, _⟩ := run_append_own_at (P := Try.prog) (w := W.alloc (.cells #[.int .i64 (l k).b, .int .i64 (l k).lo, .int .i64 (l k).hi, .int .i64 (l k).g, .int .i64 (l k).s] 28)) base 22 22 28 i0 _ 5 40 Try.underlying22 hi0 hz0 hz1 hz2 rfl (by decide) v k _ (hown.alloc _) ⟨W.heap.size, 0, none⟩ 1 1 (encI (l k)) rfl
    (by intro j u hj
        rw [addr_add, Nat.zero_add, hA.cell, ← hj]
        change (encI (l k)).toArray[j]? = (encI (l k))[j]?
        simp)
    (by simp [encI, Value.oneCell']) (by simp only [maxLen]; omega) (by omega) (by simp; omega)
  refine ⟨v', w', hr, ho, (hB.alloc hbase _).grown hg (by simp; omega) (fun g hgg => (hown.lt g hgg).1), ?_⟩
  have := hg.size
  simp at this
  omega

theorem items_of_own {w : World} {base : Nat} {v : Value} {n : Nat} {l : Nat → Fe.It} (h : w.ownsRow base 28 5 v n (flatI l n)) : ∃ A c, v = .slice A n c ∧ Items w A l n := by
  rcases h.2 with ⟨rfl, h0⟩ | ⟨g, cap, cur, rfl, _, hgb, _⟩
  · exact ⟨none, 0, by rw [h0], fun hp => absurd hp (by omega)⟩
  · refine ⟨_, _, rfl, fun h0 => ⟨g, 0, rfl, (Array.getElem?_eq_some_iff.1 hgb).1, fun k hk => ?_⟩⟩
    have c : ∀ j, j < 5 → w.cell? ⟨g, 0 + k * 5 + j, none⟩ = (encI (l k))[j]? := by
      intro j hj
      have e := flatI_get l hk hj
      obtain ⟨u, hu⟩ : ∃ u, (encI (l k))[j]? = some u := ⟨_, List.getElem?_eq_getElem (by simpa [encI] using hj)⟩
      rw [hu] at e ⊢
      have := h.cells (g := g) rfl (k * 5 + j) u e
      rw [addr_add] at this
      rw [← this]; congr 2; omega
    exact ⟨c 0 (by omega), c 1 (by omega), c 2 (by omega), c 3 (by omega), c 4 (by omega)⟩

theorem ffills_out (A : Option Addr) (n c : Nat) (g s room : Int) (w : World) (hx : n ≤ 9223372036854775807) (h : n < 1 ∨ 64 < n ∨ g < 1 ∨ s < 1 ∨ room < 0 ∨ 1048576 < room) :
    Calls Try.prog 6 #[.slice A n c, .int .i64 g, .int .i64 s, .int .i64 room] w fun e w' => e = .returned (.bool true) ∧ Below w.heap.size w w' := by
  by_cases h1 : n < 1
  · go_enter Try.func6, Try.ntmps6
    go_wp2_with (go_at_call 10; with_reducible refine (fworks_any _).mono ?_; rintro e w1 ⟨rfl, hB⟩)
    go_ret
    exact ⟨rfl, hB⟩
  · have e1 : decide ((n : Int) < 1) = false := by simp; omega
    by_cases h2 : 64 < n
    · go_enter Try.func6, Try.ntmps6
      go_wp2_with (go_at_call 10; with_reducible refine (fworks_any _).mono ?_; rintro e w1 ⟨rfl, hB⟩)
      go_ret
      exact ⟨rfl, hB⟩
    · have e2 : decide (64 < (n : Int)) = false := by simp; omega
      by_cases h3 : g < 1
      · go_enter Try.func6, Try.ntmps6
        go_wp2_with (go_at_call 10; with_reducible refine (fworks_any _).mono ?_; rintro e w1 ⟨rfl, hB⟩)
        go_ret
        exact ⟨rfl, hB⟩
      · have e3 : decide (g < 1) = false := by simp; omega
        by_cases h4 : s < 1
        · go_enter Try.func6, Try.ntmps6
          go_wp2_with (go_at_call 10; with_reducible refine (fworks_any _).mono ?_; rintro e w1 ⟨rfl, hB⟩)
          go_ret
          exact ⟨rfl, hB⟩
        · have e4 : decide (s < 1) = false := by simp; omega
          by_cases h5 : room < 0
          · go_enter Try.func6, Try.ntmps6
            go_wp2_with (go_at_call 10; with_reducible refine (fworks_any _).mono ?_; rintro e w1 ⟨rfl, hB⟩)
            go_ret
            exact ⟨rfl, hB⟩
          · have e5 : decide (room < 0) = false := by simp; omega
            have h6 : 1048576 < room := by omega
            clear h
            go_enter Try.func6, Try.ntmps6
            go_wp2_with (go_at_call 10; with_reducible refine (fworks_any _).mono ?_; rintro e w1 ⟨rfl, hB⟩)
            go_ret
            exact ⟨rfl, hB⟩

set_option maxHeartbeats 4000000 in
theorem ffills_core (A : Option Addr) (l : List Int) (n c : Nat) (g s room : Int) (w : World) (hI : Ints w A l) (hl : l.length = n) (hn1 : 1 ≤ n) (hn : n ≤ 64) (hg : 1 ≤ g) (hs : 1 ≤ s) (hr : 0 ≤ room) (hr2 : room ≤ 1048576) :
    Calls Try.prog 6 #[.slice A n c, .int .i64 g, .int .i64 s, .int .i64 room] w fun e w' => e = .returned (.bool true) ∧ Below w.heap.size w w' := by
  have e1 : decide ((n : Int) < 1) = false := by simp; omega
  have e2 : decide (64 < (n : Int)) = false := by simp; omega
  have e3 : decide (g < 1) = false := by simp; omega
  have e4 : decide (s < 1) = false := by simp; omega
  have e5 : decide (room < 0) = false := by simp; omega
  have e6 : decide (1048576 < room) = false := by simp; omega
  have HI := Lib.hid hI
  have HL := Lib.hid hl
  have HG := Lib.hid hg
  have HSS := Lib.hid hs
  clear hI hl
  go_enter Try.func6, Try.ntmps6
  go_wp2_with (go_at_call 10; with_reducible refine (fworks_any _).mono ?_; rintro e w1 ⟨rfl, hB⟩)
  go_loopw [10, 11] (fun v i wr => ∃ k : Nat, k ≤ n ∧ i = .int .i64 k ∧ wr.ownsRow w.heap.size 28 5 v k (flatI (Fe.plain (fun j => l.getD j 0) g s) k) ∧ Below w.heap.size w wr ∧ Hid (∀ j, j < k → 0 ≤ l.getD j 0 ∧ l.getD j 0 ≤ 1048576)) (fun _ i _ => n - (intOf i).toNat)
  case atStart => exact ⟨0, by omega, rfl, World.ownsRow_nil _ _ _ _, hB, Lib.hid (fun j hj => absurd hj (by omega))⟩
  case round =>
    obtain ⟨k, hk, rfl, hown, hB1, HA⟩ := hrel
    by_cases hlt : k < n
    · obtain ⟨b1, o1, hA1, l1, c1⟩ := (HI.out.after hB1).at_ (k := k) (by rw [HL.out]; exact hlt)
      have hN : 0 ≤ l.getD k 0 → l.getD k 0 ≤ 1048576 → Hid (∀ j, j < k + 1 → 0 ≤ l.getD j 0 ∧ l.getD j 0 ≤ 1048576) := fun h1 h2 => Lib.hid (fun j hj => by
        rcases Nat.lt_or_ge j k with h' | h'
        · exact HA.out j h'
        · obtain rfl : j = k := by omega
          exact ⟨h1, h2⟩)
      have happ := append_item (l := Fe.plain (fun j => l.getD j 0) g s) hown hB1 hB1.size (by omega)
      obtain ⟨v', w', hrun, hown2, hB2, hb2⟩ := happ
      simp only [Fe.plain] at hrun
      have HO := Lib.hid hown2
      generalize l.getD k 0 = z at *
      have HRUN := Lib.hid hrun
      clear hrun hown hown2
      subst hA1
      by_cases hz1 : z < 0
      · go_wp2
        go_ret
        exact ⟨rfl, hB1⟩
      · have z1 : decide (z < 0) = false := by simp; omega
        by_cases hz2 : 1048576 < z
        · go_wp2
          go_ret
          exact ⟨rfl, hB1⟩
        · have z2 : decide (1048576 < z) = false := by simp; omega
          replace hN := hN (by omega) (by omega)
          clear hB1
          go_wp2_with (at_builtin; refine wpList_append_run (by rfl) _ _ 22 rfl rfl rfl HRUN.out ?_)
          go_roundw
          case rel => exact ⟨k + 1, by omega, by go_num, HO.out, hB2, hN⟩
          case measure => simp [intOf]; omega
    · obtain rfl : k = n := by omega
      obtain ⟨D, d, rfl, hID⟩ := items_of_own hown
      have HT : Hid (Fe.to room 67108864 = room) := Lib.hid (Fe.to_id hr (by omega))
      -- the numbers, beyond the list's end as well
      have hbd : ∀ j, 0 ≤ l.getD j 0 ∧ l.getD j 0 ≤ 1048576 := fun j => by
        rcases Nat.lt_or_ge j k with h' | h'
        · exact HA.out j h'
        · rw [List.getD_eq_getElem?_getD, List.getElem?_eq_none (by rw [HL.out]; exact h')]; simp
      have hsum := Fe.plain_fills (b := fun j => l.getD j 0) (g := g) (s := s) (n := k) (room := room) hbd HG.out HSS.out hn1 hn hr hr2
      have HSUM := Lib.hid hsum
      have hzb : ∀ i, 0 ≤ (Fe.fin (Fe.plain (fun j => l.getD j 0) g s) k room i).z ∧ (Fe.fin (Fe.plain (fun j => l.getD j 0) g s) k room i).z ≤ 1048576 := fun i => by
        rw [← Fe.fin_within]; exact Fe.clamp_bd _ _
      have HZB := Lib.hid hzb
      clear hown hbd hsum hzb
      go_wp2_with (go_at_call 15; refine (xsizes_any D (Fe.plain (fun j => l.getD j 0) g s) k d room _ hID hn).mono ?_; rintro e w2 ⟨⟨b2, rfl, hbb2, hI2⟩, hb2⟩)
      have hB2 := Below.after2 hB1 (Nat.le_refl _) hb2
      clear hb2 hbb2 hB1 hID
      have HI2 := Lib.hid hI2
      clear hI2
      go_loop [13, 14] (fun t i => ∃ j : Nat, j ≤ k ∧ i = .int .i64 j ∧ t = .int .i64 (Fe.sm (fun i => (Fe.fin (Fe.plain (fun j => l.getD j 0) g s) k room i).z) j)) (fun _ i => k - (intOf i).toNat)
      case atStart => exact ⟨0, by omega, rfl, rfl⟩
      case round =>
        obtain ⟨j, hj, rfl, rfl⟩ := hrel
        by_cases hjt : j < k
        · obtain ⟨l2, d2⟩ := ints_cells HI2.out (k := j) (by rw [sizesOf_length]; exact hjt)
          rw [sizes_get _ _ _ hjt, HT.out] at d2
          have hs' : Hid (Fe.sm (fun i => (Fe.fin (Fe.plain (fun j => l.getD j 0) g s) k room i).z) (j + 1) = Fe.sm (fun i => (Fe.fin (Fe.plain (fun j => l.getD j 0) g s) k room i).z) j + (Fe.fin (Fe.plain (fun j => l.getD j 0) g s) k room j).z) := Lib.hid rfl
          obtain ⟨q1, q2⟩ := HZB.out j
          have q3 : 0 ≤ Fe.sm (fun i => (Fe.fin (Fe.plain (fun j => l.getD j 0) g s) k room i).z) j := Fe.sm_ge (fun i => (HZB.out i).1) (show 0 ≤ j by omega)
          have q4 : Fe.sm (fun i => (Fe.fin (Fe.plain (fun j => l.getD j 0) g s) k room i).z) j ≤ room := by
            have := Fe.sm_ge (fun i => (HZB.out i).1) (show j ≤ k by omega)
            rw [HSUM.out] at this; exact this
          generalize Fe.sm (fun i => (Fe.fin (Fe.plain (fun j => l.getD j 0) g s) k room i).z) j = u at *
          generalize (Fe.fin (Fe.plain (fun j => l.getD j 0) g s) k room j).z = z at *
          go_wp2
          go_round
          case rel => exact ⟨j + 1, by omega, by go_num, by rw [hs'.out]⟩
          case measure => simp [intOf]; omega
        · obtain rfl : j = k := by omega
          rw [HSUM.out]
          go_wp2
          go_ret
          exact ⟨rfl, hB2⟩

theorem ffills_walk (a0 : Option Addr) (len0 cap0 : Nat) (z0 : List Int) (g s room : Int) (w : World) (h0 : Row w a0 len0 cap0 z0) :
    Calls Try.prog 6 #[.slice a0 len0 cap0, .int .i64 g, .int .i64 s, .int .i64 room] w fun e w' => e = .returned (.bool true) ∧ Below w.heap.size w w' := by
  obtain ⟨l, rfl, hl, _, _, _⟩ := ints_of_row h0
  have m1 := hl.1
  simp only [maxLen] at m1
  by_cases h : l.length < 1 ∨ 64 < l.length ∨ g < 1 ∨ s < 1 ∨ room < 0 ∨ 1048576 < room
  · exact ffills_out a0 _ cap0 g s room w (by omega) h
  · exact ffills_core a0 l _ cap0 g s room w hl rfl (by omega) (by omega) (by omega) (by omega) (by omega) (by omega)

end Go.Proofs.Ytefofdjkinbfgaa.Fix
