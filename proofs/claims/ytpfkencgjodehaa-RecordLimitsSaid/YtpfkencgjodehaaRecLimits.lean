/- The statement RecordLimits, walked. -/
import Derived.Test.YtpfkencgjodehaaRecGets
namespace Go.Proofs.Ytpfkencgjodehaa.Fix
open Go.ChangeShapes Go.WideShapes Go.ChangeAt Go.RowKit
set_option linter.unusedVariables false

set_option maxRecDepth 100000 in
set_option maxHeartbeats 4000000 in
theorem rlimits_far (A : Option Addr) (n c : Nat) (w : World) (hm : n ≤ 9223372036854775807) (h : 200 < n) : Calls Try.prog 7 #[.slice A n c] w fun e w' => e = .returned (.bool true) ∧ Below w.heap.size w w' := by
  have hz : (200 : Int) < n := by omega
  go_enter Try.func7, Try.ntmps7
  go_wp2_with (go_at_call 8; (with_reducible refine (recworks_any _).mono ?_); rintro e w2 ⟨rfl, hB⟩)
  go_ret
  exact ⟨rfl, hB⟩

set_option maxRecDepth 100000 in
set_option maxHeartbeats 4000000 in
theorem rlimits_err (A : Option Addr) (l : List Int) (n c : Nat) (er : Int) (w : World) (hI : Ints w A l) (hl : l.length = n) (hg : Re.got l = (Re.zero, er)) (he : (er = 10 ∧ n < 55) ∨ (er = 11 ∧ 55 ≤ n)) (h : n ≤ 200) : Calls Try.prog 7 #[.slice A n c] w fun e w' => e = .returned (.bool true) ∧ Below w.heap.size w w' := by
  have hz : ¬ (200 : Int) < n := by omega
  have key := fun W => recget_any A l n c hl W
  rw [hg] at key
  clear hg
  rcases he with ⟨rfl, hn⟩ | ⟨rfl, hn⟩
  · have hn' : (n : Int) < 55 := by omega
    go_enter Try.func7, Try.ntmps7
    go_wp2_with (first | (go_at_call 8; (with_reducible refine (recworks_any _).mono ?_); rintro e w2 ⟨rfl, hB⟩; replace hI := hI.after hB) | (refine wpList_alloc_style (by rfl) rfl ?_) | (refine wpList_store_same (by rfl) (.tmp 4) (.tmp 17) rfl rfl rfl (At.new _ _) ?_) | (go_at_call 14; (with_reducible refine (key _ hI).mono ?_); rintro e w3 ⟨rfl, hb⟩; replace hB := hB.trans (hb.mono hB.size); clear hb; replace hB := Below.alloc' hB (.cells (cells Re.zero) 36)) | (go_at_call 10; (with_reducible refine (gap_any _).mono ?_); rintro e w5 ⟨rfl, hb⟩; replace hB := hB.trans (hb.mono hB.size); clear hb))
    go_ret
    exact ⟨rfl, hB⟩
  · have hn' : ¬ (n : Int) < 55 := by omega
    go_enter Try.func7, Try.ntmps7
    go_wp2_with (first | (go_at_call 8; (with_reducible refine (recworks_any _).mono ?_); rintro e w2 ⟨rfl, hB⟩; replace hI := hI.after hB) | (refine wpList_alloc_style (by rfl) rfl ?_) | (refine wpList_store_same (by rfl) (.tmp 4) (.tmp 17) rfl rfl rfl (At.new _ _) ?_) | (go_at_call 14; (with_reducible refine (key _ hI).mono ?_); rintro e w3 ⟨rfl, hb⟩; replace hB := hB.trans (hb.mono hB.size); clear hb; replace hB := Below.alloc' hB (.cells (cells Re.zero) 36)) | (go_at_call 10; (with_reducible refine (gap_any _).mono ?_); rintro e w5 ⟨rfl, hb⟩; replace hB := hB.trans (hb.mono hB.size); clear hb))
    go_ret
    have hd : decide ((n : Int) < 55) = false := decide_eq_false (by omega)
    exact ⟨by simp [hd], hB⟩

set_option maxRecDepth 100000 in
set_option maxHeartbeats 4000000 in
theorem rlimits_ok (b off c : Nat) (l : List Int) (w : World) (hI : Ints w (some ⟨b, off, none⟩) l) (hl : l.length = 55) (hg : Re.got l = (Re.getS l, 0)) (hv : Re.valid (Re.getS l) = true) (hb : ∀ i, i < 55 → -1099511627776 ≤ l.getD i 0 ∧ l.getD i 0 ≤ 1099511627776)
    (h0 : 0 ≤ l.getD 0 0) (h3 : l.getD 0 0 ≤ 3) (h39 : 0 ≤ l.getD 39 0) (h1000 : l.getD 39 0 ≤ 1000) (h34 : 0 ≤ l.getD 34 0) : Calls Try.prog 7 #[.slice (some ⟨b, off, none⟩) 55 c] w fun e w' => e = .returned (.bool true) ∧ Below w.heap.size w w' := by
  have key := fun W => recget_any (some ⟨b, off, none⟩) l 55 c hl W
  rw [hg] at key
  have HD := Lib.hid hb
  have HL := Lib.hid hl
  have HV := Lib.hid hv
  clear hg hb hl hv
  go_enter Try.func7, Try.ntmps7
  go_upto_region 7 with (first | (go_at_call 8; (with_reducible refine (recworks_any _).mono ?_); rintro e w2 ⟨rfl, hB⟩; replace hI := hI.after hB) | (refine wpList_alloc_style (by rfl) rfl ?_) | (refine wpList_store_style (by rfl) (.tmp 4) (.tmp 17) rfl rfl (t := Re.getS l) rfl (At.new _ _) ?_) | (go_at_call 14; (with_reducible refine (key _ hI).mono ?_); rintro e w3 ⟨rfl, hb⟩; replace hB := hB.trans (hb.mono hB.size); replace hI := hI.after hb; clear hb))
  have A1 := (At.new w3 (.cells (cells Re.zero) 36)).setRow (cells (Re.getS l))
  have hb : Below w3.heap.size w3 ((w3.alloc (.cells (cells Re.zero) 36)).setRow w3.heap.size (cells (Re.getS l))) := Below.setRow' (Below.alloc' (Below.refl _ _) _) (Nat.le_refl _) _
  replace hI := hI.after hb
  replace hB := hB.trans (hb.mono hB.size)
  generalize (w3.alloc (.cells (cells Re.zero) 36)).setRow w3.heap.size (cells (Re.getS l)) = w4 at *
  generalize hg1 : w3.heap.size = g1 at *
  clear hb hg1 key
  have hcl : Hid (∀ k, k < 55 → w4.cell? ⟨b, off + k, none⟩ = some (.int .i64 (l.getD k 0))) := Lib.hid fun k hk => by
    obtain ⟨b', off', e', hc⟩ := hI.2 (by rw [HL.out]; decide)
    injection e' with e'
    injection e' with e1 e2
    subst e1 e2
    exact hc k (by rw [HL.out]; exact hk)
  clear hI
  have lb := World.block_lt_of_cell? _ _ (hcl.out 0 (by decide))
  go_wp2
  go_loopw [6] (fun i wr => ∃ k : Nat, k ≤ 55 ∧ i = .int .i64 k ∧ wr = w4) (fun i _ => 55 - (intOf i).toNat)
  case atStart => exact ⟨0, by omega, rfl, rfl⟩
  case round =>
    obtain ⟨k, hk, rfl, rfl⟩ := hrel
    by_cases hlt : k < 55
    · have hltz : (k : Int) < 55 := by omega
      have ck := hcl.out k hlt
      obtain ⟨hd1, hd2⟩ := HD.out k hlt
      generalize l.getD k 0 = x at *
      have hx1 : ¬ 1099511627776 < x := by omega
      have hx2 : ¬ x < -1099511627776 := by omega
      go_wp2
      go_roundw
      case rel => exact ⟨k + 1, by omega, by go_num, trivial⟩
      case measure => simp [intOf]; omega
    · obtain rfl : k = 55 := by omega
      have d0 := A1.st 0 (by decide) rfl
      have d39 := A1.st 39 (by decide) rfl
      have d34 := A1.st 34 (by decide) rfl
      have e0 : (Re.getS l).c 0 = l.getD 0 0 := rfl
      have e39 : (Re.getS l).c 39 = l.getD 39 0 := rfl
      have e34 : (Re.getS l).c 34 = l.getD 34 0 := rfl
      rw [e0] at d0
      rw [e39] at d39
      rw [e34] at d34
      have keyv := fun W => recvalid_any (Re.getS l) W
      rw [HV.out] at keyv
      clear e0 e39 e34
      generalize l.getD 0 0 = x0 at *
      generalize l.getD 39 0 = x39 at *
      generalize l.getD 34 0 = x34 at *
      go_wp2_with (first | (refine wpList_alloc_style (by rfl) rfl ?_) | (refine wpList_build_zero (by rfl) rfl ?_) | (refine wpList_load_style (by rfl) _ rfl rfl (by first | assumption | (with_reducible exact At.new _ _)) ?_) | (refine wpList_store_same (by rfl) _ _ rfl rfl rfl (by first | assumption | (with_reducible exact At.new _ _)) ?_) | (refine wpList_store_style (by rfl) _ _ rfl rfl rfl (by first | assumption | (with_reducible exact At.new _ _)) ?_) | (go_at_call 10; (with_reducible refine (keyv _).mono ?_); rintro e w5 ⟨rfl, hb⟩; replace hB := hB.trans (hb.mono hB.size); replace A1 := A1.keep hb; replace d0 := (hb.cell (p := ⟨g1, 0, none⟩) (World.block_lt_of_cell? _ _ d0)).trans d0; replace d39 := (hb.cell (p := ⟨g1, 39, none⟩) (World.block_lt_of_cell? _ _ d39)).trans d39; replace d34 := (hb.cell (p := ⟨g1, 34, none⟩) (World.block_lt_of_cell? _ _ d34)).trans d34; clear hb))
      go_ret
      exact ⟨rfl, hB⟩

theorem rlimits_walk (A : Option Addr) (n c : Nat) (zs : List Int) (w : World) (hR : Row w A n c zs) : Calls Try.prog 7 #[.slice A n c] w fun e w' => e = .returned (.bool true) ∧ Below w.heap.size w w' := by
  obtain ⟨l, hl, hI, _, hwf, _⟩ := ints_of_row hR
  have hx := hI.1
  rw [hl] at hx
  simp only [maxLen] at hx
  by_cases h : 200 < n
  · exact rlimits_far A n c w (by omega) h
  · rcases Re.got_cases l with ⟨e, he⟩ | ⟨e, he⟩ | ⟨e, he, hv, hbo⟩
    · exact rlimits_err A l n c 10 w hI hl e (.inl ⟨rfl, by omega⟩) (by omega)
    · exact rlimits_err A l n c 11 w hI hl e (.inr ⟨rfl, by omega⟩) (by omega)
    · obtain rfl : n = 55 := by omega
      obtain ⟨b, off, rfl, hc⟩ := hI.2 (by omega)
      have hput := Re.put_get he hbo
      have hnum : ∀ i, i < 55 → l.getD i 0 = Re.num (Re.getS l) i := fun i hi => by
        have := Re.putL_get (Re.getS l) hi
        rw [hput] at this
        exact this
      have hv2 := hv
      unfold Re.valid Re.kindsV Re.sizesV at hv2
      simp only [Bool.and_eq_true, List.all_eq_true, Re.inn_iff] at hv2
      obtain ⟨⟨⟨⟨⟨h1, h2⟩, h3⟩, h4⟩, h5⟩, h6⟩ := hv2
      have h0 := h1.1.1.1.1.1.1
      have h34 := h3 34 (by decide)
      exact rlimits_ok b off c l w hI he e hv (fun i hi => by rw [hnum i hi]; exact Re.limits hv hi) h0.1 h0.2 h4.1 h4.2 h34.1

end Go.Proofs.Ytpfkencgjodehaa.Fix
