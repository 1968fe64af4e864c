/- AnchorSeen: it returns true, and leaves all that was there as it was. Written by wip/tools/genanlaws.py. -/
import Derived.Test.YtnoofdojbgkmkaaAnLaw0
namespace Go.Proofs.Ytnoofdojbgkmkaa.Fix
open Go.ChangeShapes Go.WideShapes Go.ChangeAt Go.RowKit Go.Deep Go.Joins
set_option linter.unusedVariables false
set_option linter.unusedSimpArgs false

theorem anseen_out (A : Option Addr) (n c : Nat) (x y : Int) (w : World) (hx : n ≤ 9223372036854775807) (h : 60 < n) :
    Calls Try.prog 4 #[.slice A n c, .agg #[.int .i64 x, .int .i64 y]] w fun e w' => e = .returned (.bool true) ∧ Below w.heap.size w w' := by
  have e1 : decide (60 < (n : Int)) = true := by simp; omega
  go_enter Try.func4, Try.ntmps4
  go_upto_region 1 with (fail)
  (generalize hW : World.alloc w _ = W0; have A0 : At W0 (w.heap.size) (.cells #[.int .i64 x, .int .i64 y] 24) := (by ((rw [← hW]) <;> exact At.new' _ (by first | done | rfl | simp))); have hB : Below w.heap.size w W0 := (by ((rw [← hW]) <;> exact Below.alloc' (Below.refl _ _) _)); clear hW; obtain ⟨l0, c0_0, c0_1⟩ := At.two A0)
  go_wp2_with ((go_at_call 9; with_reducible refine (anworks_any _).mono ?_; rintro e w' ⟨rfl, hb⟩; (clear l0 c0_0 c0_1); (replace hB := Below.after2 (by first | exact hB | exact Below.alloc' hB _ | exact Below.alloc' (Below.alloc' hB _) _) (Nat.le_refl _) hb); replace A0 := At.keep (by first | exact A0 | exact At.alloc A0 _ | exact At.alloc (At.alloc A0 _) _) hb; clear hb; obtain ⟨l0, c0_0, c0_1⟩ := At.two A0))
  go_ret
  exact ⟨rfl, hB⟩

set_option maxRecDepth 100000 in
set_option maxHeartbeats 4000000 in
theorem anseen_none (A : Option Addr) (l : Nat → An.Nd) (n c : Nat) (x y : Int) (w : World) (hN : Nodes w A l n) (hn : n ≤ 60) (hv : An.V l n) (hr : An.NoKid l n x y (-1)) :
    Calls Try.prog 4 #[.slice A n c, .agg #[.int .i64 x, .int .i64 y]] w fun e w' => e = .returned (.bool true) ∧ Below w.heap.size w w' := by
  have e1 : decide (60 < (n : Int)) = false := by simp; omega
  have hn1 : n ≤ 1000 := by omega
  have e2 : decide ((n : Int) ≤ -1) = false := by simp; omega
  have HN := Lib.hid hN
  have HV := Lib.hid hv
  have HR := Lib.hid hr
  have HP := Lib.hid (show An.Picked l n x y (-1) from .inl ⟨rfl, hr⟩)
  clear hN hv hr
  go_enter Try.func4, Try.ntmps4
  go_upto_region 1 with (fail)
  (generalize hW : World.alloc w _ = W0; have A0 : At W0 (w.heap.size) (.cells #[.int .i64 x, .int .i64 y] 24) := (by ((rw [← hW]) <;> exact At.new' _ (by first | done | rfl | simp))); have hB : Below w.heap.size w W0 := (by ((rw [← hW]) <;> exact Below.alloc' (Below.refl _ _) _)); clear hW; obtain ⟨l0, c0_0, c0_1⟩ := At.two A0)
  go_wp2_with (first | (go_at_call 9; with_reducible refine (anworks_any _).mono ?_; rintro e w' ⟨rfl, hb⟩; (clear l0 c0_0 c0_1); (replace hB := Below.after2 (by first | exact hB | exact Below.alloc' hB _ | exact Below.alloc' (Below.alloc' hB _) _) (Nat.le_refl _) hb); replace A0 := At.keep (by first | exact A0 | exact At.alloc A0 _ | exact At.alloc (At.alloc A0 _) _) hb; clear hb; obtain ⟨l0, c0_0, c0_1⟩ := At.two A0) | (go_at_call 16; with_reducible refine (anpick_any (r := -1) _ (HN.out.after hB) hn1 (.inl ⟨HV.out, HP.out⟩)).mono ?_; rintro e w' ⟨rfl, hb⟩; (clear l0 c0_0 c0_1); (replace hB := Below.after2 (by first | exact hB | exact Below.alloc' hB _ | exact Below.alloc' (Below.alloc' hB _) _) (Nat.le_refl _) hb); replace A0 := At.keep (by first | exact A0 | exact At.alloc A0 _ | exact At.alloc (At.alloc A0 _) _) hb; clear hb; obtain ⟨l0, c0_0, c0_1⟩ := At.two A0) | (go_at_call 15; with_reducible refine (anvalid_any (v := true) _ (HN.out.after hB) hn1 (.inl ⟨rfl, HV.out⟩)).mono ?_; rintro e w' ⟨rfl, hb⟩; (clear l0 c0_0 c0_1); (replace hB := Below.after2 (by first | exact hB | exact Below.alloc' hB _ | exact Below.alloc' (Below.alloc' hB _) _) (Nat.le_refl _) hb); replace A0 := At.keep (by first | exact A0 | exact At.alloc A0 _ | exact At.alloc (At.alloc A0 _) _) hb; clear hb; obtain ⟨l0, c0_0, c0_1⟩ := At.two A0))
  go_loopw [7] (fun i wr => ∃ q : Nat, q ≤ n ∧ i = .int .i64 q ∧ Hid (At wr w.heap.size (.cells #[.int .i64 x, .int .i64 y] 24)) ∧ Below w.heap.size w wr) (fun i _ => n - (intOf i).toNat)
  case atStart => exact ⟨0, by omega, rfl, Lib.hid A0, hB⟩
  case round =>
    clear hB A0 l0 c0_0 c0_1
    obtain ⟨q, hq, rfl, A0, hB⟩ := hrel
    replace A0 := A0.out
    obtain ⟨l0, c0_0, c0_1⟩ := At.two A0
    by_cases hlt : q < n
    · have hltz : (q : Int) < (n : Int) := by omega
      obtain ⟨b, off, rfl, hbl, hc⟩ := HN.out (by omega)
      have HC := Lib.hid hc
      clear hc
      obtain ⟨d0, d1, d2, d3⟩ := (HC.out q (by omega)).keep hB hbl
      have hbl2 := Nat.lt_of_lt_of_le hbl hB.size
      obtain ⟨z, hz⟩ : ∃ z, (l q).up = z := ⟨_, rfl⟩
      rw [hz] at d0
      have HZ := Lib.hid hz
      clear hz
      by_cases hzu : z = -1
      · subst hzu
        obtain ⟨s, hs⟩ : ∃ s, (l q).skip = s := ⟨_, rfl⟩
        rw [hs] at d3
        cases s with
        | true =>
          clear hs
          go_upto_region 15 with (fail)
          refine Drawn.wp_region_from (Below.refl _ _) (by kernel_rfl) (by kernel_rfl) (by kernel_rfl) ?_
          (repeat (first | (refine Drawn.seq_skip (by rfl) ?_; (try simp only [Act.put, List.setIfInBounds_toArray, List.set_cons_zero, List.set_cons_succ])) | (refine Drawn.seq_call (o := ⟨_, .call ⟨.value _, _, _⟩, _, _, _, _⟩) (by rfl) (by intro w2 hS; go_simp; first | done | with_reducible rfl | exact ⟨rfl, rfl⟩) (by intro w2 hS; first | ((with_reducible refine (ansight_any _ HSG.out).mono ?_); rintro e w' ⟨rfl, hb⟩; exact ⟨rfl, Below.after hS hb⟩)) ?_; (try simp only [Act.put, List.setIfInBounds_toArray, List.set_cons_zero, List.set_cons_succ])) | (refine Drawn.seq_value (by rfl) (by intro w2 hS; obtain ⟨hc, hf⟩ := bcell hS; go_simp; first | done | with_reducible rfl | exact ⟨rfl, rfl⟩) ?_; (try simp only [Act.put, List.setIfInBounds_toArray, List.set_cons_zero, List.set_cons_succ]))))
          refine Drawn.seq_end ?_; intro w2 hS
          (clear l0 c0_0 c0_1); (replace hB := Below.after2 (by first | exact hB | exact Below.alloc' hB _ | exact Below.alloc' (Below.alloc' hB _) _) (Nat.le_refl _) hS); replace A0 := At.keep (by first | exact A0 | exact At.alloc A0 _ | exact At.alloc (At.alloc A0 _) _) hS; clear hS; obtain ⟨l0, c0_0, c0_1⟩ := At.two A0
          go_wp2
          go_roundw
          case rel => exact ⟨q + 1, by omega, by go_num, Lib.hid A0, hB⟩
          case measure => simp [intOf]; omega
        | false =>
          have hsg : An.sight (l q).lo (l q).hi x y = 0 := by
            rcases An.sight_range (l q).lo (l q).hi x y with h | h | h
            · exact h
            · exact absurd ⟨hs, by unfold An.sg; omega⟩ (HR.out q hlt HZ.out)
            · exact absurd ⟨hs, by unfold An.sg; omega⟩ (HR.out q hlt HZ.out)
          generalize (l q).lo = x1 at d1 hsg
          generalize (l q).hi = x2 at d2 hsg
          have HSG := Lib.hid hsg
          clear hsg hs
          go_upto_region 15 with (fail)
          refine Drawn.wp_region_from (Below.refl _ _) (by kernel_rfl) (by kernel_rfl) (by kernel_rfl) ?_
          (repeat (first | (refine Drawn.seq_skip (by rfl) ?_; (try simp only [Act.put, List.setIfInBounds_toArray, List.set_cons_zero, List.set_cons_succ])) | (refine Drawn.seq_call (o := ⟨_, .call ⟨.value _, _, _⟩, _, _, _, _⟩) (by rfl) (by intro w2 hS; go_simp; first | done | with_reducible rfl | exact ⟨rfl, rfl⟩) (by intro w2 hS; first | ((with_reducible refine (ansight_any _ HSG.out).mono ?_); rintro e w' ⟨rfl, hb⟩; exact ⟨rfl, Below.after hS hb⟩)) ?_; (try simp only [Act.put, List.setIfInBounds_toArray, List.set_cons_zero, List.set_cons_succ])) | (refine Drawn.seq_value (by rfl) (by intro w2 hS; obtain ⟨hc, hf⟩ := bcell hS; go_simp; first | done | with_reducible rfl | exact ⟨rfl, rfl⟩) ?_; (try simp only [Act.put, List.setIfInBounds_toArray, List.set_cons_zero, List.set_cons_succ]))))
          refine Drawn.seq_end ?_; intro w2 hS
          (clear l0 c0_0 c0_1); (replace hB := Below.after2 (by first | exact hB | exact Below.alloc' hB _ | exact Below.alloc' (Below.alloc' hB _) _) (Nat.le_refl _) hS); replace A0 := At.keep (by first | exact A0 | exact At.alloc A0 _ | exact At.alloc (At.alloc A0 _) _) hS; clear hS; obtain ⟨l0, c0_0, c0_1⟩ := At.two A0
          go_wp2
          go_roundw
          case rel => exact ⟨q + 1, by omega, by go_num, Lib.hid A0, hB⟩
          case measure => simp [intOf]; omega
      · have hz8 : (z == -1) = false := by simpa using hzu
        have hz9 : decide (z = -1) = false := by simpa using hzu
        generalize (l q).skip = x3 at d3
        generalize (l q).lo = x1 at d1
        generalize (l q).hi = x2 at d2
        go_upto_region 15 with (fail)
        refine Drawn.wp_region_from (Below.refl _ _) (by kernel_rfl) (by kernel_rfl) (by kernel_rfl) ?_
        (repeat (first | (refine Drawn.seq_skip (by rfl) ?_; (try simp only [Act.put, List.setIfInBounds_toArray, List.set_cons_zero, List.set_cons_succ])) | (refine Drawn.seq_call (o := ⟨_, .call ⟨.value _, _, _⟩, _, _, _, _⟩) (by rfl) (by intro w2 hS; go_simp; first | done | with_reducible rfl | exact ⟨rfl, rfl⟩) (by intro w2 hS; first | ((with_reducible refine (ansight_any _ HSG.out).mono ?_); rintro e w' ⟨rfl, hb⟩; exact ⟨rfl, Below.after hS hb⟩)) ?_; (try simp only [Act.put, List.setIfInBounds_toArray, List.set_cons_zero, List.set_cons_succ])) | (refine Drawn.seq_value (by rfl) (by intro w2 hS; obtain ⟨hc, hf⟩ := bcell hS; go_simp; first | done | with_reducible rfl | exact ⟨rfl, rfl⟩) ?_; (try simp only [Act.put, List.setIfInBounds_toArray, List.set_cons_zero, List.set_cons_succ]))))
        refine Drawn.seq_end ?_; intro w2 hS
        (clear l0 c0_0 c0_1); (replace hB := Below.after2 (by first | exact hB | exact Below.alloc' hB _ | exact Below.alloc' (Below.alloc' hB _) _) (Nat.le_refl _) hS); replace A0 := At.keep (by first | exact A0 | exact At.alloc A0 _ | exact At.alloc (At.alloc A0 _) _) hS; clear hS; obtain ⟨l0, c0_0, c0_1⟩ := At.two A0
        go_wp2
        go_roundw
        case rel => exact ⟨q + 1, by omega, by go_num, Lib.hid A0, hB⟩
        case measure => simp [intOf]; omega
    · obtain rfl : q = n := by omega
      have hltz : ¬ (q : Int) < (q : Int) := by omega
      go_wp2
      go_ret
      exact ⟨rfl, hB⟩

set_option maxRecDepth 100000 in
set_option maxHeartbeats 8000000 in
theorem anseen_some (A : Option Addr) (l : Nat → An.Nd) (n c : Nat) (x y : Int) (k : Nat) (w : World) (hN : Nodes w A l n) (hn : n ≤ 60) (hv : An.V l n) (hk : k < n) (hch : An.Chain l n x y k) (hr : An.sg (l k) x y = 2 ∨ (An.sg (l k) x y = 1 ∧ An.NoKid l n x y k)) :
    Calls Try.prog 4 #[.slice A n c, .agg #[.int .i64 x, .int .i64 y]] w fun e w' => e = .returned (.bool true) ∧ Below w.heap.size w w' := by
  have e1 : decide (60 < (n : Int)) = false := by simp; omega
  have hn1 : n ≤ 1000 := by omega
  have e2 : decide ((n : Int) ≤ (k : Int)) = false := by simp; omega
  have HN := Lib.hid hN
  have HV := Lib.hid hv
  have HP := Lib.hid (show An.Picked l n x y k from .inr ⟨k, rfl, hk, hch, hr⟩)
  have HCH := Lib.hid hch
  have hsk : (l k).skip = false := by
    rcases hch.out with h | ⟨m, hm, _, _, h⟩
    · omega
    · obtain rfl : k = m := by omega
      exact h.2.2.1.1
  have HSK := Lib.hid hsk
  have HPS := Lib.hid (show An.sg (l k) x y = 1 ∨ An.sg (l k) x y = 2 by omega)
  clear hN hv hr hch hsk
  go_enter Try.func4, Try.ntmps4
  go_upto_region 1 with (fail)
  (generalize hW : World.alloc w _ = W0; have A0 : At W0 (w.heap.size) (.cells #[.int .i64 x, .int .i64 y] 24) := (by ((rw [← hW]) <;> exact At.new' _ (by first | done | rfl | simp))); have hB : Below w.heap.size w W0 := (by ((rw [← hW]) <;> exact Below.alloc' (Below.refl _ _) _)); clear hW; obtain ⟨l0, c0_0, c0_1⟩ := At.two A0)
  go_upto_region 18 with (first | (go_at_call 9; with_reducible refine (anworks_any _).mono ?_; rintro e w' ⟨rfl, hb⟩; (clear l0 c0_0 c0_1); (replace hB := Below.after2 (by first | exact hB | exact Below.alloc' hB _ | exact Below.alloc' (Below.alloc' hB _) _) (Nat.le_refl _) hb); replace A0 := At.keep (by first | exact A0 | exact At.alloc A0 _ | exact At.alloc (At.alloc A0 _) _) hb; clear hb; obtain ⟨l0, c0_0, c0_1⟩ := At.two A0) | (go_at_call 16; with_reducible refine (anpick_any (r := (k : Int)) _ (HN.out.after hB) hn1 (.inl ⟨HV.out, HP.out⟩)).mono ?_; rintro e w' ⟨rfl, hb⟩; (clear l0 c0_0 c0_1); (replace hB := Below.after2 (by first | exact hB | exact Below.alloc' hB _ | exact Below.alloc' (Below.alloc' hB _) _) (Nat.le_refl _) hb); replace A0 := At.keep (by first | exact A0 | exact At.alloc A0 _ | exact At.alloc (At.alloc A0 _) _) hb; clear hb; obtain ⟨l0, c0_0, c0_1⟩ := At.two A0) | (go_at_call 15; with_reducible refine (anvalid_any (v := true) _ (HN.out.after hB) hn1 (.inl ⟨rfl, HV.out⟩)).mono ?_; rintro e w' ⟨rfl, hb⟩; (clear l0 c0_0 c0_1); (replace hB := Below.after2 (by first | exact hB | exact Below.alloc' hB _ | exact Below.alloc' (Below.alloc' hB _) _) (Nat.le_refl _) hb); replace A0 := At.keep (by first | exact A0 | exact At.alloc A0 _ | exact At.alloc (At.alloc A0 _) _) hb; clear hb; obtain ⟨l0, c0_0, c0_1⟩ := At.two A0))
  obtain ⟨b, off, rfl, hbl, hc⟩ := HN.out (by omega)
  obtain ⟨d0, d1, d2, d3⟩ := (hc k hk).keep hB hbl
  have hbl2 := Nat.lt_of_lt_of_le hbl hB.size
  have hkz : (k : Int) < (n : Int) := by omega
  obtain ⟨s, hs, hs2⟩ : ∃ s, An.sight (l k).lo (l k).hi x y = s ∧ (s = 1 ∨ s = 2) := ⟨_, rfl, by have := HPS.out; unfold An.sg at this; omega⟩
  rw [HSK.out] at d3
  have HSG := Lib.hid hs
  have HC := Lib.hid hc
  clear hs hc
  generalize (l k).up = z0 at d0
  generalize (l k).lo = x1 at *
  generalize (l k).hi = x2 at *
  have hs3 : decide (s = 0) = false := by simp; omega
  have hs4 : (s == 0) = false := by simp; omega
  refine Drawn.wp_region_from (Below.refl _ _) (by kernel_rfl) (by kernel_rfl) (by kernel_rfl) ?_
  (repeat (first | (refine Drawn.seq_skip (by rfl) ?_; (try simp only [Act.put, List.setIfInBounds_toArray, List.set_cons_zero, List.set_cons_succ])) | (refine Drawn.seq_call (o := ⟨_, .call ⟨.value _, _, _⟩, _, _, _, _⟩) (by rfl) (by intro w2 hS; go_simp; first | done | with_reducible rfl | exact ⟨rfl, rfl⟩) (by intro w2 hS; first | ((with_reducible refine (ansight_any _ HSG.out).mono ?_); rintro e w' ⟨rfl, hb⟩; exact ⟨rfl, Below.after hS hb⟩)) ?_; (try simp only [Act.put, List.setIfInBounds_toArray, List.set_cons_zero, List.set_cons_succ])) | (refine Drawn.seq_value (by rfl) (by intro w2 hS; obtain ⟨hc, hf⟩ := bcell hS; go_simp; first | done | with_reducible rfl | exact ⟨rfl, rfl⟩) ?_; (try simp only [Act.put, List.setIfInBounds_toArray, List.set_cons_zero, List.set_cons_succ]))))
  refine Drawn.seq_end ?_; intro w2 hS
  (clear l0 c0_0 c0_1); (replace hB := Below.after2 (by first | exact hB | exact Below.alloc' hB _ | exact Below.alloc' (Below.alloc' hB _) _) (Nat.le_refl _) hS); replace A0 := At.keep (by first | exact A0 | exact At.alloc A0 _ | exact At.alloc (At.alloc A0 _) _) hS; clear hS; obtain ⟨l0, c0_0, c0_1⟩ := At.two A0
  clear HSG d0 d1 d2 d3 hs3 hs4 hs2
  go_wp2
  go_loopw [8] (fun i wr => ∃ z : Int, i = .int .i64 z ∧ -1 ≤ z ∧ z < n ∧ Aside (An.Chain l n x y z) ∧ Hid (At wr w.heap.size (.cells #[.int .i64 x, .int .i64 y] 24)) ∧ Below w.heap.size w wr) (fun i _ => (intOf i + 1).toNat)
  case atStart => exact ⟨k, rfl, by omega, by omega, HCH.out, Lib.hid A0, hB⟩
  case round =>
    clear hB A0 l0 c0_0 c0_1 hbl2
    obtain ⟨z, rfl, z1, z2, HZC, A0, hB⟩ := hrel
    replace A0 := A0.out
    obtain ⟨l0, c0_0, c0_1⟩ := At.two A0
    have hbl2 := Nat.lt_of_lt_of_le hbl hB.size
    by_cases hz0 : z = -1
    · subst hz0
      go_wp2
      go_ret
      exact ⟨rfl, hB⟩
    · obtain ⟨j, rfl, hpc, hpar, hkid⟩ : ∃ j : Nat, z = j ∧ An.Chain l n x y (l j).up ∧ ((l j).up = -1 ∨ An.Part l x y (l j).up) ∧ An.Kid l n x y (l j).up j := by
        rcases HZC.out.out with h | h
        · exact absurd h hz0
        · exact h
      have hup := HV.out j hkid.1
      have u1 := hup.1
      have u2 := hup.2.1
      clear hup
      obtain ⟨d0, d1, d2, d3⟩ := (HC.out j (by omega)).keep hB hbl
      obtain ⟨u, hu⟩ : ∃ u, (l j).up = u := ⟨_, rfl⟩
      rw [hu] at d0 u1 u2 hpc hpar hkid
      have HU := Lib.hid hu
      have HPC := Lib.hid hpc
      have HK := Lib.hid hkid.2.2.2
      clear hkid hu d1 d2 d3
      have HX := Lib.hid (show u = -1 ∨ ∃ i : Nat, u = i ∧ (l i).skip = false ∧ An.sight (l i).lo (l i).hi x y = 1 from by
        rcases hpar with h | ⟨i, hi, h⟩
        · exact .inl h
        · refine .inr ⟨i, hi, ?_, h⟩
          rcases hpc.out with g | ⟨i', hi', _, _, g⟩
          · omega
          · obtain rfl : i = i' := by omega
            exact g.2.2.1.1)
      clear hpc hpar
      go_upto_region 24 with (fail)
      clear d0
      rcases HX.out with hu | ⟨i, rfl, hi1, hi2⟩
      · have hu0 : decide (0 ≤ u) = false := by simp; omega
        clear HX hu
        refine Drawn.wp_region_from (Below.refl _ _) (by kernel_rfl) (by kernel_rfl) (by kernel_rfl) ?_
        (repeat (first | (refine Drawn.seq_skip (by rfl) ?_; (try simp only [Act.put, List.setIfInBounds_toArray, List.set_cons_zero, List.set_cons_succ])) | (refine Drawn.seq_call (o := ⟨_, .call ⟨.value _, _, _⟩, _, _, _, _⟩) (by rfl) (by intro w2 hS; go_simp; first | done | with_reducible rfl | exact ⟨rfl, rfl⟩) (by intro w2 hS; first | ((with_reducible refine (ansight_any _ HSG.out).mono ?_); rintro e w' ⟨rfl, hb⟩; exact ⟨rfl, Below.after hS hb⟩)) ?_; (try simp only [Act.put, List.setIfInBounds_toArray, List.set_cons_zero, List.set_cons_succ])) | (refine Drawn.seq_value (by rfl) (by intro w2 hS; obtain ⟨hc, hf⟩ := bcell hS; go_simp; first | done | with_reducible rfl | exact ⟨rfl, rfl⟩) ?_; (try simp only [Act.put, List.setIfInBounds_toArray, List.set_cons_zero, List.set_cons_succ]))))
        refine Drawn.seq_end ?_; intro w2 hS
        (clear l0 c0_0 c0_1); (replace hB := Below.after2 (by first | exact hB | exact Below.alloc' hB _ | exact Below.alloc' (Below.alloc' hB _) _) (Nat.le_refl _) hS); replace A0 := At.keep (by first | exact A0 | exact At.alloc A0 _ | exact At.alloc (At.alloc A0 _) _) hS; clear hS; obtain ⟨l0, c0_0, c0_1⟩ := At.two A0
        go_wp2
        go_loopw [10] (fun i wr => ∃ q : Nat, q ≤ j ∧ i = .int .i64 q ∧ Hid (At wr w.heap.size (.cells #[.int .i64 x, .int .i64 y] 24)) ∧ Below w.heap.size w wr) (fun i _ => j - (intOf i).toNat)
        case atStart => exact ⟨0, by omega, rfl, Lib.hid A0, hB⟩
        case round =>
          clear hB A0 l0 c0_0 c0_1 hbl2
          obtain ⟨q, hq, rfl, A0, hB⟩ := hrel
          replace A0 := A0.out
          obtain ⟨l0, c0_0, c0_1⟩ := At.two A0
          by_cases hlt : q < j
          · have hltz : (q : Int) < (j : Int) := by omega
            have hltn : (q : Int) < (n : Int) := by omega
            obtain ⟨d0, d1, d2, d3⟩ := (HC.out q (by omega)).keep hB hbl
            have hbl2 := Nat.lt_of_lt_of_le hbl hB.size
            obtain ⟨z, hz⟩ : ∃ z, (l q).up = z := ⟨_, rfl⟩
            rw [hz] at d0
            have HZ := Lib.hid hz
            clear hz
            by_cases hzu : z = u
            · subst hzu
              obtain ⟨s, hs⟩ : ∃ s, (l q).skip = s := ⟨_, rfl⟩
              rw [hs] at d3
              cases s with
              | true =>
                clear hs
                go_upto_region 29 with (fail)
                refine Drawn.wp_region_from (Below.refl _ _) (by kernel_rfl) (by kernel_rfl) (by kernel_rfl) ?_
                (repeat (first | (refine Drawn.seq_skip (by rfl) ?_; (try simp only [Act.put, List.setIfInBounds_toArray, List.set_cons_zero, List.set_cons_succ])) | (refine Drawn.seq_call (o := ⟨_, .call ⟨.value _, _, _⟩, _, _, _, _⟩) (by rfl) (by intro w2 hS; go_simp; first | done | with_reducible rfl | exact ⟨rfl, rfl⟩) (by intro w2 hS; first | ((with_reducible refine (ansight_any _ HSG.out).mono ?_); rintro e w' ⟨rfl, hb⟩; exact ⟨rfl, Below.after hS hb⟩)) ?_; (try simp only [Act.put, List.setIfInBounds_toArray, List.set_cons_zero, List.set_cons_succ])) | (refine Drawn.seq_value (by rfl) (by intro w2 hS; obtain ⟨hc, hf⟩ := bcell hS; go_simp; first | done | with_reducible rfl | exact ⟨rfl, rfl⟩) ?_; (try simp only [Act.put, List.setIfInBounds_toArray, List.set_cons_zero, List.set_cons_succ]))))
                refine Drawn.seq_end ?_; intro w2 hS
                (clear l0 c0_0 c0_1); (replace hB := Below.after2 (by first | exact hB | exact Below.alloc' hB _ | exact Below.alloc' (Below.alloc' hB _) _) (Nat.le_refl _) hS); replace A0 := At.keep (by first | exact A0 | exact At.alloc A0 _ | exact At.alloc (At.alloc A0 _) _) hS; clear hS; obtain ⟨l0, c0_0, c0_1⟩ := At.two A0
                go_wp2
                go_roundw
                case rel => exact ⟨q + 1, by omega, by go_num, Lib.hid A0, hB⟩
                case measure => simp [intOf]; omega
              | false =>
                have hsg : An.sight (l q).lo (l q).hi x y = 0 := by
                  rcases An.sight_range (l q).lo (l q).hi x y with h | h | h
                  · exact h
                  · exact absurd ⟨hs, by unfold An.sg; omega⟩ (HK.out q hlt HZ.out)
                  · exact absurd ⟨hs, by unfold An.sg; omega⟩ (HK.out q hlt HZ.out)
                generalize (l q).lo = x1 at d1 hsg
                generalize (l q).hi = x2 at d2 hsg
                have HSG := Lib.hid hsg
                clear hsg hs
                go_upto_region 29 with (fail)
                refine Drawn.wp_region_from (Below.refl _ _) (by kernel_rfl) (by kernel_rfl) (by kernel_rfl) ?_
                (repeat (first | (refine Drawn.seq_skip (by rfl) ?_; (try simp only [Act.put, List.setIfInBounds_toArray, List.set_cons_zero, List.set_cons_succ])) | (refine Drawn.seq_call (o := ⟨_, .call ⟨.value _, _, _⟩, _, _, _, _⟩) (by rfl) (by intro w2 hS; go_simp; first | done | with_reducible rfl | exact ⟨rfl, rfl⟩) (by intro w2 hS; first | ((with_reducible refine (ansight_any _ HSG.out).mono ?_); rintro e w' ⟨rfl, hb⟩; exact ⟨rfl, Below.after hS hb⟩)) ?_; (try simp only [Act.put, List.setIfInBounds_toArray, List.set_cons_zero, List.set_cons_succ])) | (refine Drawn.seq_value (by rfl) (by intro w2 hS; obtain ⟨hc, hf⟩ := bcell hS; go_simp; first | done | with_reducible rfl | exact ⟨rfl, rfl⟩) ?_; (try simp only [Act.put, List.setIfInBounds_toArray, List.set_cons_zero, List.set_cons_succ]))))
                refine Drawn.seq_end ?_; intro w2 hS
                (clear l0 c0_0 c0_1); (replace hB := Below.after2 (by first | exact hB | exact Below.alloc' hB _ | exact Below.alloc' (Below.alloc' hB _) _) (Nat.le_refl _) hS); replace A0 := At.keep (by first | exact A0 | exact At.alloc A0 _ | exact At.alloc (At.alloc A0 _) _) hS; clear hS; obtain ⟨l0, c0_0, c0_1⟩ := At.two A0
                go_wp2
                go_roundw
                case rel => exact ⟨q + 1, by omega, by go_num, Lib.hid A0, hB⟩
                case measure => simp [intOf]; omega
            · have hz8 : (z == u) = false := by simpa using hzu
              have hz9 : decide (z = u) = false := by simpa using hzu
              generalize (l q).skip = x3 at d3
              generalize (l q).lo = x1 at d1
              generalize (l q).hi = x2 at d2
              go_upto_region 29 with (fail)
              refine Drawn.wp_region_from (Below.refl _ _) (by kernel_rfl) (by kernel_rfl) (by kernel_rfl) ?_
              (repeat (first | (refine Drawn.seq_skip (by rfl) ?_; (try simp only [Act.put, List.setIfInBounds_toArray, List.set_cons_zero, List.set_cons_succ])) | (refine Drawn.seq_call (o := ⟨_, .call ⟨.value _, _, _⟩, _, _, _, _⟩) (by rfl) (by intro w2 hS; go_simp; first | done | with_reducible rfl | exact ⟨rfl, rfl⟩) (by intro w2 hS; first | ((with_reducible refine (ansight_any _ HSG.out).mono ?_); rintro e w' ⟨rfl, hb⟩; exact ⟨rfl, Below.after hS hb⟩)) ?_; (try simp only [Act.put, List.setIfInBounds_toArray, List.set_cons_zero, List.set_cons_succ])) | (refine Drawn.seq_value (by rfl) (by intro w2 hS; obtain ⟨hc, hf⟩ := bcell hS; go_simp; first | done | with_reducible rfl | exact ⟨rfl, rfl⟩) ?_; (try simp only [Act.put, List.setIfInBounds_toArray, List.set_cons_zero, List.set_cons_succ]))))
              refine Drawn.seq_end ?_; intro w2 hS
              (clear l0 c0_0 c0_1); (replace hB := Below.after2 (by first | exact hB | exact Below.alloc' hB _ | exact Below.alloc' (Below.alloc' hB _) _) (Nat.le_refl _) hS); replace A0 := At.keep (by first | exact A0 | exact At.alloc A0 _ | exact At.alloc (At.alloc A0 _) _) hS; clear hS; obtain ⟨l0, c0_0, c0_1⟩ := At.two A0
              go_wp2
              go_roundw
              case rel => exact ⟨q + 1, by omega, by go_num, Lib.hid A0, hB⟩
              case measure => simp [intOf]; omega
          · obtain rfl : q = j := by omega
            have hltz : ¬ (q : Int) < (q : Int) := by omega
            obtain ⟨d0, d1, d2, d3⟩ := (HC.out q (by omega)).keep hB hbl
            rw [HU.out] at d0
            clear d1 d2 d3
            go_wp2
            go_roundw
            case rel => exact ⟨u, rfl, by omega, by omega, HPC.out, Lib.hid A0, hB⟩
            case measure => simp [intOf]; omega
      · obtain ⟨d0, d1, d2, d3⟩ := (HC.out i (by omega)).keep hB hbl
        rw [hi1] at d3
        have hin : (i : Int) < (n : Int) := by omega
        generalize (l i).lo = x1 at d1 hi2
        generalize (l i).hi = x2 at d2 hi2
        have HSG := Lib.hid hi2
        clear HX hi1 hi2
        refine Drawn.wp_region_from (Below.refl _ _) (by kernel_rfl) (by kernel_rfl) (by kernel_rfl) ?_
        (repeat (first | (refine Drawn.seq_skip (by rfl) ?_; (try simp only [Act.put, List.setIfInBounds_toArray, List.set_cons_zero, List.set_cons_succ])) | (refine Drawn.seq_call (o := ⟨_, .call ⟨.value _, _, _⟩, _, _, _, _⟩) (by rfl) (by intro w2 hS; go_simp; first | done | with_reducible rfl | exact ⟨rfl, rfl⟩) (by intro w2 hS; first | ((with_reducible refine (ansight_any _ HSG.out).mono ?_); rintro e w' ⟨rfl, hb⟩; exact ⟨rfl, Below.after hS hb⟩)) ?_; (try simp only [Act.put, List.setIfInBounds_toArray, List.set_cons_zero, List.set_cons_succ])) | (refine Drawn.seq_value (by rfl) (by intro w2 hS; obtain ⟨hc, hf⟩ := bcell hS; go_simp; first | done | with_reducible rfl | exact ⟨rfl, rfl⟩) ?_; (try simp only [Act.put, List.setIfInBounds_toArray, List.set_cons_zero, List.set_cons_succ]))))
        refine Drawn.seq_end ?_; intro w2 hS
        (clear l0 c0_0 c0_1); (replace hB := Below.after2 (by first | exact hB | exact Below.alloc' hB _ | exact Below.alloc' (Below.alloc' hB _) _) (Nat.le_refl _) hS); replace A0 := At.keep (by first | exact A0 | exact At.alloc A0 _ | exact At.alloc (At.alloc A0 _) _) hS; clear hS; obtain ⟨l0, c0_0, c0_1⟩ := At.two A0
        clear d0 d1 d2 d3 HSG
        go_wp2
        go_loopw [10] (fun i wr => ∃ q : Nat, q ≤ j ∧ i = .int .i64 q ∧ Hid (At wr w.heap.size (.cells #[.int .i64 x, .int .i64 y] 24)) ∧ Below w.heap.size w wr) (fun i _ => j - (intOf i).toNat)
        case atStart => exact ⟨0, by omega, rfl, Lib.hid A0, hB⟩
        case round =>
          clear hB A0 l0 c0_0 c0_1 hbl2
          obtain ⟨q, hq, rfl, A0, hB⟩ := hrel
          replace A0 := A0.out
          obtain ⟨l0, c0_0, c0_1⟩ := At.two A0
          by_cases hlt : q < j
          · have hltz : (q : Int) < (j : Int) := by omega
            have hltn : (q : Int) < (n : Int) := by omega
            obtain ⟨d0, d1, d2, d3⟩ := (HC.out q (by omega)).keep hB hbl
            have hbl2 := Nat.lt_of_lt_of_le hbl hB.size
            obtain ⟨z, hz⟩ : ∃ z, (l q).up = z := ⟨_, rfl⟩
            rw [hz] at d0
            have HZ := Lib.hid hz
            clear hz
            by_cases hzu : z = (i : Int)
            · subst hzu
              obtain ⟨s, hs⟩ : ∃ s, (l q).skip = s := ⟨_, rfl⟩
              rw [hs] at d3
              cases s with
              | true =>
                clear hs
                go_upto_region 29 with (fail)
                refine Drawn.wp_region_from (Below.refl _ _) (by kernel_rfl) (by kernel_rfl) (by kernel_rfl) ?_
                (repeat (first | (refine Drawn.seq_skip (by rfl) ?_; (try simp only [Act.put, List.setIfInBounds_toArray, List.set_cons_zero, List.set_cons_succ])) | (refine Drawn.seq_call (o := ⟨_, .call ⟨.value _, _, _⟩, _, _, _, _⟩) (by rfl) (by intro w2 hS; go_simp; first | done | with_reducible rfl | exact ⟨rfl, rfl⟩) (by intro w2 hS; first | ((with_reducible refine (ansight_any _ HSG.out).mono ?_); rintro e w' ⟨rfl, hb⟩; exact ⟨rfl, Below.after hS hb⟩)) ?_; (try simp only [Act.put, List.setIfInBounds_toArray, List.set_cons_zero, List.set_cons_succ])) | (refine Drawn.seq_value (by rfl) (by intro w2 hS; obtain ⟨hc, hf⟩ := bcell hS; go_simp; first | done | with_reducible rfl | exact ⟨rfl, rfl⟩) ?_; (try simp only [Act.put, List.setIfInBounds_toArray, List.set_cons_zero, List.set_cons_succ]))))
                refine Drawn.seq_end ?_; intro w2 hS
                (clear l0 c0_0 c0_1); (replace hB := Below.after2 (by first | exact hB | exact Below.alloc' hB _ | exact Below.alloc' (Below.alloc' hB _) _) (Nat.le_refl _) hS); replace A0 := At.keep (by first | exact A0 | exact At.alloc A0 _ | exact At.alloc (At.alloc A0 _) _) hS; clear hS; obtain ⟨l0, c0_0, c0_1⟩ := At.two A0
                go_wp2
                go_roundw
                case rel => exact ⟨q + 1, by omega, by go_num, Lib.hid A0, hB⟩
                case measure => simp [intOf]; omega
              | false =>
                have hsg : An.sight (l q).lo (l q).hi x y = 0 := by
                  rcases An.sight_range (l q).lo (l q).hi x y with h | h | h
                  · exact h
                  · exact absurd ⟨hs, by unfold An.sg; omega⟩ (HK.out q hlt HZ.out)
                  · exact absurd ⟨hs, by unfold An.sg; omega⟩ (HK.out q hlt HZ.out)
                generalize (l q).lo = x1 at d1 hsg
                generalize (l q).hi = x2 at d2 hsg
                have HSG := Lib.hid hsg
                clear hsg hs
                go_upto_region 29 with (fail)
                refine Drawn.wp_region_from (Below.refl _ _) (by kernel_rfl) (by kernel_rfl) (by kernel_rfl) ?_
                (repeat (first | (refine Drawn.seq_skip (by rfl) ?_; (try simp only [Act.put, List.setIfInBounds_toArray, List.set_cons_zero, List.set_cons_succ])) | (refine Drawn.seq_call (o := ⟨_, .call ⟨.value _, _, _⟩, _, _, _, _⟩) (by rfl) (by intro w2 hS; go_simp; first | done | with_reducible rfl | exact ⟨rfl, rfl⟩) (by intro w2 hS; first | ((with_reducible refine (ansight_any _ HSG.out).mono ?_); rintro e w' ⟨rfl, hb⟩; exact ⟨rfl, Below.after hS hb⟩)) ?_; (try simp only [Act.put, List.setIfInBounds_toArray, List.set_cons_zero, List.set_cons_succ])) | (refine Drawn.seq_value (by rfl) (by intro w2 hS; obtain ⟨hc, hf⟩ := bcell hS; go_simp; first | done | with_reducible rfl | exact ⟨rfl, rfl⟩) ?_; (try simp only [Act.put, List.setIfInBounds_toArray, List.set_cons_zero, List.set_cons_succ]))))
                refine Drawn.seq_end ?_; intro w2 hS
                (clear l0 c0_0 c0_1); (replace hB := Below.after2 (by first | exact hB | exact Below.alloc' hB _ | exact Below.alloc' (Below.alloc' hB _) _) (Nat.le_refl _) hS); replace A0 := At.keep (by first | exact A0 | exact At.alloc A0 _ | exact At.alloc (At.alloc A0 _) _) hS; clear hS; obtain ⟨l0, c0_0, c0_1⟩ := At.two A0
                go_wp2
                go_roundw
                case rel => exact ⟨q + 1, by omega, by go_num, Lib.hid A0, hB⟩
                case measure => simp [intOf]; omega
            · have hz8 : (z == (i : Int)) = false := by simpa using hzu
              have hz9 : decide (z = (i : Int)) = false := by simpa using hzu
              generalize (l q).skip = x3 at d3
              generalize (l q).lo = x1 at d1
              generalize (l q).hi = x2 at d2
              go_upto_region 29 with (fail)
              refine Drawn.wp_region_from (Below.refl _ _) (by kernel_rfl) (by kernel_rfl) (by kernel_rfl) ?_
              (repeat (first | (refine Drawn.seq_skip (by rfl) ?_; (try simp only [Act.put, List.setIfInBounds_toArray, List.set_cons_zero, List.set_cons_succ])) | (refine Drawn.seq_call (o := ⟨_, .call ⟨.value _, _, _⟩, _, _, _, _⟩) (by rfl) (by intro w2 hS; go_simp; first | done | with_reducible rfl | exact ⟨rfl, rfl⟩) (by intro w2 hS; first | ((with_reducible refine (ansight_any _ HSG.out).mono ?_); rintro e w' ⟨rfl, hb⟩; exact ⟨rfl, Below.after hS hb⟩)) ?_; (try simp only [Act.put, List.setIfInBounds_toArray, List.set_cons_zero, List.set_cons_succ])) | (refine Drawn.seq_value (by rfl) (by intro w2 hS; obtain ⟨hc, hf⟩ := bcell hS; go_simp; first | done | with_reducible rfl | exact ⟨rfl, rfl⟩) ?_; (try simp only [Act.put, List.setIfInBounds_toArray, List.set_cons_zero, List.set_cons_succ]))))
              refine Drawn.seq_end ?_; intro w2 hS
              (clear l0 c0_0 c0_1); (replace hB := Below.after2 (by first | exact hB | exact Below.alloc' hB _ | exact Below.alloc' (Below.alloc' hB _) _) (Nat.le_refl _) hS); replace A0 := At.keep (by first | exact A0 | exact At.alloc A0 _ | exact At.alloc (At.alloc A0 _) _) hS; clear hS; obtain ⟨l0, c0_0, c0_1⟩ := At.two A0
              go_wp2
              go_roundw
              case rel => exact ⟨q + 1, by omega, by go_num, Lib.hid A0, hB⟩
              case measure => simp [intOf]; omega
          · obtain rfl : q = j := by omega
            have hltz : ¬ (q : Int) < (q : Int) := by omega
            obtain ⟨d0, d1, d2, d3⟩ := (HC.out q (by omega)).keep hB hbl
            rw [HU.out] at d0
            clear d1 d2 d3
            go_wp2
            go_roundw
            case rel => exact ⟨(i : Int), rfl, by omega, by omega, HPC.out, Lib.hid A0, hB⟩
            case measure => simp [intOf]; omega

theorem anseen_bad (A : Option Addr) (l : Nat → An.Nd) (n c : Nat) (x y : Int) (w : World) (hN : Nodes w A l n) (hn : n ≤ 60) (hv : ¬ An.V l n) :
    Calls Try.prog 4 #[.slice A n c, .agg #[.int .i64 x, .int .i64 y]] w fun e w' => e = .returned (.bool true) ∧ Below w.heap.size w w' := by
  have e1 : decide (60 < (n : Int)) = false := by simp; omega
  have hn1 : n ≤ 1000 := by omega
  have HN := Lib.hid hN
  have HV := Lib.hid hv
  clear hN hv
  go_enter Try.func4, Try.ntmps4
  go_upto_region 1 with (fail)
  (generalize hW : World.alloc w _ = W0; have A0 : At W0 (w.heap.size) (.cells #[.int .i64 x, .int .i64 y] 24) := (by ((rw [← hW]) <;> exact At.new' _ (by first | done | rfl | simp))); have hB : Below w.heap.size w W0 := (by ((rw [← hW]) <;> exact Below.alloc' (Below.refl _ _) _)); clear hW; obtain ⟨l0, c0_0, c0_1⟩ := At.two A0)
  go_wp2_with (first | (go_at_call 9; with_reducible refine (anworks_any _).mono ?_; rintro e w' ⟨rfl, hb⟩; (clear l0 c0_0 c0_1); (replace hB := Below.after2 (by first | exact hB | exact Below.alloc' hB _ | exact Below.alloc' (Below.alloc' hB _) _) (Nat.le_refl _) hb); replace A0 := At.keep (by first | exact A0 | exact At.alloc A0 _ | exact At.alloc (At.alloc A0 _) _) hb; clear hb; obtain ⟨l0, c0_0, c0_1⟩ := At.two A0) | (go_at_call 16; with_reducible refine (anpick_any (r := -1) _ (HN.out.after hB) hn1 (.inr ⟨HV.out, rfl⟩)).mono ?_; rintro e w' ⟨rfl, hb⟩; (clear l0 c0_0 c0_1); (replace hB := Below.after2 (by first | exact hB | exact Below.alloc' hB _ | exact Below.alloc' (Below.alloc' hB _) _) (Nat.le_refl _) hb); replace A0 := At.keep (by first | exact A0 | exact At.alloc A0 _ | exact At.alloc (At.alloc A0 _) _) hb; clear hb; obtain ⟨l0, c0_0, c0_1⟩ := At.two A0) | (go_at_call 15; with_reducible refine (anvalid_any (v := false) _ (HN.out.after hB) hn1 (.inr ⟨rfl, HV.out⟩)).mono ?_; rintro e w' ⟨rfl, hb⟩; (clear l0 c0_0 c0_1); (replace hB := Below.after2 (by first | exact hB | exact Below.alloc' hB _ | exact Below.alloc' (Below.alloc' hB _) _) (Nat.le_refl _) hb); replace A0 := At.keep (by first | exact A0 | exact At.alloc A0 _ | exact At.alloc (At.alloc A0 _) _) hb; clear hb; obtain ⟨l0, c0_0, c0_1⟩ := At.two A0))
  go_ret
  exact ⟨rfl, hB⟩

theorem anseen_walk (A : Option Addr) (n c : Nat) (x y : Int) (w : World) (hI : IRow w A n c) :
    Calls Try.prog 4 #[.slice A n c, .agg #[.int .i64 x, .int .i64 y]] w fun e w' => e = .returned (.bool true) ∧ Below w.heap.size w w' := by
  obtain ⟨l, hA⟩ := hI.nodes
  by_cases h : 60 < n
  · exact anseen_out A n c x y w hI.cap.2 h
  · by_cases hv : An.V l n
    · obtain ⟨r, hr⟩ := An.picked_some hv x y
      rcases hr with ⟨_, hr⟩ | ⟨k, _, h1, h2, h3⟩
      · exact anseen_none A l n c x y w hA (by omega) hv hr
      · exact anseen_some A l n c x y k w hA (by omega) hv h1 h2 h3
    · exact anseen_bad A l n c x y w hA (by omega) hv

end Go.Proofs.Ytnoofdojbgkmkaa.Fix
