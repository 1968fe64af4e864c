/- The statement RecordOne, walked. -/
import Derived.Test.YtpfkencgjodehaaRecPuts
namespace Go.Proofs.Ytpfkencgjodehaa.Fix
open Go.ChangeShapes Go.WideShapes Go.ChangeAt Go.RowKit
set_option linter.unusedVariables false

def otherS (s : Re.St) (gap z tk tn : Int) : Re.St := ⟨fun i => if i = 46 then gap else if i = 48 then z else if i = 15 then tk else if i = 16 then tn else s.c i, s.b⟩
theorem other_cells (s : Re.St) (gap z tk tn : Int) : (((((cells s).setIfInBounds 46 (.int .i64 gap)).setIfInBounds 48 (.int .i64 z)).setIfInBounds 15 (.int .i64 tk)).setIfInBounds 16 (.int .i64 tn)) = cells (otherS s gap z tk tn) := by
  rw [cells_set (t := ⟨fun i => if i = 46 then gap else s.c i, s.b⟩) (i := 46) (by rw [cell_int _ rfl]; simp) (fun j _ hj => by unfold cell; simp [hj])]
  rw [cells_set (t := ⟨fun i => if i = 46 then gap else if i = 48 then z else s.c i, s.b⟩) (i := 48) (by rw [cell_int _ rfl]; simp) (fun j _ hj => by unfold cell; simp [hj])]
  rw [cells_set (t := ⟨fun i => if i = 46 then gap else if i = 48 then z else if i = 15 then tk else s.c i, s.b⟩) (i := 15) (by rw [cell_int _ rfl]; simp) (fun j _ hj => by unfold cell; simp [hj])]
  rw [cells_set (t := otherS s gap z tk tn) (i := 16) (by rw [cell_int _ rfl]; simp [otherS]) (fun j _ hj => by unfold cell otherS; simp [hj])]
theorem other_get (s : Re.St) (gap z tk tn : Int) {i : Nat} (hi : i < 55) (h : i ≠ 15 ∧ i ≠ 16 ∧ i ≠ 46 ∧ i ≠ 48) : (Re.putL (otherS s gap z tk tn)).getD i 0 = (Re.putL s).getD i 0 := Re.put_other hi (by
  obtain ⟨h1, h2, h3, h4⟩ := h
  split
  · rfl
  · simp [otherS, h1, h2, h3, h4])
theorem other_mine (s : Re.St) (gap z tk tn : Int) : (Re.putL (otherS s gap z tk tn)).getD 46 0 = gap ∧ (Re.putL (otherS s gap z tk tn)).getD 48 0 = z ∧ (Re.putL (otherS s gap z tk tn)).getD 15 0 = tk ∧ (Re.putL (otherS s gap z tk tn)).getD 16 0 = tn := by
  refine ⟨?_, ?_, ?_, ?_⟩ <;> rw [Re.putL_get _ (by decide), Re.num_c rfl] <;> rfl

set_option maxRecDepth 100000 in
set_option maxHeartbeats 4000000 in
theorem rone_walk (s : Re.St) (gap z tk tn : Int) (w : World) : Calls Try.prog 6 #[.agg (cells s), .int .i64 gap, .int .i64 z, .agg #[.int .i64 tk, .int .i64 tn]] w fun e w' => e = .returned (.bool true) ∧ Below w.heap.size w w' := by
  go_enter Try.func6, Try.ntmps6
  go_upto_region 1 with (fail)
  have A1 : At ((w.alloc (.cells (cells s) 36)).alloc (.cells #[.int .i64 tk, .int .i64 tn] 27)) w.heap.size (.cells (cells s) 36) := (At.new _ _).alloc _
  have A2 : At ((w.alloc (.cells (cells s) 36)).alloc (.cells #[.int .i64 tk, .int .i64 tn] 27)) (w.heap.size + 1) (.cells #[.int .i64 tk, .int .i64 tn] 27) := At.new' _ (by simp)
  have hB : Below w.heap.size w ((w.alloc (.cells (cells s) 36)).alloc (.cells #[.int .i64 tk, .int .i64 tn] 27)) := Below.alloc' (Below.alloc' (Below.refl _ _) _) _
  generalize (w.alloc (.cells (cells s) 36)).alloc (.cells #[.int .i64 tk, .int .i64 tn] 27) = wc at *
  generalize hbl : w.heap.size + 1 = bl at *
  generalize hbox : w.heap.size = bx at *
  have HBOX := Lib.hid hbox
  clear hbox hbl
  go_upto_region 5 with (first | (refine wpList_alloc_style (by rfl) rfl ?_) | (refine wpList_build_zero (by rfl) rfl ?_) | (refine wpList_load_style (by rfl) _ rfl rfl (by first | assumption | (with_reducible exact At.new _ _)) ?_) | (refine wpList_store_same (by rfl) _ _ rfl rfl rfl (by first | assumption | (with_reducible exact At.new _ _)) ?_) | (refine wpList_store_style (by rfl) _ _ rfl rfl rfl (by first | assumption | (with_reducible exact At.new _ _)) ?_) | (go_at_call 8; (with_reducible refine (recworks_any _).mono ?_); rintro e w2 ⟨rfl, hb⟩; replace hB := hB.trans (hb.mono (Nat.le_of_lt A1.lt)); replace A1 := A1.keep hb; replace A2 := A2.keep hb; clear hb) | (go_at_call 12; (with_reducible refine (recput_any _ _).mono ?_); rintro e w3 ⟨⟨p1, rfl, hI1⟩, hb⟩; replace hB := hB.trans (hb.mono (Nat.le_of_lt A1.lt)); replace A1 := A1.keep hb; replace A2 := A2.keep hb; clear hb))
  go_upto_region 6 with (first | (refine wpList_alloc_style (by rfl) rfl ?_) | (refine wpList_build_zero (by rfl) rfl ?_) | (refine wpList_load_style (by rfl) _ rfl rfl (by first | assumption | (with_reducible exact At.new _ _)) ?_) | (refine wpList_store_same (by rfl) _ _ rfl rfl rfl (by first | assumption | (with_reducible exact At.new _ _)) ?_) | (refine wpList_store_style (by rfl) _ _ rfl rfl rfl (by first | assumption | (with_reducible exact At.new _ _)) ?_))
  have hb5 : Below w3.heap.size w3 ((w3.alloc (.cells (cells Re.zero) 36)).setRow w3.heap.size (cells s)) := Below.setRow' (Below.alloc' (Below.refl _ _) _) (Nat.le_refl _) _
  have A3 := (At.new w3 (.cells (cells Re.zero) 36)).setRow (cells s)
  generalize (w3.alloc (.cells (cells Re.zero) 36)).setRow w3.heap.size (cells s) = w5 at *
  generalize hg : w3.heap.size = g at *
  have HG3 := Lib.hid hg
  have hgb := A1.lt
  have hgl := A2.lt
  rw [hg] at hgb hgl
  have f46 := A3.cell 46
  rw [cells_int _ (by decide) rfl] at f46
  have z46 := A3.thaw 46
  clear hg
  go_upto_region 7 with (fail)
  have A4 := A3.set 46 (.int .i64 gap)
  have hb6 := Below.setCell (p := ⟨g, 46, none⟩) hb5 (Nat.le_refl _) (.int .i64 gap)
  generalize w5.setCell ⟨g, 46, none⟩ (.int .i64 gap) = w6 at *
  clear f46 z46
  have f48 := A4.cell 48
  rw [Array.getElem?_setIfInBounds_ne (by decide), cells_int _ (by decide) rfl] at f48
  have z48 := A4.thaw 48
  go_upto_region 8 with (fail)
  have A5 := A4.set 48 (.int .i64 z)
  have hb7 := Below.setCell (p := ⟨g, 48, none⟩) hb6 (Nat.le_refl _) (.int .i64 z)
  generalize w6.setCell ⟨g, 48, none⟩ (.int .i64 z) = w7 at *
  clear f48 z48
  have f15 := A5.cell 15
  have f16 := A5.cell 16
  rw [Array.getElem?_setIfInBounds_ne (by decide), Array.getElem?_setIfInBounds_ne (by decide), cells_int _ (by decide) rfl] at f15 f16
  have z15 := A5.thaw 15
  have z16 := A5.thaw 16
  have A2' := A2.keep (show Below w3.heap.size w3 w7 by rw [HG3.out]; exact hb7)
  have k0 : w7.cell? ⟨bl, 0, none⟩ = some (.int .i64 tk) := A2'.cell 0
  have k1 : w7.cell? ⟨bl, 1, none⟩ = some (.int .i64 tn) := A2'.cell 1
  have lbl := A2'.lt
  go_upto_region 9 with (fail)
  have A6 := (A5.set 15 (.int .i64 tk)).set 16 (.int .i64 tn)
  rw [other_cells] at A6
  have hb8 := Below.setCell (p := ⟨g, 16, none⟩) (Below.setCell (p := ⟨g, 15, none⟩) hb7 (Nat.le_refl _) (.int .i64 tk)) (Nat.le_refl _) (.int .i64 tn)
  generalize (w7.setCell ⟨g, 15, none⟩ (.int .i64 tk)).setCell ⟨g, 16, none⟩ (.int .i64 tn) = w8 at *
  replace hI1 := hI1.after (show Below w3.heap.size w3 w8 by rw [HG3.out]; exact hb8)
  replace A1 := A1.keep (show Below w3.heap.size w3 w8 by rw [HG3.out]; exact hb8)
  replace A2 := A2.keep (show Below w3.heap.size w3 w8 by rw [HG3.out]; exact hb8)
  replace hB := hB.trans (hb8.mono (Nat.le_of_lt hgb))
  clear f15 f16 z15 z16 A2' k0 k1 lbl hb5 hb6 hb7 hb8 A3 A4 A5 hgb hgl HG3
  go_upto_region 10 with (first | (refine wpList_alloc_style (by rfl) rfl ?_) | (refine wpList_build_zero (by rfl) rfl ?_) | (refine wpList_load_style (by rfl) _ rfl rfl (by first | assumption | (with_reducible exact At.new _ _)) ?_) | (refine wpList_store_same (by rfl) _ _ rfl rfl rfl (by first | assumption | (with_reducible exact At.new _ _)) ?_) | (refine wpList_store_style (by rfl) _ _ rfl rfl rfl (by first | assumption | (with_reducible exact At.new _ _)) ?_) | (go_at_call 12; (with_reducible refine (recput_any _ _).mono ?_); rintro e w9 ⟨⟨p2, rfl, hI2⟩, hb⟩; replace hB := hB.trans (hb.mono (Nat.le_of_lt A1.lt)); replace A1 := A1.keep hb; replace A2 := A2.keep hb; replace hI1 := hI1.after hb; clear hb))
  have HB9 := Lib.hid hB
  have lb9 := Lib.hid A1.lt
  have CA : Hid (∀ W, Below w9.heap.size w9 W → ∀ k, k < 55 → W.cell? ⟨p1, k, none⟩ = some (.int .i64 ((Re.putL s).getD k 0))) := Lib.hid fun W hW k hk => by
    obtain ⟨b', off', e', hc⟩ := (hI1.after hW).2 (by rw [Re.putL_length]; decide)
    injection e' with e'
    injection e' with e1 e2
    subst e1 e2
    have := hc k (by rw [Re.putL_length]; exact hk)
    rwa [Nat.zero_add] at this
  have CB : Hid (∀ W, Below w9.heap.size w9 W → ∀ k, k < 55 → W.cell? ⟨p2, k, none⟩ = some (.int .i64 ((Re.putL (otherS s gap z tk tn)).getD k 0))) := Lib.hid fun W hW k hk => by
    obtain ⟨b', off', e', hc⟩ := (hI2.after hW).2 (by rw [Re.putL_length]; decide)
    injection e' with e'
    injection e' with e1 e2
    subst e1 e2
    have := hc k (by rw [Re.putL_length]; exact hk)
    rwa [Nat.zero_add] at this
  have CT : Hid (∀ W, Below w9.heap.size w9 W → (W.cell? ⟨bl, 0, none⟩ = some (.int .i64 tk) ∧ W.cell? ⟨bl, 1, none⟩ = some (.int .i64 tn))) := Lib.hid fun W hW => ⟨(A2.keep hW).cell 0, (A2.keep hW).cell 1⟩
  have HS := Lib.hid (fun (i : Nat) (hi : i < 55) (h : i ≠ 15 ∧ i ≠ 16 ∧ i ≠ 46 ∧ i ≠ 48) => other_get s gap z tk tn hi h)
  have HM := Lib.hid (other_mine s gap z tk tn)
  clear A1 A2 hI1 hI2 A6 hB
  go_wp2
  go_loopw [13] (fun i wr => ∃ k : Nat, k ≤ 55 ∧ i = .int .i64 k ∧ Below w9.heap.size w9 wr) (fun i _ => 55 - (intOf i).toNat)
  case atStart => exact ⟨0, by omega, rfl, Below.refl _ _⟩
  case round =>
    obtain ⟨k, hk, rfl, hB⟩ := hrel
    by_cases hlt : k < 55
    · have hltz : (k : Int) < 55 := by omega
      by_cases hm : k = 15 ∨ k = 16 ∨ k = 46 ∨ k = 48
      · rcases hm with rfl | rfl | rfl | rfl
        · go_upto_region 16 with (fail)
          refine Drawn.wp_region_from (Below.refl _ _) (by kernel_rfl) (by kernel_rfl) (by kernel_rfl) ?_
          (repeat (first | (refine Drawn.seq_skip (by rfl) ?_; (try simp only [Act.put, List.setIfInBounds_toArray, List.set_cons_zero, List.set_cons_succ])) | (refine Drawn.seq_call (o := ⟨_, .call ⟨.value _, _, _⟩, _, _, _, _⟩) (by rfl) (by intro w2 hS; go_simp; first | done | with_reducible rfl | exact ⟨rfl, rfl⟩) (by intro w2 hS; first | ((with_reducible refine (cut_any _ _).mono ?_); rintro e w' ⟨rfl, rfl⟩; exact ⟨rfl, hS⟩)) ?_; (try simp only [Act.put, List.setIfInBounds_toArray, List.set_cons_zero, List.set_cons_succ])) | (refine Drawn.seq_value (by rfl) (by intro w2 hS; obtain ⟨hc, hf⟩ := bcell hS; go_simp; first | done | with_reducible rfl | exact ⟨rfl, rfl⟩) ?_; (try simp only [Act.put, List.setIfInBounds_toArray, List.set_cons_zero, List.set_cons_succ]))))
          refine Drawn.seq_end ?_; intro w2 hS
          go_wp2
          go_roundw
          case rel => exact ⟨16, by omega, by go_num, Below.after2 hB (Nat.le_refl _) hS⟩
          case measure => simp [intOf]
        · go_upto_region 16 with (fail)
          refine Drawn.wp_region_from (Below.refl _ _) (by kernel_rfl) (by kernel_rfl) (by kernel_rfl) ?_
          (repeat (first | (refine Drawn.seq_skip (by rfl) ?_; (try simp only [Act.put, List.setIfInBounds_toArray, List.set_cons_zero, List.set_cons_succ])) | (refine Drawn.seq_call (o := ⟨_, .call ⟨.value _, _, _⟩, _, _, _, _⟩) (by rfl) (by intro w2 hS; go_simp; first | done | with_reducible rfl | exact ⟨rfl, rfl⟩) (by intro w2 hS; first | ((with_reducible refine (cut_any _ _).mono ?_); rintro e w' ⟨rfl, rfl⟩; exact ⟨rfl, hS⟩)) ?_; (try simp only [Act.put, List.setIfInBounds_toArray, List.set_cons_zero, List.set_cons_succ])) | (refine Drawn.seq_value (by rfl) (by intro w2 hS; obtain ⟨hc, hf⟩ := bcell hS; go_simp; first | done | with_reducible rfl | exact ⟨rfl, rfl⟩) ?_; (try simp only [Act.put, List.setIfInBounds_toArray, List.set_cons_zero, List.set_cons_succ]))))
          refine Drawn.seq_end ?_; intro w2 hS
          go_wp2
          go_roundw
          case rel => exact ⟨17, by omega, by go_num, Below.after2 hB (Nat.le_refl _) hS⟩
          case measure => simp [intOf]
        · go_upto_region 16 with (fail)
          refine Drawn.wp_region_from (Below.refl _ _) (by kernel_rfl) (by kernel_rfl) (by kernel_rfl) ?_
          (repeat (first | (refine Drawn.seq_skip (by rfl) ?_; (try simp only [Act.put, List.setIfInBounds_toArray, List.set_cons_zero, List.set_cons_succ])) | (refine Drawn.seq_call (o := ⟨_, .call ⟨.value _, _, _⟩, _, _, _, _⟩) (by rfl) (by intro w2 hS; go_simp; first | done | with_reducible rfl | exact ⟨rfl, rfl⟩) (by intro w2 hS; first | ((with_reducible refine (cut_any _ _).mono ?_); rintro e w' ⟨rfl, rfl⟩; exact ⟨rfl, hS⟩)) ?_; (try simp only [Act.put, List.setIfInBounds_toArray, List.set_cons_zero, List.set_cons_succ])) | (refine Drawn.seq_value (by rfl) (by intro w2 hS; obtain ⟨hc, hf⟩ := bcell hS; go_simp; first | done | with_reducible rfl | exact ⟨rfl, rfl⟩) ?_; (try simp only [Act.put, List.setIfInBounds_toArray, List.set_cons_zero, List.set_cons_succ]))))
          refine Drawn.seq_end ?_; intro w2 hS
          go_wp2
          go_roundw
          case rel => exact ⟨47, by omega, by go_num, Below.after2 hB (Nat.le_refl _) hS⟩
          case measure => simp [intOf]
        · go_upto_region 16 with (fail)
          refine Drawn.wp_region_from (Below.refl _ _) (by kernel_rfl) (by kernel_rfl) (by kernel_rfl) ?_
          (repeat (first | (refine Drawn.seq_skip (by rfl) ?_; (try simp only [Act.put, List.setIfInBounds_toArray, List.set_cons_zero, List.set_cons_succ])) | (refine Drawn.seq_call (o := ⟨_, .call ⟨.value _, _, _⟩, _, _, _, _⟩) (by rfl) (by intro w2 hS; go_simp; first | done | with_reducible rfl | exact ⟨rfl, rfl⟩) (by intro w2 hS; first | ((with_reducible refine (cut_any _ _).mono ?_); rintro e w' ⟨rfl, rfl⟩; exact ⟨rfl, hS⟩)) ?_; (try simp only [Act.put, List.setIfInBounds_toArray, List.set_cons_zero, List.set_cons_succ])) | (refine Drawn.seq_value (by rfl) (by intro w2 hS; obtain ⟨hc, hf⟩ := bcell hS; go_simp; first | done | with_reducible rfl | exact ⟨rfl, rfl⟩) ?_; (try simp only [Act.put, List.setIfInBounds_toArray, List.set_cons_zero, List.set_cons_succ]))))
          refine Drawn.seq_end ?_; intro w2 hS
          go_wp2
          go_roundw
          case rel => exact ⟨49, by omega, by go_num, Below.after2 hB (Nat.le_refl _) hS⟩
          case measure => simp [intOf]
      · have q1 : ((k : Int) == 15) = false := by simp; omega
        have q2 : ((k : Int) == 16) = false := by simp; omega
        have q3 : ((k : Int) == 46) = false := by simp; omega
        have q4 : ((k : Int) == 48) = false := by simp; omega
        have r1 : ¬ k = 15 := by omega
        have r2 : ¬ k = 16 := by omega
        have r3 : ¬ k = 46 := by omega
        have r4 : ¬ k = 48 := by omega
        have c1 := CA.out _ hB k hlt
        have c2 := CB.out _ hB k hlt
        rw [HS.out k hlt ⟨r1, r2, r3, r4⟩] at c2
        have l1 := World.block_lt_of_cell? _ _ c1
        have l2 := World.block_lt_of_cell? _ _ c2
        generalize (Re.putL s).getD k 0 = x at *
        go_upto_region 16 with (fail)
        refine Drawn.wp_region_from (Below.refl _ _) (by kernel_rfl) (by kernel_rfl) (by kernel_rfl) ?_
        (repeat (first | (refine Drawn.seq_skip (by rfl) ?_; (try simp only [Act.put, List.setIfInBounds_toArray, List.set_cons_zero, List.set_cons_succ])) | (refine Drawn.seq_call (o := ⟨_, .call ⟨.value _, _, _⟩, _, _, _, _⟩) (by rfl) (by intro w2 hS; go_simp; first | done | with_reducible rfl | exact ⟨rfl, rfl⟩) (by intro w2 hS; first | ((with_reducible refine (cut_any _ _).mono ?_); rintro e w' ⟨rfl, rfl⟩; exact ⟨rfl, hS⟩)) ?_; (try simp only [Act.put, List.setIfInBounds_toArray, List.set_cons_zero, List.set_cons_succ])) | (refine Drawn.seq_value (by rfl) (by intro w2 hS; obtain ⟨hc, hf⟩ := bcell hS; go_simp; first | done | with_reducible rfl | exact ⟨rfl, rfl⟩) ?_; (try simp only [Act.put, List.setIfInBounds_toArray, List.set_cons_zero, List.set_cons_succ]))))
        refine Drawn.seq_end ?_; intro w2 hS
        go_wp2
        go_roundw
        case rel => exact ⟨k + 1, by omega, by go_num, Below.after2 hB (Nat.le_refl _) hS⟩
        case measure => simp [intOf]; omega
    · obtain rfl : k = 55 := by omega
      have k46 := CB.out _ hB 46 (by decide)
      have k48 := CB.out _ hB 48 (by decide)
      have k15 := CB.out _ hB 15 (by decide)
      have k16 := CB.out _ hB 16 (by decide)
      rw [HM.out.1] at k46
      rw [HM.out.2.1] at k48
      rw [HM.out.2.2.1] at k15
      rw [HM.out.2.2.2] at k16
      have l2 := World.block_lt_of_cell? _ _ k46
      obtain ⟨t0, t1⟩ := CT.out _ hB
      have l3 := World.block_lt_of_cell? _ _ t0
      clear CA CB CT HS HM
      go_upto_region 18 with (fail)
      refine Drawn.wp_region_from (Below.refl _ _) (by kernel_rfl) (by kernel_rfl) (by kernel_rfl) ?_
      (repeat (first | (refine Drawn.seq_skip (by rfl) ?_; (try simp only [Act.put, List.setIfInBounds_toArray, List.set_cons_zero, List.set_cons_succ])) | (refine Drawn.seq_call (o := ⟨_, .call ⟨.value _, _, _⟩, _, _, _, _⟩) (by rfl) (by intro w2 hS; go_simp; first | done | with_reducible rfl | exact ⟨rfl, rfl⟩) (by intro w2 hS; first | ((with_reducible refine (cut_any _ _).mono ?_); rintro e w' ⟨rfl, rfl⟩; exact ⟨rfl, hS⟩)) ?_; (try simp only [Act.put, List.setIfInBounds_toArray, List.set_cons_zero, List.set_cons_succ])) | (refine Drawn.seq_value (by rfl) (by intro w2 hS; obtain ⟨hc, hf⟩ := bcell hS; go_simp; first | done | with_reducible rfl | exact ⟨rfl, rfl⟩) ?_; (try simp only [Act.put, List.setIfInBounds_toArray, List.set_cons_zero, List.set_cons_succ]))))
      refine Drawn.seq_end ?_; intro w2 hS
      go_wp2
      go_ret
      exact ⟨rfl, by rw [HBOX.out]; exact HB9.out.trans ((Below.after2 hB (Nat.le_refl _) hS).mono (Nat.le_of_lt lb9.out))⟩

end Go.Proofs.Ytpfkencgjodehaa.Fix
