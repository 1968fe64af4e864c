/- The contract of the document's own Sizes of the layer flex, where the items grow. Written by wip/tools/genflexrefs.py. -/
import Derived.Test.YtefofdjkinbfgaaFlexRefS0
namespace Go.Proofs.Ytefofdjkinbfgaa.Fix
open Go.ChangeShapes Go.WideShapes Go.ChangeAt Go.RowKit
set_option linter.unusedVariables false

set_option maxRecDepth 100000 in
set_option maxHeartbeats 16000000 in
theorem rsizes_up (A : Option Addr) (l : Nat → Fe.It) (n c : Nat) (x : Int) (w : World) (hI : Items w A l n) (hn : n ≤ 64) (hgt : Fe.gro l n (Fe.to x 67108864) = true) :
    Calls Try.prog 16 #[.slice A n c, .int .i64 x] w fun e w' => (∃ b, e = .returned (.slice (some ⟨b, 0, none⟩) n n) ∧ Ints w' (some ⟨b, 0, none⟩) (sizesOf l n x)) ∧ Below w.heap.size w w' := by
  obtain ⟨i0, hi0, hz0, hz1, hz2⟩ := info_parts intZero
  obtain ⟨j0, hj0, kz0, kz1, kz2⟩ := info_parts boolZero2
  obtain ⟨room, hroom⟩ : ∃ room, room = Fe.to x 67108864 := ⟨_, rfl⟩
  have r1 : 0 ≤ room := by rw [hroom]; exact Fe.to_ge (by omega)
  have r2 : room ≤ 67108864 := by rw [hroom]; exact Fe.to_le (by omega)
  have HRM := Lib.hid hroom
  clear hroom
  have HI := Lib.hid hI
  have HGT0 := Lib.hid hgt
  clear hI hgt
  go_enter Try.func16, Try.ntmps16
  go_upto_region 6 with (first | (go_at_call 27; refine (rto2_any _ _ _ (by omega)).mono ?_; rintro e w' ⟨rfl, rfl⟩; rw [← HRM.out]) | (at_make; refine wpList_make_row _ rfl _ _ 32 rfl 3 i0 (.int .i64 0) Try.underlying32 hi0 hz0 hz1 rfl .i64 .i64 n rfl rfl (by rw [hz2]; omega) (by omega) ?_))
  have hA0 : At (w.alloc (.cells (madeCells #[.int .i64 0] n) 3)) w.heap.size (.cells (stRow (fun i => Fe.clamp (l i) (Fe.cnt (l i)).b) n 0) 3) := by rw [← stRow_made]; exact At.new _ _
  have hB0 : Below w.heap.size w (w.alloc (.cells (madeCells #[.int .i64 0] n) 3)) := Below.alloc' (Below.refl _ _) _
  have hs0 : w.heap.size + 1 ≤ (w.alloc (.cells (madeCells #[.int .i64 0] n) 3)).heap.size := by simp
  generalize (w.alloc (.cells (madeCells #[.int .i64 0] n) 3)) = W1 at *
  go_wp2
  go_loopw [5, 7, 8] (fun v s i wr => ∃ k : Nat, k ≤ n ∧ i = .int .i64 k ∧ s = .int .i64 (Fe.sumz l k) ∧ wr.ownsRow (w.heap.size + 1) 30 5 v k (flatI (fun i => Fe.cnt (l i)) k) ∧ At wr w.heap.size (.cells (stRow (fun i => Fe.clamp (l i) (Fe.cnt (l i)).b) n k) 3) ∧ Below w.heap.size w wr) (fun _ _ i _ => n - (intOf i).toNat)
  case atStart => exact ⟨0, by omega, rfl, rfl, World.ownsRow_nil _ _ _ _, hA0, hB0⟩
  case round =>
    obtain ⟨k, hk, rfl, rfl, hown, hA, hB⟩ := hrel
    have hlA := hA.lt
    by_cases hlt : k < n
    · as_aux_lemma =>
      have hltz : (k : Int) < (n : Int) := by omega
      obtain ⟨b, off, rfl, hbl, hc⟩ := (HI.out.after hB) (by omega)
      obtain ⟨c0, c1, c2, c3, c4⟩ := hc k hlt
      clear hc
      obtain ⟨s1, s2⟩ := sumz_bd l k
      obtain ⟨k1, k2⟩ := Fe.clamp_bd (l k) (Fe.cnt (l k)).b
      have HZ : Hid (Fe.sumz l (k + 1) = Fe.sumz l k + Fe.clamp (l k) (Fe.cnt (l k)).b) := Lib.hid rfl
      have HCC := Lib.hid (Fe.clamp_cnt (l k) (Fe.cnt (l k)).b)
      have HW : Hid ((fun i => Fe.clamp (l i) (Fe.cnt (l i)).b) k = Fe.clamp (l k) (Fe.cnt (l k)).b) := Lib.hid rfl
      have HY0 : Hid (Fe.cnt (l k) = Fe.cnt (l k)) := Lib.hid rfl
      generalize hcx : Fe.cnt (l k) = y at *
      have HY := Lib.hid hcx
      clear hcx HY0
      generalize hl9 : l k = q at *
      have HX := Lib.hid hl9
      clear hl9
      generalize hz : Fe.clamp q y.b = z at *
      clear hz
      obtain ⟨x0, x1, x2, x3, x4⟩ := q
      obtain ⟨y0, y1, y2, y3, y4⟩ := y
      dsimp only at c0 c1 c2 c3 c4 HCC
      generalize Fe.sumz l k = u at *
      go_upto_region 11 with (first | (go_at_call 21; (with_reducible refine (sound5 x0 x1 x2 x3 x4 _).mono ?_); rintro e w2 ⟨rfl, hb2⟩; rw [HY.out]; simp only [enc]; obtain ⟨v3, w3, hrun, hown3, hB3, hb3⟩ := append_ritem (l := fun i => Fe.cnt (l i)) (ownsRow_below hown hb2) (Below.refl (w.heap.size + 1) w2) (by have := hb2.size; omega) (by omega); simp only [HX.out, HY.out] at hrun; obtain ⟨g, gc, rfl, hIX⟩ := ritems_succ hown3; replace hA := At.trans_ hA hb2 hB3 (by omega); replace hB := Below.after2 hB (Nat.le_refl _) hb2; replace hB := Below.trans hB (hB3.mono (by omega)); clear hb2 hB3) | (refine wpList_built (by rfl) (.tmp 43) rfl rfl ?_) | (at_builtin; refine wpList_append_run (by rfl) (.tmp 38) (.tmp 44) 24 rfl rfl rfl hrun ?_))
      clear c0 c1 c2 c3 c4 hlA
      obtain ⟨g', o', e', hgl, hc'⟩ := hIX (by omega)
      injection e' with e'
      injection e' with e1 e2
      subst e1; subst e2
      obtain ⟨d0, d1, d2, d3, d4⟩ := hc' k (by omega)
      clear hc'
      simp only [HX.out, HY.out, Nat.zero_add] at d0 d1 d2 d3 d4
      have hlA := hA.lt
      have hk1 : (k : Int) < (k : Int) + 1 := by omega
      have hk2 : k < k + 1 := by omega
      have hz0' := hA.cell k
      rw [stRow_get _ hlt] at hz0'
      refine Drawn.wp_region_tail 13 1 (Below.refl _ _) (by kernel_rfl) (by kernel_rfl) rfl (by kernel_rfl) (by kernel_rfl) ?_
      (repeat (first | (refine Drawn.seq_skip (by rfl) ?_; (try simp only [Act.put, List.setIfInBounds_toArray, List.set_cons_zero, List.set_cons_succ])) | (refine Drawn.seq_call (o := ⟨_, .call ⟨.value _, _, _⟩, _, _, _, _⟩) (by rfl) (by intro w2 hS; go_simp; first | done | with_reducible rfl | exact ⟨rfl, rfl⟩) (by intro w2 hS; first | ((with_reducible refine (rxclamp5 _ _ _ _ _ _ _).mono ?_); rintro e w' ⟨rfl, hb⟩; exact ⟨rfl, Below.after hS hb⟩)) ?_; (try simp only [Act.put, List.setIfInBounds_toArray, List.set_cons_zero, List.set_cons_succ])) | (refine Drawn.seq_value (by rfl) (by intro w2 hS; obtain ⟨hc, hf⟩ := bcell hS; go_simp; first | done | with_reducible rfl | exact ⟨rfl, rfl⟩) ?_; (try simp only [Act.put, List.setIfInBounds_toArray, List.set_cons_zero, List.set_cons_succ]))))
      refine Drawn.seq_tail ?_; intro w2 hS
      rw [HCC.out]
      have hA5 := hA.keep hS
      have hc5 := hA5.cell k
      rw [stRow_get _ hlt] at hc5
      have hz5 := hA5.thaw k
      have hl5 := hA5.lt
      refine Drawn.text_cons (by rfl) ?_; intro K hK; go_simp; refine hK _ _ (Drawn.text_nil ?_); clear hK K
      have hA6 := hA5.set k (.int .i64 z)
      rw [← HW.out, stRow_set _ hlt] at hA6
      simp only [HW.out] at hA6
      have hO6 := ownsRow_off (O := w.heap.size) (k := k) (u := .int .i64 z) (ownsRow_below hown3 hS) (by omega)
      have hB6 := Below.setCell (p := ⟨w.heap.size, k, none⟩) (Below.after2 hB (Nat.le_refl _) hS) (Nat.le_refl _) (.int .i64 z)
      clear hA hB hown hown3 hIX hA5 hc5 hz5 hl5 hS hrun hb3 d0 d1 d2 d3 d4 hz0' hlA hgl
      generalize World.setCell _ _ _ = W6 at *
      have hc6 := hA6.cell k
      rw [stRow_get _ hlt, if_pos (by omega)] at hc6
      rw [show Fe.clamp (l k) (Fe.cnt (l k)).b = z from HW.out] at hc6
      have hl6 := hA6.lt
      go_wp2
      go_roundw
      case rel => exact ⟨k + 1, by omega, by go_num, by rw [HZ.out], hO6, hA6, hB6⟩
      case measure => simp [intOf]; omega
    · have hltz : ¬ (k : Int) < (n : Int) := by omega
      obtain rfl : k = n := by omega
      rename World => wo
      obtain ⟨X, xc, rfl, hIX⟩ := ritems_of_own hown
      rw [stRow_iRow] at hA
      obtain ⟨gr, hgr⟩ : ∃ gr, gr = Fe.gro l k room := ⟨_, rfl⟩
      have HGT : Hid (gr = true) := Lib.hid (by rw [hgr, HRM.out]; exact HGT0.out)
      have HG : Hid (decide (Fe.sumz l k < room) = gr) := Lib.hid hgr.symm
      have HGR := Lib.hid hgr
      have HXO : Hid (∀ b off, X = some ⟨b, off, none⟩ → w.heap.size < b ∧ b < wo.heap.size) := Lib.hid (fun b off e => by
        subst e
        have := hown.lt b rfl
        exact ⟨by omega, this.2⟩)
      clear hown hgr
      go_upto_region 14 with (fail)
      rw [HG.out]
      go_upto_region 15 with (at_make; refine wpList_make_row _ rfl _ _ 50 rfl 4 j0 (.bool false) Try.underlying50 hj0 kz0 kz1 rfl .i64 .i64 k rfl rfl (by rw [kz2]; omega) (by omega) ?_)
      obtain ⟨W4, hF, hb4, hs4, hW4⟩ : ∃ W4, At W4 wo.heap.size (.cells (bRow (fun i => if i < 0 then (Fe.begun gr l i).f else false) k) 4) ∧ Below wo.heap.size wo W4 ∧ W4.heap.size = wo.heap.size + 1 ∧ wo.alloc (.cells (madeCells #[.bool false] k) 4) = W4 :=
        ⟨_, by rw [bRow_made, bRow_same (G := fun i => if i < 0 then (Fe.begun gr l i).f else false) (fun i _ => by simp)]; exact At.new _ _, Below.alloc' (Below.refl _ _) _, by simp, rfl⟩
      rw [hW4]
      clear hW4
      have hlF : w.heap.size < wo.heap.size := hA.lt
      have HA4 := Lib.hid hA
      have HX4 := Lib.hid hIX
      have HB4 := Lib.hid hB
      clear hA hIX hB
      generalize hFb : wo.heap.size = Fb at *
      go_wp2
      go_loopw [11] (fun i w5 => ∃ j : Nat, j ≤ k ∧ i = .int .i64 j ∧ At w5 Fb (.cells (bRow (fun i => if i < j then (Fe.begun gr l i).f else false) k) 4) ∧ Below Fb wo w5) (fun i _ => k - (intOf i).toNat)
      case atStart => exact ⟨0, by omega, rfl, hF, hb4⟩
      case round =>
        obtain ⟨j, hj, rfl, hF5, hB5⟩ := hrel
        have hB5' : Below wo.heap.size wo wr := by rw [hFb]; exact hB5
        have hlF5 := hF5.lt
        have hA5 := HA4.out.keep hB5'
        have hlA5 := hA5.lt
        by_cases hjt : j < k
        · as_aux_lemma =>
          have hltz2 : (j : Int) < (k : Int) := by omega
          obtain ⟨gx, ox, rfl, hgl, hcx⟩ := (HX4.out.after hB5') (by omega)
          obtain ⟨d0, d1, d2, d3, d4⟩ := hcx j hjt
          clear hcx
          have hz := hA5.cell j
          rw [iRow_get _ hjt] at hz
          dsimp only at hz d0 d1 d2 d3 d4
          have hfin : ∀ (W7 : World) (b : Bool), (Fe.begun gr l j).f = b → Below wr.heap.size wr W7 → At (W7.setCell ⟨Fb, j, none⟩ (.bool b)) Fb (.cells (bRow (fun i => if i < j + 1 then (Fe.begun gr l i).f else false) k) 4) ∧ Below Fb wo (W7.setCell ⟨Fb, j, none⟩ (.bool b)) := by
            intro W7 b hb hb7
            refine ⟨?_, Below.setCell (Below.trans hB5 (hb7.mono (by have := hB5.size; omega))) (Nat.le_refl _) _⟩
            have := (hF5.keep hb7).set j (.bool b)
            rw [bRow_put (k := j) (v := b) _ (fun i => if i < j + 1 then (Fe.begun gr l i).f else false) (by simp [hb]) (fun i _ hi => by
              by_cases e : i < j
              · simp [e, show i < j + 1 by omega]
              · simp [e, show ¬ i < j + 1 by omega])] at this
            exact this
          have HFIN := Lib.hid hfin
          have HT : Hid (∀ W7, Below wr.heap.size wr W7 → W7.cell? ⟨Fb, j, none⟩ = some (.bool false) ∧ W7.frozen? ⟨Fb, j, none⟩ = false ∧ Fb < W7.heap.size) := Lib.hid (fun W7 hb7 => by
            have h7 := hF5.keep hb7
            refine ⟨?_, h7.thaw j, h7.lt⟩
            rw [h7.cell, bRow_get _ hjt]; simp)
          have HST : Hid ((Fe.begun gr l j).f = Fe.stay gr (Fe.cnt (l j)) (Fe.clamp (l j) (Fe.cnt (l j)).b)) := Lib.hid rfl
          generalize Fe.clamp (l j) (Fe.cnt (l j)).b = z at *
          generalize hy : Fe.cnt (l j) = y at *
          clear hy hfin hF5 hA5
          obtain ⟨y0, y1, y2, y3, y4⟩ := y
          dsimp only at d0 d1 d2 d3 d4
          cases gr with
          | true =>
            rw [stay_true] at HST
            dsimp only at HST
            by_cases hg0 : y3 = 0
            · have k0 : (y3 == 0) = true := by simpa using hg0
              subst hg0
              go_upto_region 18 with (fail)
              refine Drawn.wp_region_tail 48 1 (Below.refl _ _) (by kernel_rfl) (by kernel_rfl) rfl (by kernel_rfl) (by kernel_rfl) ?_
              (repeat (first | (refine Drawn.seq_skip (by rfl) ?_; (try simp only [Act.put, List.setIfInBounds_toArray, List.set_cons_zero, List.set_cons_succ])) | (refine Drawn.seq_call (o := ⟨_, .call ⟨.value _, _, _⟩, _, _, _, _⟩) (by rfl) (by intro w2 hS; go_simp; first | done | with_reducible rfl | exact ⟨rfl, rfl⟩) (by intro w2 hS; first | ((with_reducible refine (cut_any _ _).mono ?_); rintro e w' ⟨rfl, rfl⟩; exact ⟨rfl, hS⟩)) ?_; (try simp only [Act.put, List.setIfInBounds_toArray, List.set_cons_zero, List.set_cons_succ])) | (refine Drawn.seq_value (by rfl) (by intro w2 hS; obtain ⟨hc, hf⟩ := bcell hS; go_simp; first | done | with_reducible rfl | exact ⟨rfl, rfl⟩) ?_; (try simp only [Act.put, List.setIfInBounds_toArray, List.set_cons_zero, List.set_cons_succ]))))
              try simp only [k0]
              (repeat (first | (refine Drawn.seq_skip (by rfl) ?_; (try simp only [Act.put, List.setIfInBounds_toArray, List.set_cons_zero, List.set_cons_succ])) | (refine Drawn.seq_call (o := ⟨_, .call ⟨.value _, _, _⟩, _, _, _, _⟩) (by rfl) (by intro w2 hS; go_simp; first | done | with_reducible rfl | exact ⟨rfl, rfl⟩) (by intro w2 hS; first | ((with_reducible refine (cut_any _ _).mono ?_); rintro e w' ⟨rfl, rfl⟩; exact ⟨rfl, hS⟩)) ?_; (try simp only [Act.put, List.setIfInBounds_toArray, List.set_cons_zero, List.set_cons_succ])) | (refine Drawn.seq_value (by rfl) (by intro w2 hS; obtain ⟨hc, hf⟩ := bcell hS; go_simp; first | done | with_reducible rfl | exact ⟨rfl, rfl⟩) ?_; (try simp only [Act.put, List.setIfInBounds_toArray, List.set_cons_zero, List.set_cons_succ]))))
              refine Drawn.seq_tail ?_; intro w2 hS
              obtain ⟨t1, t2, t3⟩ := HT.out _ hS
              refine Drawn.text_cons (by rfl) ?_; intro K hK; go_simp; refine hK _ _ (Drawn.text_nil ?_); clear hK K
              have hh := HFIN.out _ true (HST.out.trans (by simp)) hS
              clear hS t1 t2 t3
              go_wp2
              go_roundw
              case rel => exact ⟨j + 1, by omega, by go_num, hh.1, hh.2⟩
              case measure => simp [intOf]; omega
            · have k0 : (y3 == 0) = false := by simpa using hg0
              by_cases hzy : z < y0
              · have k1 : decide (z < y0) = true := decide_eq_true hzy
                go_upto_region 18 with (fail)
                refine Drawn.wp_region_tail 48 1 (Below.refl _ _) (by kernel_rfl) (by kernel_rfl) rfl (by kernel_rfl) (by kernel_rfl) ?_
                (repeat (first | (refine Drawn.seq_skip (by rfl) ?_; (try simp only [Act.put, List.setIfInBounds_toArray, List.set_cons_zero, List.set_cons_succ])) | (refine Drawn.seq_call (o := ⟨_, .call ⟨.value _, _, _⟩, _, _, _, _⟩) (by rfl) (by intro w2 hS; go_simp; first | done | with_reducible rfl | exact ⟨rfl, rfl⟩) (by intro w2 hS; first | ((with_reducible refine (cut_any _ _).mono ?_); rintro e w' ⟨rfl, rfl⟩; exact ⟨rfl, hS⟩)) ?_; (try simp only [Act.put, List.setIfInBounds_toArray, List.set_cons_zero, List.set_cons_succ])) | (refine Drawn.seq_value (by rfl) (by intro w2 hS; obtain ⟨hc, hf⟩ := bcell hS; go_simp; first | done | with_reducible rfl | exact ⟨rfl, rfl⟩) ?_; (try simp only [Act.put, List.setIfInBounds_toArray, List.set_cons_zero, List.set_cons_succ]))))
                try simp only [k0]
                (repeat (first | (refine Drawn.seq_skip (by rfl) ?_; (try simp only [Act.put, List.setIfInBounds_toArray, List.set_cons_zero, List.set_cons_succ])) | (refine Drawn.seq_call (o := ⟨_, .call ⟨.value _, _, _⟩, _, _, _, _⟩) (by rfl) (by intro w2 hS; go_simp; first | done | with_reducible rfl | exact ⟨rfl, rfl⟩) (by intro w2 hS; first | ((with_reducible refine (cut_any _ _).mono ?_); rintro e w' ⟨rfl, rfl⟩; exact ⟨rfl, hS⟩)) ?_; (try simp only [Act.put, List.setIfInBounds_toArray, List.set_cons_zero, List.set_cons_succ])) | (refine Drawn.seq_value (by rfl) (by intro w2 hS; obtain ⟨hc, hf⟩ := bcell hS; go_simp; first | done | with_reducible rfl | exact ⟨rfl, rfl⟩) ?_; (try simp only [Act.put, List.setIfInBounds_toArray, List.set_cons_zero, List.set_cons_succ]))))
                refine Drawn.seq_tail ?_; intro w2 hS
                obtain ⟨t1, t2, t3⟩ := HT.out _ hS
                refine Drawn.text_cons (by rfl) ?_; intro K hK; go_simp; refine hK _ _ (Drawn.text_nil ?_); clear hK K
                have hh := HFIN.out _ true (HST.out.trans (by simp [hzy])) hS
                clear hS t1 t2 t3
                go_wp2
                go_roundw
                case rel => exact ⟨j + 1, by omega, by go_num, hh.1, hh.2⟩
                case measure => simp [intOf]; omega
              · have k1 : decide (z < y0) = false := decide_eq_false hzy
                go_upto_region 18 with (fail)
                refine Drawn.wp_region_tail 48 1 (Below.refl _ _) (by kernel_rfl) (by kernel_rfl) rfl (by kernel_rfl) (by kernel_rfl) ?_
                (repeat (first | (refine Drawn.seq_skip (by rfl) ?_; (try simp only [Act.put, List.setIfInBounds_toArray, List.set_cons_zero, List.set_cons_succ])) | (refine Drawn.seq_call (o := ⟨_, .call ⟨.value _, _, _⟩, _, _, _, _⟩) (by rfl) (by intro w2 hS; go_simp; first | done | with_reducible rfl | exact ⟨rfl, rfl⟩) (by intro w2 hS; first | ((with_reducible refine (cut_any _ _).mono ?_); rintro e w' ⟨rfl, rfl⟩; exact ⟨rfl, hS⟩)) ?_; (try simp only [Act.put, List.setIfInBounds_toArray, List.set_cons_zero, List.set_cons_succ])) | (refine Drawn.seq_value (by rfl) (by intro w2 hS; obtain ⟨hc, hf⟩ := bcell hS; go_simp; first | done | with_reducible rfl | exact ⟨rfl, rfl⟩) ?_; (try simp only [Act.put, List.setIfInBounds_toArray, List.set_cons_zero, List.set_cons_succ]))))
                try simp only [k0]
                (repeat (first | (refine Drawn.seq_skip (by rfl) ?_; (try simp only [Act.put, List.setIfInBounds_toArray, List.set_cons_zero, List.set_cons_succ])) | (refine Drawn.seq_call (o := ⟨_, .call ⟨.value _, _, _⟩, _, _, _, _⟩) (by rfl) (by intro w2 hS; go_simp; first | done | with_reducible rfl | exact ⟨rfl, rfl⟩) (by intro w2 hS; first | ((with_reducible refine (cut_any _ _).mono ?_); rintro e w' ⟨rfl, rfl⟩; exact ⟨rfl, hS⟩)) ?_; (try simp only [Act.put, List.setIfInBounds_toArray, List.set_cons_zero, List.set_cons_succ])) | (refine Drawn.seq_value (by rfl) (by intro w2 hS; obtain ⟨hc, hf⟩ := bcell hS; go_simp; first | done | with_reducible rfl | exact ⟨rfl, rfl⟩) ?_; (try simp only [Act.put, List.setIfInBounds_toArray, List.set_cons_zero, List.set_cons_succ]))))
                refine Drawn.seq_tail ?_; intro w2 hS
                obtain ⟨t1, t2, t3⟩ := HT.out _ hS
                refine Drawn.text_cons (by rfl) ?_; intro K hK; go_simp; refine hK _ _ (Drawn.text_nil ?_); clear hK K
                have hh := HFIN.out _ false (HST.out.trans (by simp [hg0]; omega)) hS
                clear hS t1 t2 t3
                go_wp2
                go_roundw
                case rel => exact ⟨j + 1, by omega, by go_num, hh.1, hh.2⟩
                case measure => simp [intOf]; omega
          | false =>
            exact absurd HGT.out (by simp)
        · obtain rfl : k = j := by omega
          rename World => w5
          have hB6 : Below w.heap.size w w5 := Below.trans HB4.out (hB5'.mono (by have := HB4.out.size; omega))
          have hX6 : Items w5 X (fun i => Fe.cnt (l i)) k := HX4.out.after hB5'
          have hF6 : At w5 Fb (.cells (bRow (fun i => (Fe.rounds gr room k (Fe.begun gr l) 0 i).f) k) 4) := by
            have h := hF5
            rw [bRow_same (G := fun i => (Fe.rounds gr room k (Fe.begun gr l) 0 i).f) (fun i hi => by simp [hi, Fe.rounds])] at h
            exact h
          have hA6 : At w5 w.heap.size (.cells (iRow (fun i => (Fe.rounds gr room k (Fe.begun gr l) 0 i).z) k) 3) := hA5
          have hp0 := Fe.pl_le (Fe.rounds gr room k (Fe.begun gr l) 0) k
          have HS : Hid (∀ m, SoundM (Fe.rounds gr room k (Fe.begun gr l) m) k) := Lib.hid (fun m => rounds_sound (begun_sound gr l k) m)
          have HXX : Hid (∀ m i, (Fe.rounds gr room k (Fe.begun gr l) m i).x = Fe.cnt (l i)) := Lib.hid (fun m i => Fe.rounds_x m i)
          have HFN : Hid (∀ m, m ≤ k → Fe.pl (Fe.rounds gr room k (Fe.begun gr l) m) k = 0 → (List.range k).map (fun i => (Fe.rounds gr room k (Fe.begun gr l) m i).z) = sizesOf l k x) := Lib.hid (by
            intro m hm h0
            unfold sizesOf Fe.fin
            rw [← HRM.out, ← HGR.out]
            apply List.map_congr_left
            intro i hi
            have hi : i < k := by simpa using hi
            rw [Fe.rounds_still (Fe.pl_none h0 i hi) k hm])
          have hFO : ¬ Fb = w.heap.size := by omega
          clear hF5 hB5 hB5' hA5 hlF5 hlA5 hF hb4 HA4 HX4 HB4 HG
          go_wp2
          go_loopw [12, 13, 14, 15, 16, 17, 18, 19, 20, 21, 22, 23] (fun _ _ _ _ _ _ _ _ _ _ _ _ wr => ∃ m : Nat, m + Fe.pl (Fe.rounds gr room k (Fe.begun gr l) m) k ≤ k ∧ At wr Fb (.cells (bRow (fun i => (Fe.rounds gr room k (Fe.begun gr l) m i).f) k) 4) ∧ At wr w.heap.size (.cells (iRow (fun i => (Fe.rounds gr room k (Fe.begun gr l) m i).z) k) 3) ∧ Items wr X (fun i => Fe.cnt (l i)) k ∧ Below w.heap.size w wr) (fun _ _ _ _ _ _ _ _ _ _ _ _ W => looseB W Fb k)
          case atStart => exact ⟨0, by omega, hF6, hA6, hX6, hB6⟩
          case round =>
            obtain ⟨m, hm, hF, hA, hX, hB⟩ := hrel
            rename World => w3
            have HLO := Lib.hid (looseB_row hF)
            have HSm := Lib.hid (HS.out m)
            have HXm := Lib.hid (HXX.out m)
            have HFm := Lib.hid (HFN.out m (by omega))
            have HRm : Hid (Fe.rounds gr room k (Fe.begun gr l) (m + 1) = Fe.round gr room k (Fe.rounds gr room k (Fe.begun gr l) m)) := Lib.hid rfl
            have hlF := hF.lt
            have hlA := hA.lt
            clear hF6 hA6 hX6 hB6 hp0
            generalize Fe.rounds gr room k (Fe.begun gr l) m = S at *
            have HF3 := Lib.hid hF
            have HA3 := Lib.hid hA
            have HX3 := Lib.hid hX
            clear hF hA hX
            go_wp2
            go_loopw [12, 13, 14, 15] (fun fr v13 v14 i W => ∃ j : Nat, j ≤ k ∧ i = .int .i64 j ∧ fr = .int .i64 (Fe.left room S j) ∧ W.ownsRow w3.heap.size 3 1 v13 (Fe.pl S j) ((Fe.ws gr S j).map (Value.int .i64)) ∧ W.ownsRow w3.heap.size 3 1 v14 (Fe.pl S j) ((aI S j).map (Value.int .i64)) ∧ Apart v13 v14 ∧ Below w3.heap.size w3 W) (fun _ _ _ i _ => k - (intOf i).toNat)
            case atStart => exact ⟨0, by omega, rfl, rfl, World.ownsRow_nil _ _ _ _, World.ownsRow_nil _ _ _ _, .inl rfl, Below.refl _ _⟩
            case round =>
              obtain ⟨j, hj, rfl, rfl, how, hoa, hap, hB3⟩ := hrel
              have hF := HF3.out.keep hB3
              have hA := HA3.out.keep hB3
              have hlF4 := hF.lt
              have hlA4 := hA.lt
              by_cases hjt : j < k
              · as_aux_lemma =>
                have hltz3 : (j : Int) < (k : Int) := by omega
                obtain ⟨q1, q2⟩ := left_bd (room := room) HSm.out.1 j hj
                obtain ⟨⟨⟨b1, b2⟩, s1, s2⟩, z1, z2⟩ := HSm.out.1 j hjt
                rw [HXm.out j] at b1 b2 s1 s2
                have cF := hF.cell j
                rw [bRow_get _ hjt] at cF
                have cA := hA.cell j
                rw [iRow_get _ hjt] at cA
                obtain ⟨gx, ox, rfl, hgl, hcx⟩ := HX3.out (by omega)
                have hcj := hcx j hjt
                have HK : Hid (∀ W', Below w3.heap.size w3 W' → W'.cell? ⟨gx, ox + j * 5, none⟩ = some (.int .i64 (Fe.cnt (l j)).b) ∧ W'.cell? ⟨gx, ox + j * 5 + 1, none⟩ = some (.int .i64 (Fe.cnt (l j)).lo) ∧ W'.cell? ⟨gx, ox + j * 5 + 2, none⟩ = some (.int .i64 (Fe.cnt (l j)).hi) ∧ W'.cell? ⟨gx, ox + j * 5 + 3, none⟩ = some (.int .i64 (Fe.cnt (l j)).g) ∧ W'.cell? ⟨gx, ox + j * 5 + 4, none⟩ = some (.int .i64 (Fe.cnt (l j)).s)) := Lib.hid (fun W' h => ⟨(h.cell (p := ⟨gx, ox + j * 5, none⟩) hgl).trans hcj.1, (h.cell (p := ⟨gx, ox + j * 5 + 1, none⟩) hgl).trans hcj.2.1, (h.cell (p := ⟨gx, ox + j * 5 + 2, none⟩) hgl).trans hcj.2.2.1, (h.cell (p := ⟨gx, ox + j * 5 + 3, none⟩) hgl).trans hcj.2.2.2.1, (h.cell (p := ⟨gx, ox + j * 5 + 4, none⟩) hgl).trans hcj.2.2.2.2⟩)
                clear hcx hF hA hcj
                have hpj := Fe.pl_le S j
                cases hf : (S j).f with
                | true =>
                  rw [hf] at cF
                  have HE := Lib.hid (left_frozen (room := room) hf)
                  have HP := Lib.hid (pl_frozen hf)
                  have HW := Lib.hid (ws_frozen (gr := gr) hf)
                  have HI2 := Lib.hid (aI_frozen hf)
                  clear hf
                  generalize (S j).z = z at *
                  generalize Fe.left room S j = u at *
                  go_wp2
                  go_roundw
                  case rel => exact ⟨j + 1, by omega, by go_num, by rw [HE.out], by rw [HP.out, HW.out]; exact how, by rw [HP.out, HI2.out]; exact hoa, hap, hB3⟩
                  case measure => simp [intOf]; omega
                | false =>
                  rw [hf] at cF
                  have HE := Lib.hid (left_loose (room := room) hf)
                  have HP := Lib.hid (pl_loose hf)
                  have HW := Lib.hid (ws_loose (gr := gr) hf)
                  have HI2 := Lib.hid (aI_loose hf)
                  rw [HXm.out j] at HE HW
                  clear hf
                  generalize Fe.left room S j = u at *
                  generalize Fe.pl S j = p at *
                  obtain ⟨g1, n1, w1, hrun1, hoa1, how1, hap1, hb1, hs1⟩ := append_two (j : Int) hoa how hap hB3.size (by omega)
                  have HB4 := Lib.hid (Below.trans hB3 hb1)
                  obtain ⟨c0, -, -, -, -⟩ := HK.out _ hB3
                  have HRUN1 := Lib.hid hrun1
                  clear hrun1 hb1 hoa how hap hB3 cA
                  cases gr with
                  | true =>
                    rw [show Fe.wt true (Fe.cnt (l j)) = (Fe.cnt (l j)).g from rfl] at HW
                    generalize (Fe.cnt (l j)).b = v0 at *
                    generalize (Fe.cnt (l j)).lo = v1 at *
                    generalize (Fe.cnt (l j)).hi = v2 at *
                    generalize (Fe.cnt (l j)).g = v3 at *
                    generalize (Fe.cnt (l j)).s = v4 at *
                    obtain ⟨g2, n2, w2, hrun2, how2, hoa2, hap2, hb2, hs2⟩ := append_two v3 how1 hoa1 hap1.symm hs1 (by omega)
                    have HB5 := Lib.hid (Below.trans HB4.out hb2)
                    obtain ⟨-, -, -, d3, -⟩ := HK.out _ HB4.out
                    have HRUN2 := Lib.hid hrun2
                    have HO := Lib.hid (And.intro how2 (And.intro hoa2 hap2))
                    clear hrun2 hb2 how2 hoa2 hap2 how1 hoa1 hap1
                    go_upto_region 29 with (at_builtin; refine wpList_append_run (by rfl) _ _ 32 rfl rfl rfl HRUN1.out ?_)
                    go_wp2_with (at_builtin; refine wpList_append_run (by rfl) _ _ 32 rfl rfl rfl HRUN2.out ?_)
                    go_roundw
                    case rel => exact ⟨j + 1, by omega, by go_num, by rw [HE.out], by rw [HP.out, HW.out]; exact HO.out.1, by rw [HP.out, HI2.out]; exact HO.out.2.1, HO.out.2.2.symm, HB5.out⟩
                    case measure => simp [intOf]; omega
                  | false =>
                    exact absurd HGT.out (by simp)
              · obtain rfl : k = j := by omega
                have hltz3 : ¬ (k : Int) < (k : Int) := by omega
                have hpk := Fe.pl_le S k
                have HB6 := Lib.hid (Below.trans hB (hB3.mono hB.size))
                have hA := HA3.out.keep hB3
                obtain ⟨A4, d4, rfl, hI4, hL4⟩ := ints_of_row_own hoa (by unfold maxLen; omega)
                obtain ⟨A3, d3, rfl, hI3, hL3⟩ := ints_of_row_own how (by unfold maxLen; omega)
                rcases Nat.eq_zero_or_pos (Fe.pl S k) with h0 | h0
                · have hout := HFm.out h0
                  have hIz := ints_of_iRow (fun i => (S i).z) k (by unfold maxLen; omega) hA
                  rw [hout] at hIz
                  rw [h0]
                  have HIZ := Lib.hid hIz
                  clear hIz hout hA hI4 hI3 hL4 hL3 how hoa hap
                  go_wp2
                  refine bodyPost_ret (v := .slice (some ⟨w.heap.size, 0, none⟩) k k) (by simp [results, Try.results16, go_sem, *]; first | done | exact ⟨rfl, rfl⟩ | rfl) rfl ⟨⟨w.heap.size, rfl, HIZ.out⟩, HB6.out⟩
                · obtain ⟨q1, q2⟩ := left_bd (room := room) HSm.out.1 k (Nat.le_refl _)
                  have HOA := Lib.hid hoa
                  have HI4 := Lib.hid hI4
                  have HL4 := Lib.hid hL4
                  have hB3 := hB3
                  clear hoa how hap hA hI4 hL4
                  have hpos : (0 : Int) < (Fe.pl S k : Int) := by omega
                  have hne0 : ((Fe.pl S k : Int) == 0) = false := by simp; omega
                  have HAO : Hid (∀ b off, A4 = some ⟨b, off, none⟩ → b ≠ w.heap.size ∧ b ≠ Fb) := Lib.hid (fun b off e => by
                    subst e
                    have := (HOA.out.lt b rfl).1
                    omega)
                  obtain ⟨sgn, HSG⟩ : ∃ t, Hid (Fe.sg gr = t) := ⟨_, Lib.hid rfl⟩
                  obtain ⟨pt, HPE⟩ : ∃ t, Hid (Fe.parts gr room S k = t) := ⟨_, Lib.hid rfl⟩
                  obtain ⟨Wt, HWE⟩ : ∃ t, Hid (Fe.want gr pt S = t) := ⟨_, Lib.hid rfl⟩
                  obtain ⟨T, HTE⟩ : ∃ t, Hid (Fe.shared gr room k S = t) := ⟨_, Lib.hid rfl⟩
                  obtain ⟨ws, HWS⟩ : ∃ t, Hid (Fe.ws gr S k = t) := ⟨_, Lib.hid rfl⟩
                  have HPT : Hid (Fe.share (sgn * Fe.left room S k) ws = pt) := Lib.hid (by rw [← HSG.out, ← HWS.out, ← HPE.out]; exact Fe.share_free _)
                  have HPL : Hid (pt.length = Fe.pl S k) := Lib.hid (by rw [← HPE.out]; unfold Fe.parts; rw [Fe.share_length, Fe.ws_length])
                  have HPB : Hid (∀ j, j < Fe.pl S k → 0 ≤ pt.getD j 0 ∧ pt.getD j 0 ≤ 67108864) := Lib.hid (fun j hj => by
                    rw [← HPE.out]
                    unfold Fe.parts
                    rw [Fe.share_get _ _ (by rw [Fe.ws_length]; exact hj)]
                    exact Fe.part_bd _ _ (by rw [Fe.ws_length]; exact hj))
                  have HWT : Hid (∀ i, Wt i = (Fe.cnt (l i)).b + sgn * pt.getD (Fe.pl S i) 0) := Lib.hid (fun i => by rw [← HWE.out, ← HSG.out]; unfold Fe.want; rw [HXm.out])
                  have HTT : Hid (∀ i, (S i).f = false → (T i).f = false ∧ (T i).z = Fe.clamp (l i) (Wt i) ∧ (T i).m = Fe.clamp (l i) (Wt i) - Wt i) := Lib.hid (fun i hi => by
                    rw [← HTE.out, ← HWE.out, ← HPE.out]
                    unfold Fe.shared Fe.sharedBy
                    rw [hi, HXm.out, Fe.clamp_cnt]
                    exact ⟨rfl, rfl, rfl⟩)
                  have HTM : Hid (∀ i, i < k → -134217728 ≤ (T i).m ∧ (T i).m ≤ 134217728) := Lib.hid (by rw [← HTE.out]; exact (shared_sound HSm.out).2)
                  have HTF : Hid (∀ i, (T i).f = (S i).f) := Lib.hid (fun i => by
                    rw [← HTE.out]
                    unfold Fe.shared Fe.sharedBy
                    cases hf : (S i).f <;> simp [hf])
                  have HTS : Hid (∀ i, (S i).f = true → T i = S i) := Lib.hid (fun i hi => by
                    rw [← HTE.out]
                    unfold Fe.shared Fe.sharedBy
                    rw [hi]
                    rfl)
                  have HRT : Hid (Fe.round gr room k S = Fe.froze k T) := Lib.hid (by rw [← HTE.out]; rfl)
                  rw [HWS.out] at hI3 hL3
                  have HI3 := Lib.hid hI3
                  have HL3 := Lib.hid hL3
                  clear hI3 hL3 HWS HPE HWE HTE
                  have HXW : Items wr X (fun i => Fe.cnt (l i)) k := HX3.out.after hB3
                  generalize hp : Fe.pl S k = p at *
                  have HPK := Lib.hid hp
                  clear hp
                  generalize hu : Fe.left room S k = u at *
                  clear hu
                  go_upto_region 34 with (fail)
                  cases gr with
                  | true =>
                    as_aux_lemma =>
                    obtain rfl : 1 = sgn := HSG.out
                    go_upto_region 38 with (go_at_call 18; refine (rshare_any A3 ws p d3 _ _ HI3.out HL3.out (by omega)).mono ?_; rintro e w7 ⟨⟨bp, rfl, hbp, hIp⟩, hb7⟩)
                    have hIp2 : Ints w7 (some ⟨bp, 0, none⟩) pt := by rw [← HPT.out]; first | exact hIp | (rw [Int.one_mul]; exact hIp)
                    have HX7 := Lib.hid (HXW.after hb7)
                    have HI7 := Lib.hid (HI4.out.after hb7)
                    have HF7 := Lib.hid ((HF3.out.keep hB3).keep hb7)
                    have HA7 := Lib.hid ((HA3.out.keep hB3).keep hb7)
                    have HB7 := Lib.hid (Below.after2 HB6.out (Nat.le_refl _) hb7)
                    have HP7 := Lib.hid hIp2
                    have hs7 := HB7.out.size
                    have hlF7 := HF7.out.lt
                    clear hIp hIp2 hb7 hbp HXW HI4 HF3 HA3 HX3 hB3 HB6 HOA HI3 HL3 HPT hB hlF hlA
                    go_wp2
                    go_loopw [18, 19, 20, 21] (fun mo v19 kk _ W => ∃ j : Nat, j ≤ p ∧ kk = .int .i64 j ∧ mo = .int .i64 (Fe.msum T ((Fe.ats S k).take j)) ∧ W.ownsRow w7.heap.size 3 1 v19 j ((wI Wt ((Fe.ats S k).take j)).map (Value.int .i64)) ∧ Below w7.heap.size w7 W) (fun _ _ i _ _ => p - (intOf i).toNat)
                    case atStart => exact ⟨0, by omega, rfl, rfl, World.ownsRow_nil _ _ _ _, Below.refl _ _⟩
                    case round =>
                      obtain ⟨j, hj, rfl, rfl, hown, hB8⟩ := hrel
                      by_cases hjt : j < p
                      · as_aux_lemma =>
                        have hltz4 : (j : Int) < (p : Int) := by omega
                        have hjp : j < Fe.pl S k := by rw [HPK.out]; exact hjt
                        obtain ⟨a1, a2, a3⟩ := Fe.ats_get S hjp
                        obtain ⟨s1, s2⟩ := msum_bd k HTM.out (S := S) j (by rw [HPK.out]; omega)
                        have HTK : Hid ((Fe.ats S k).take (j + 1) = (Fe.ats S k).take j ++ [(Fe.ats S k).getD j 0]) := Lib.hid (take_more _ 0 (by rw [Fe.ats_length]; exact hjp))
                        obtain ⟨b4, o4, rfl, hl4, cat0⟩ := HI7.out.at_ (k := j) (by rw [aI_length]; exact hjp)
                        rw [aI_get hjp] at cat0
                        obtain ⟨bq, oq, eq, hlp, cpt0⟩ := HP7.out.at_ (k := j) (by rw [HPL.out]; exact hjt)
                        injection eq with eq
                        injection eq with e1 e2
                        subst e1; subst e2
                        simp only [Nat.zero_add] at cpt0
                        obtain ⟨-, -, tm⟩ := HTT.out _ a2
                        have hwi := HWT.out ((Fe.ats S k).getD j 0)
                        rw [a3] at hwi
                        obtain ⟨p1, p2⟩ := HPB.out j hjt
                        generalize (Fe.ats S k).getD j 0 = i0 at *
                        obtain ⟨gx, ox, rfl, hgl, hcx⟩ := HX7.out (by omega)
                        have hcj := hcx i0 a1
                        have HK : Hid (∀ W', Below w7.heap.size w7 W' → W'.cell? ⟨gx, ox + i0 * 5, none⟩ = some (.int .i64 (Fe.cnt (l i0)).b) ∧ W'.cell? ⟨gx, ox + i0 * 5 + 1, none⟩ = some (.int .i64 (Fe.cnt (l i0)).lo) ∧ W'.cell? ⟨gx, ox + i0 * 5 + 2, none⟩ = some (.int .i64 (Fe.cnt (l i0)).hi) ∧ W'.cell? ⟨gx, ox + i0 * 5 + 3, none⟩ = some (.int .i64 (Fe.cnt (l i0)).g) ∧ W'.cell? ⟨gx, ox + i0 * 5 + 4, none⟩ = some (.int .i64 (Fe.cnt (l i0)).s)) := Lib.hid (fun W' h => ⟨(h.cell (p := ⟨gx, ox + i0 * 5, none⟩) hgl).trans hcj.1, (h.cell (p := ⟨gx, ox + i0 * 5 + 1, none⟩) hgl).trans hcj.2.1, (h.cell (p := ⟨gx, ox + i0 * 5 + 2, none⟩) hgl).trans hcj.2.2.1, (h.cell (p := ⟨gx, ox + i0 * 5 + 3, none⟩) hgl).trans hcj.2.2.2.1, (h.cell (p := ⟨gx, ox + i0 * 5 + 4, none⟩) hgl).trans hcj.2.2.2.2⟩)
                        have HAT : Hid (∀ W', Below w7.heap.size w7 W' → W'.cell? ⟨b4, o4 + j, none⟩ = some (.int .i64 (i0 : Int))) := Lib.hid (fun W' h => (h.cell (p := ⟨b4, o4 + j, none⟩) hl4).trans cat0)
                        have cpt := (hB8.cell (p := ⟨bp, j, none⟩) hlp).trans cpt0
                        have cat := HAT.out _ hB8
                        clear hcx hcj cat0 cpt0
                        have hsz8 := hB8.size
                        have hgl8 : gx < wr.heap.size := by omega
                        have hl48 : b4 < wr.heap.size := by omega
                        have hlp8 : bp < wr.heap.size := by omega
                        have HCC := Lib.hid (Fe.clamp_cnt (l i0) (Wt i0))
                        obtain ⟨z1, z2⟩ := Fe.clamp_bd (l i0) (Wt i0)
                        obtain ⟨b1, b2, -⟩ := Fe.cnt_bd (l i0)
                        have HWI : Hid (wI Wt ((Fe.ats S k).take (j + 1)) = wI Wt ((Fe.ats S k).take j) ++ [Wt i0]) := Lib.hid (by rw [HTK.out]; simp [wI])
                        have HMS : Hid (Fe.msum T ((Fe.ats S k).take (j + 1)) = Fe.msum T ((Fe.ats S k).take j) + Fe.clamp (l i0) (Wt i0) - Wt i0) := Lib.hid (by rw [HTK.out, Fe.msum_snoc, tm]; omega)
                        clear tm
                        generalize pt.getD j 0 = pv at *
                        generalize hy : Wt i0 = y at *
                        clear hy
                        have y1 : -67108864 ≤ y := by omega
                        have y2 : y ≤ 68157440 := by omega
                        generalize Fe.clamp (l i0) y = z at *
                        generalize Fe.cnt (l i0) = q at *
                        obtain ⟨x0, x1, x2, x3, x4⟩ := q
                        dsimp only at HK hwi b1 b2
                        have hwA : IntKind.i64.wrap (x0 + IntKind.i64.wrap pv) = y := by rw [IntWalk.i64_in pv (by omega), IntWalk.i64_in _ (by omega)]; omega
                        clear hwi
                        generalize Fe.msum T ((Fe.ats S k).take j) = mo at *
                        obtain ⟨c0, c1, c2, c3, c4⟩ := HK.out _ hB8
                        have hik : (i0 : Int) < (k : Int) := by omega
                        go_upto_region 43 with (fail)
                        refine Drawn.wp_region_from (Below.refl _ _) (by kernel_rfl) (by kernel_rfl) (by kernel_rfl) ?_
                        (repeat (first | (refine Drawn.seq_skip (by rfl) ?_; (try simp only [Act.put, List.setIfInBounds_toArray, List.set_cons_zero, List.set_cons_succ])) | (refine Drawn.seq_call (o := ⟨_, .call ⟨.value _, _, _⟩, _, _, _, _⟩) (by rfl) (by intro w2 hS; go_simp; first | done | with_reducible rfl | exact ⟨rfl, rfl⟩) (by intro w2 hS; first | ((with_reducible refine (cut_any _ _).mono ?_); rintro e w' ⟨rfl, rfl⟩; exact ⟨rfl, hS⟩)) ?_; (try simp only [Act.put, List.setIfInBounds_toArray, List.set_cons_zero, List.set_cons_succ])) | (refine Drawn.seq_value (by rfl) (by intro w2 hS; obtain ⟨hc, hf⟩ := bcell hS; go_simp; first | done | with_reducible rfl | exact ⟨rfl, rfl⟩) ?_; (try simp only [Act.put, List.setIfInBounds_toArray, List.set_cons_zero, List.set_cons_succ]))))
                        refine Drawn.seq_end ?_; intro w2 hS
                        try rw [hwA]
                        have hB9 := Below.after2 hB8 (Nat.le_refl _) hS
                        obtain ⟨v9, w9, hrun, hown9, hB10, hs10⟩ := append_int y (ownsRow_below hown hS) hB9 hB9.size (by omega)
                        have HRUN := Lib.hid hrun
                        obtain ⟨d0, d1, d2, d3', d4'⟩ := HK.out _ hB10
                        have dat := HAT.out _ hB10
                        clear hrun hown hS hB9 c0 c1 c2 c3 c4 cat cpt hB8 hgl8 hl48 hlp8 hwA
                        go_upto_region 45 with (at_builtin; refine wpList_append_run (by rfl) _ _ 32 rfl rfl rfl HRUN.out ?_)
                        go_wp2_with (go_at_call 13; refine (rxclamp5 x0 x1 x2 x3 x4 y _).mono ?_; rintro e w10 ⟨rfl, hb11⟩; rw [HCC.out])
                        go_roundw
                        case rel => exact ⟨j + 1, by omega, by go_num, by rw [HMS.out], by rw [HWI.out]; exact ownsRow_below hown9 hb11, Below.after2 hB10 (Nat.le_refl _) hb11⟩
                        case measure => simp [intOf]; omega
                      · obtain rfl : p = j := by omega
                        rename World => w8
                        have hfull : (Fe.ats S k).take p = Fe.ats S k := List.take_of_length_le (by rw [Fe.ats_length, HPK.out]; exact Nat.le_refl _)
                        rw [hfull] at hown ⊢
                        have HMO : Hid (Fe.msum T (Fe.ats S k) = Fe.made T k) := Lib.hid (Fe.made_msum (S := S) (T := T) HTF.out k).symm
                        obtain ⟨A9, d9, rfl, hI9, hL9⟩ := ints_of_row_own hown (by unfold maxLen; omega)
                        have HNO : Hid (∀ b off, A9 = some ⟨b, off, none⟩ → b ≠ w.heap.size ∧ b ≠ Fb) := Lib.hid (fun b off e => by
                          subst e
                          have := (hown.lt b rfl).1
                          have := HA7.out.lt
                          omega)
                        obtain ⟨R, HRE⟩ : ∃ t, Hid (Fe.froze k T = t) := ⟨_, Lib.hid rfl⟩
                        have HRS : Hid (∀ i, (S i).f = true → R i = S i) := Lib.hid (fun i hi => by
                          rw [← HRE.out]
                          unfold Fe.froze
                          rw [HTS.out i hi, hi]
                          rfl)
                        have HRL : Hid (∀ i, (S i).f = false → (R i).z = Fe.clamp (l i) (Wt i) ∧ (R i).f = Fe.frz (Fe.msum T (Fe.ats S k)) (Fe.clamp (l i) (Wt i) - Wt i)) := Lib.hid (fun i hi => by
                          obtain ⟨t1, t2, t3⟩ := HTT.out i hi
                          rw [← HRE.out, HMO.out]
                          unfold Fe.froze
                          rw [t1, ← t3, ← t2]
                          exact ⟨rfl, rfl⟩)
                        have hX8 := HX7.out.after hB8
                        have hI8 := HI7.out.after hB8
                        have hF8 := HF7.out.keep hB8
                        have hA8 := HA7.out.keep hB8
                        have hB9 := Below.after2 HB7.out (Nat.le_refl _) hB8
                        clear hown hB8 HX7 HI7 HF7 HA7 HB7 HP7 hfull hL9 HWT HTT HTM HTF HTS HMO
                        generalize Fe.msum T (Fe.ats S k) = mo at *
                        go_wp2
                        go_loopw [22, 23] (fun kk _ W => ∃ j : Nat, j ≤ p ∧ kk = .int .i64 j ∧ At W Fb (.cells (bRow (fun i => (Fe.midr S R j i).f) k) 4) ∧ At W w.heap.size (.cells (iRow (fun i => (Fe.midr S R j i).z) k) 3) ∧ Items W X (fun i => Fe.cnt (l i)) k ∧ Ints W A4 (aI S k) ∧ Ints W A9 (wI Wt (Fe.ats S k)) ∧ Below w.heap.size w W) (fun i _ _ => p - (intOf i).toNat)
                        case atStart => exact ⟨0, by omega, rfl, by rw [Fe.midr_zero]; exact hF8, by rw [Fe.midr_zero]; exact hA8, hX8, hI8, hI9, hB9⟩
                        case round =>
                          obtain ⟨j, hj, rfl, hF, hA, hX, hI, hN, hB⟩ := hrel
                          clear hX8 hI8 hI9 hF8 hA8 hB9
                          by_cases hjt : j < p
                          · as_aux_lemma =>
                            have hltz5 : (j : Int) < (p : Int) := by omega
                            have hjp : j < Fe.pl S k := by rw [HPK.out]; exact hjt
                            obtain ⟨a1, a2, a3⟩ := Fe.ats_get S hjp
                            have HMA := Lib.hid (Fe.midr_at (S := S) (R := R) hjp)
                            have HMF : Hid (∀ i, i < k → i ≠ (Fe.ats S k).getD j 0 → Fe.midr S R (j + 1) i = Fe.midr S R j i) := Lib.hid (fun i hi hne => Fe.midr_off hi hne)
                            obtain ⟨rz, rf⟩ := HRL.out _ a2
                            have HAG : Hid ((aI S k).getD j 0 = (((Fe.ats S k).getD j 0 : Nat) : Int)) := Lib.hid (aI_get hjp)
                            have HNG : Hid ((wI Wt (Fe.ats S k)).getD j 0 = Wt ((Fe.ats S k).getD j 0)) := Lib.hid (by
                              have hl : j < (Fe.ats S k).length := by rw [Fe.ats_length]; exact hjp
                              simp [wI, List.getD_eq_getElem?_getD, List.getElem?_map, List.getElem?_eq_getElem hl])
                            have HLA : Hid (j < (aI S k).length) := Lib.hid (by rw [aI_length]; exact hjp)
                            have HLN : Hid (j < (wI Wt (Fe.ats S k)).length) := Lib.hid (by rw [wI, List.length_map, Fe.ats_length]; exact hjp)
                            generalize (Fe.ats S k).getD j 0 = i0 at *
                            obtain ⟨b4, o4, rfl, hl4, cat⟩ := hI.at_ (k := j) HLA.out
                            obtain ⟨b9, o9, rfl, hl9, cwt⟩ := hN.at_ (k := j) HLN.out
                            rw [HAG.out] at cat
                            rw [HNG.out] at cwt
                            obtain ⟨gx, ox, rfl, hgl, hcx⟩ := hX (by omega)
                            have hcj := hcx i0 a1
                            clear hcx
                            dsimp only at hcj
                            have HCC := Lib.hid (Fe.clamp_cnt (l i0) (Wt i0))
                            generalize Wt i0 = y at *
                            generalize Fe.clamp (l i0) y = z at *
                            have HATW : Hid (∀ W', Ints W' (some ⟨b4, o4, none⟩) (aI S k) → b4 < W'.heap.size ∧ W'.cell? ⟨b4, o4 + j, none⟩ = some (.int .i64 (i0 : Int))) := Lib.hid (fun W' h => by
                              obtain ⟨b', o', e', hl', c'⟩ := h.at_ (k := j) HLA.out
                              injection e' with e'
                              injection e' with e1 e2
                              subst e1; subst e2
                              rw [HAG.out] at c'
                              exact ⟨hl', c'⟩)
                            have HNTW : Hid (∀ W', Ints W' (some ⟨b9, o9, none⟩) (wI Wt (Fe.ats S k)) → b9 < W'.heap.size ∧ W'.cell? ⟨b9, o9 + j, none⟩ = some (.int .i64 y)) := Lib.hid (fun W' h => by
                              obtain ⟨b', o', e', hl', c'⟩ := h.at_ (k := j) HLN.out
                              injection e' with e'
                              injection e' with e1 e2
                              subst e1; subst e2
                              rw [HNG.out] at c'
                              exact ⟨hl', c'⟩)
                            have HX9 : Hid (∀ b off, some (⟨gx, ox, none⟩ : Addr) = some ⟨b, off, none⟩ → b ≠ w.heap.size ∧ b ≠ Fb) := Lib.hid (fun b off e => by have := HXO.out b off e; omega)
                            obtain ⟨e41, e42⟩ := HAO.out b4 o4 rfl
                            obtain ⟨e91, e92⟩ := HNO.out b9 o9 rfl
                            generalize Fe.cnt (l i0) = q at *
                            obtain ⟨x0, x1, x2, x3, x4⟩ := q
                            obtain ⟨c0, c1, c2, c3, c4⟩ := hcj
                            dsimp only at c0 c1 c2 c3 c4
                            have hik : (i0 : Int) < (k : Int) := by omega
                            go_upto_region 49 with (fail)
                            refine Drawn.wp_region_from (Below.refl _ _) (by kernel_rfl) (by kernel_rfl) (by kernel_rfl) ?_
                            (repeat (first | (refine Drawn.seq_skip (by rfl) ?_; (try simp only [Act.put, List.setIfInBounds_toArray, List.set_cons_zero, List.set_cons_succ])) | (refine Drawn.seq_call (o := ⟨_, .call ⟨.value _, _, _⟩, _, _, _, _⟩) (by rfl) (by intro w2 hS; go_simp; first | done | with_reducible rfl | exact ⟨rfl, rfl⟩) (by intro w2 hS; first | ((with_reducible refine (rxclamp5 _ _ _ _ _ _ _).mono ?_); rintro e w' ⟨rfl, hb⟩; exact ⟨rfl, Below.after hS hb⟩)) ?_; (try simp only [Act.put, List.setIfInBounds_toArray, List.set_cons_zero, List.set_cons_succ])) | (refine Drawn.seq_value (by rfl) (by intro w2 hS; obtain ⟨hc, hf⟩ := bcell hS; go_simp; first | done | with_reducible rfl | exact ⟨rfl, rfl⟩) ?_; (try simp only [Act.put, List.setIfInBounds_toArray, List.set_cons_zero, List.set_cons_succ]))))
                            refine Drawn.seq_end ?_; intro w2 hS
                            rw [HCC.out]
                            have hA5 := hA.keep hS
                            have hF5 := hF.keep hS
                            have hX5 := hX.after hS
                            have hI5 := hI.after hS
                            have hN5 := hN.after hS
                            have hB5 := Below.after2 hB (Nat.le_refl _) hS
                            clear hA hF hX hI hN hB hS cat cwt c0 c1 c2 c3 c4 hl4 hl9 hgl
                            obtain ⟨l5, cat5⟩ := HATW.out _ hI5
                            have cA5 := hA5.cell i0
                            rw [iRow_get _ a1] at cA5
                            have zA5 := hA5.thaw i0
                            have lA5 := hA5.lt
                            generalize w2 = W5 at *
                            go_upto_region 51 with (fail)
                            have hA6 := hA5.set i0 (.int .i64 z)
                            rw [iRow_set _ (fun i => (Fe.midr S R (j + 1) i).z) (show (Fe.midr S R (j + 1) i0).z = z by rw [HMA.out]; exact rz) (fun i hi hne => by rw [HMF.out i hi hne])] at hA6
                            have hF6 := hF5.off (n := w.heap.size) (by omega) i0 (.int .i64 z)
                            have hX6 := hX5.off (O := w.heap.size) (k := i0) (fun b off e => (HX9.out b off e).1) (.int .i64 z)
                            have hI6 := hI5.off (g := w.heap.size) (k := i0) e41 (.int .i64 z)
                            have hN6 := hN5.off (g := w.heap.size) (k := i0) e91 (.int .i64 z)
                            have hB6 := Below.setCell (p := ⟨w.heap.size, i0, none⟩) hB5 (Nat.le_refl _) (.int .i64 z)
                            clear hA5 hF5 hX5 hI5 hN5 hB5 cat5 cA5 zA5 lA5 l5
                            generalize World.setCell _ _ _ = W6 at *
                            obtain ⟨l6, cat6⟩ := HATW.out _ hI6
                            obtain ⟨l7, cwt6⟩ := HNTW.out _ hN6
                            have cF6 := hF6.cell i0
                            rw [bRow_get _ a1] at cF6
                            have lF6 := hF6.lt
                            have HT6 : Hid (∀ W7, Below W6.heap.size W6 W7 → W7.cell? ⟨Fb, i0, none⟩ = some (.bool (Fe.midr S R j i0).f) ∧ W7.frozen? ⟨Fb, i0, none⟩ = false ∧ Fb < W7.heap.size) := Lib.hid (fun W7 hb7 => by
                              have h7 := hF6.keep hb7
                              refine ⟨?_, h7.thaw i0, h7.lt⟩
                              rw [h7.cell, bRow_get _ a1])
                            have FIN : Hid (∀ (W7 : World) (b : Bool), Fe.frz mo (z - y) = b → Below W6.heap.size W6 W7 → At (W7.setCell ⟨Fb, i0, none⟩ (.bool b)) Fb (.cells (bRow (fun i => (Fe.midr S R (j + 1) i).f) k) 4) ∧ At (W7.setCell ⟨Fb, i0, none⟩ (.bool b)) w.heap.size (.cells (iRow (fun i => (Fe.midr S R (j + 1) i).z) k) 3) ∧ Items (W7.setCell ⟨Fb, i0, none⟩ (.bool b)) (some ⟨gx, ox, none⟩) (fun i => Fe.cnt (l i)) k ∧ Ints (W7.setCell ⟨Fb, i0, none⟩ (.bool b)) (some ⟨b4, o4, none⟩) (aI S k) ∧ Ints (W7.setCell ⟨Fb, i0, none⟩ (.bool b)) (some ⟨b9, o9, none⟩) (wI Wt (Fe.ats S k)) ∧ Below w.heap.size w (W7.setCell ⟨Fb, i0, none⟩ (.bool b))) := Lib.hid (by
                              intro W7 b hb hb7
                              refine ⟨?_, (hA6.keep hb7).off (by omega) _ _, (hX6.after hb7).off (fun b off e => (HX9.out b off e).2) _, (hI6.after hb7).off e42 _, (hN6.after hb7).off e92 _, Below.setCell (Below.after2 hB6 (Nat.le_refl _) hb7) (by simp; omega) _⟩
                              have := (hF6.keep hb7).set i0 (.bool b)
                              rw [bRow_put _ (fun i => (Fe.midr S R (j + 1) i).f) (show (Fe.midr S R (j + 1) i0).f = b by rw [HMA.out, rf]; exact hb) (fun i hi hne => by rw [HMF.out i hi hne])] at this
                              exact this)
                            clear hA6 hF6 hX6 hI6 hN6 hB6 rz rf
                            generalize (Fe.midr S R j i0).f = b0 at *
                            rcases Int.lt_trichotomy mo 0 with hmo | hmo | hmo
                            · have k0 : (mo == 0) = false := by simp; omega
                              have k1 : decide (0 < mo) = false := by simp; omega
                              have k2 : decide (mo < 0) = true := by simp; omega
                              refine Drawn.wp_region_tail 32 1 (Below.refl _ _) (by kernel_rfl) (by kernel_rfl) rfl (by kernel_rfl) (by kernel_rfl) ?_
                              (repeat (first | (refine Drawn.seq_skip (by rfl) ?_; (try simp only [Act.put, List.setIfInBounds_toArray, List.set_cons_zero, List.set_cons_succ])) | (refine Drawn.seq_call (o := ⟨_, .call ⟨.value _, _, _⟩, _, _, _, _⟩) (by rfl) (by intro w2 hS; go_simp; first | done | with_reducible rfl | exact ⟨rfl, rfl⟩) (by intro w2 hS; first | ((with_reducible refine (cut_any _ _).mono ?_); rintro e w' ⟨rfl, rfl⟩; exact ⟨rfl, hS⟩)) ?_; (try simp only [Act.put, List.setIfInBounds_toArray, List.set_cons_zero, List.set_cons_succ])) | (refine Drawn.seq_value (by rfl) (by intro w2 hS; obtain ⟨hc, hf⟩ := bcell hS; go_simp; first | done | with_reducible rfl | exact ⟨rfl, rfl⟩) ?_; (try simp only [Act.put, List.setIfInBounds_toArray, List.set_cons_zero, List.set_cons_succ]))))
                              refine Drawn.seq_tail ?_; intro w2 hS
                              obtain ⟨t1, t2, t3⟩ := HT6.out _ hS
                              refine Drawn.text_cons (by rfl) ?_; intro K hK; go_simp; refine hK _ _ (Drawn.text_nil ?_); clear hK K
                              have hh := FIN.out _ (decide (z < y)) (by unfold Fe.frz; rw [decide_eq_false (show ¬ mo = 0 by omega), k1, k2, show decide (z - y < 0) = decide (z < y) from decide_eq_decide.2 (by omega)]; simp) hS
                              clear hS t1 t2 t3
                              go_wp2
                              go_roundw
                              case rel => exact ⟨j + 1, by omega, by go_num, hh.1, hh.2.1, hh.2.2.1, hh.2.2.2.1, hh.2.2.2.2.1, hh.2.2.2.2.2⟩
                              case measure => simp [intOf]; omega
                            · subst hmo
                              refine Drawn.wp_region_tail 32 1 (Below.refl _ _) (by kernel_rfl) (by kernel_rfl) rfl (by kernel_rfl) (by kernel_rfl) ?_
                              (repeat (first | (refine Drawn.seq_skip (by rfl) ?_; (try simp only [Act.put, List.setIfInBounds_toArray, List.set_cons_zero, List.set_cons_succ])) | (refine Drawn.seq_call (o := ⟨_, .call ⟨.value _, _, _⟩, _, _, _, _⟩) (by rfl) (by intro w2 hS; go_simp; first | done | with_reducible rfl | exact ⟨rfl, rfl⟩) (by intro w2 hS; first | ((with_reducible refine (cut_any _ _).mono ?_); rintro e w' ⟨rfl, rfl⟩; exact ⟨rfl, hS⟩)) ?_; (try simp only [Act.put, List.setIfInBounds_toArray, List.set_cons_zero, List.set_cons_succ])) | (refine Drawn.seq_value (by rfl) (by intro w2 hS; obtain ⟨hc, hf⟩ := bcell hS; go_simp; first | done | with_reducible rfl | exact ⟨rfl, rfl⟩) ?_; (try simp only [Act.put, List.setIfInBounds_toArray, List.set_cons_zero, List.set_cons_succ]))))
                              refine Drawn.seq_tail ?_; intro w2 hS
                              obtain ⟨t1, t2, t3⟩ := HT6.out _ hS
                              refine Drawn.text_cons (by rfl) ?_; intro K hK; go_simp; refine hK _ _ (Drawn.text_nil ?_); clear hK K
                              have hh := FIN.out _ true (by simp [Fe.frz]) hS
                              clear hS t1 t2 t3
                              go_wp2
                              go_roundw
                              case rel => exact ⟨j + 1, by omega, by go_num, hh.1, hh.2.1, hh.2.2.1, hh.2.2.2.1, hh.2.2.2.2.1, hh.2.2.2.2.2⟩
                              case measure => simp [intOf]; omega
                            · have k0 : (mo == 0) = false := by simp; omega
                              have k1 : decide (0 < mo) = true := by simp; omega
                              have k2 : decide (mo < 0) = false := by simp; omega
                              by_cases hzy : y < z
                              · have k3 : decide (y < z) = true := by simp; omega
                                refine Drawn.wp_region_tail 32 1 (Below.refl _ _) (by kernel_rfl) (by kernel_rfl) rfl (by kernel_rfl) (by kernel_rfl) ?_
                                (repeat (first | (refine Drawn.seq_skip (by rfl) ?_; (try simp only [Act.put, List.setIfInBounds_toArray, List.set_cons_zero, List.set_cons_succ])) | (refine Drawn.seq_call (o := ⟨_, .call ⟨.value _, _, _⟩, _, _, _, _⟩) (by rfl) (by intro w2 hS; go_simp; first | done | with_reducible rfl | exact ⟨rfl, rfl⟩) (by intro w2 hS; first | ((with_reducible refine (cut_any _ _).mono ?_); rintro e w' ⟨rfl, rfl⟩; exact ⟨rfl, hS⟩)) ?_; (try simp only [Act.put, List.setIfInBounds_toArray, List.set_cons_zero, List.set_cons_succ])) | (refine Drawn.seq_value (by rfl) (by intro w2 hS; obtain ⟨hc, hf⟩ := bcell hS; go_simp; first | done | with_reducible rfl | exact ⟨rfl, rfl⟩) ?_; (try simp only [Act.put, List.setIfInBounds_toArray, List.set_cons_zero, List.set_cons_succ]))))
                                refine Drawn.seq_tail ?_; intro w2 hS
                                obtain ⟨t1, t2, t3⟩ := HT6.out _ hS
                                refine Drawn.text_cons (by rfl) ?_; intro K hK; go_simp; refine hK _ _ (Drawn.text_nil ?_); clear hK K
                                have hh := FIN.out _ true (by unfold Fe.frz; rw [k1, decide_eq_true (show 0 < z - y by omega)]; simp) hS
                                clear hS t1 t2 t3
                                go_wp2
                                go_roundw
                                case rel => exact ⟨j + 1, by omega, by go_num, hh.1, hh.2.1, hh.2.2.1, hh.2.2.2.1, hh.2.2.2.2.1, hh.2.2.2.2.2⟩
                                case measure => simp [intOf]; omega
                              · have k3 : decide (y < z) = false := by simp; omega
                                refine Drawn.wp_region_tail 32 1 (Below.refl _ _) (by kernel_rfl) (by kernel_rfl) rfl (by kernel_rfl) (by kernel_rfl) ?_
                                (repeat (first | (refine Drawn.seq_skip (by rfl) ?_; (try simp only [Act.put, List.setIfInBounds_toArray, List.set_cons_zero, List.set_cons_succ])) | (refine Drawn.seq_call (o := ⟨_, .call ⟨.value _, _, _⟩, _, _, _, _⟩) (by rfl) (by intro w2 hS; go_simp; first | done | with_reducible rfl | exact ⟨rfl, rfl⟩) (by intro w2 hS; first | ((with_reducible refine (cut_any _ _).mono ?_); rintro e w' ⟨rfl, rfl⟩; exact ⟨rfl, hS⟩)) ?_; (try simp only [Act.put, List.setIfInBounds_toArray, List.set_cons_zero, List.set_cons_succ])) | (refine Drawn.seq_value (by rfl) (by intro w2 hS; obtain ⟨hc, hf⟩ := bcell hS; go_simp; first | done | with_reducible rfl | exact ⟨rfl, rfl⟩) ?_; (try simp only [Act.put, List.setIfInBounds_toArray, List.set_cons_zero, List.set_cons_succ]))))
                                refine Drawn.seq_tail ?_; intro w2 hS
                                obtain ⟨t1, t2, t3⟩ := HT6.out _ hS
                                refine Drawn.text_cons (by rfl) ?_; intro K hK; go_simp; refine hK _ _ (Drawn.text_nil ?_); clear hK K
                                have hh := FIN.out _ false (by unfold Fe.frz; rw [decide_eq_false (show ¬ mo = 0 by omega), decide_eq_false (show ¬ 0 < z - y by omega), k2]; simp) hS
                                clear hS t1 t2 t3
                                go_wp2
                                go_roundw
                                case rel => exact ⟨j + 1, by omega, by go_num, hh.1, hh.2.1, hh.2.2.1, hh.2.2.2.1, hh.2.2.2.2.1, hh.2.2.2.2.2⟩
                                case measure => simp [intOf]; omega
                          · obtain rfl : p = j := by omega
                            have hmid : ∀ i, i < k → Fe.midr S R p i = R i := fun i hi => by
                              have h := Fe.midr_all (n := k) HRS.out hi
                              rw [HPK.out] at h
                              exact h
                            rw [bRow_same (G := fun i => (R i).f) (fun i hi => by rw [hmid i hi])] at hF
                            rw [iRow_same (G := fun i => (R i).z) (fun i hi => by rw [hmid i hi])] at hA
                            have hless := Fe.round_less true room (S := S) (n := k) (by rw [HPK.out]; exact h0)
                            rw [HRT.out, HRE.out, HPK.out] at hless
                            have HLR := Lib.hid (looseB_row hF)
                            go_wp2
                            go_roundw
                            case rel => exact ⟨m + 1, by rw [HRm.out, HRT.out, HRE.out]; omega, by rw [HRm.out, HRT.out, HRE.out]; exact hF, by rw [HRm.out, HRT.out, HRE.out]; exact hA, hX, hB⟩
                            case measure =>
                              show looseB _ Fb k < looseB _ Fb k
                              rw [HLR.out, HLO.out]
                              exact hless
                  | false =>
                    exact absurd HGT.out (by simp)
end Go.Proofs.Ytefofdjkinbfgaa.Fix
