/- The contract of rowOf of the layer flex: items laid in a row, and those that stay frozen. -/
import Derived.Test.YtefofdjkinbfgaaFlexItems
namespace Go.Proofs.Ytefofdjkinbfgaa.Fix
open Go.ChangeShapes Go.WideShapes Go.ChangeAt Go.RowKit Go.Shelf
set_option linter.unusedVariables false
attribute [local go_sem] Oper.semAt_some

set_option maxRecDepth 100000 in
set_option maxHeartbeats 4000000 in
theorem rowOf_any (A : Option Addr) (l : Nat → Fe.It) (n c : Nat) (room : Int) (w : World) (hI : Items w A l n) (hn : n ≤ 64) (hr : 0 ≤ room ∧ room ≤ 67108864) :
    Calls Try.prog 22 #[.slice A n c, .int .i64 room] w fun e w' => (∃ R I, e = .returned (.pointer (some ⟨R, 0, none⟩)) ∧ w.heap.size ≤ I ∧ RowW w' R I n room (Fe.gro l n room) (Fe.begun (Fe.gro l n room) l)) ∧ Below w.heap.size w w' := by
  have hmf : ∀ (fn : Fn) (first cap : Array Value) (w : World), (Instr.makeFunc fn first cap).run Try.prog w = .ok (.func fn first cap) w := fun _ _ _ _ => rfl
  obtain ⟨i0, hi0, hz0, hz1, hz2⟩ := info_parts sizedInfo
  have HI := Lib.hid hI
  clear hI
  have hrun := run_make (P := Try.prog) w 52 56 i0 _ Try.underlying52 hi0 hz0 .i64 .i64 n n (by omega) (Int.le_refl _) (by rw [hz2]; omega) (by omega)
  rw [hz1, Int.toNat_natCast] at hrun
  simp only [Value.cells] at hrun
  have HRUN := Lib.hid hrun
  clear hrun
  refine (callsIn_wide (n := 5)).1 ?_
  refine callsIn_of_wp_marks Try.func22 rfl trivial ?_ rfl
  simp only [Try.ntmps22, List.size_toArray, List.length_cons, List.length_nil, Nat.reduceAdd, Nat.reduceSub, Array.replicate_succ, Array.replicate_zero, List.push_toArray, List.append_toArray, List.nil_append, List.cons_append]
  gi_upto_region 2 with (refine wpListIn_make_struct _ rfl (by rfl) _ _ 52 rfl HRUN.out ?_)
  obtain ⟨W0, hA1, hRW, hB, hsz, hW⟩ : ∃ W0, At W0 (w.heap.size + 1 + 1) (.cells #[.pointer (some ⟨w.heap.size + 1, 0, none⟩)] 46) ∧ RowW W0 (w.heap.size + 1) w.heap.size n room false (fun _ => zeroSt) ∧ Below w.heap.size w W0 ∧ W0.heap.size = w.heap.size + 3 ∧
      (((w.alloc (.cells (madeCells #[.int .i64 0, .int .i64 0, .int .i64 0, .int .i64 0, .int .i64 0, .int .i64 0, .int .i64 0, .bool false] (n * 8)) 56)).alloc (.cells #[.slice (some ⟨w.heap.size, 0, none⟩) n n, .int .i64 room, .int .i64 (-1)] 54)).alloc (.cells #[.pointer (some ⟨w.heap.size + 1, 0, none⟩)] 46)) = W0 :=
    ⟨_, At.new' _ (by simp), ⟨(At.new' (.cells #[.slice (some ⟨w.heap.size, 0, none⟩) n n, .int .i64 room, .int .i64 (-1)] 54) (by simp)).alloc _, ((blk_made w n).alloc _).alloc _⟩, Below.alloc' (Below.alloc' (Below.alloc' (Below.refl _ _) _) _) _, by simp, rfl⟩
  rw [hW]
  clear hW HRUN hi0 hz0 hz1 hz2 i0
  gi_wp2
  gi_loopw [6, 20] (fun s i wr => ∃ k : Nat, k ≤ n ∧ i = .int .i64 k ∧ s = .int .i64 (Fe.sumz l k) ∧ RowW wr (w.heap.size + 1) w.heap.size n room false (mix (fun _ => zeroSt) (Fe.fresh l) k) ∧ At wr (w.heap.size + 1 + 1) (.cells #[.pointer (some ⟨w.heap.size + 1, 0, none⟩)] 46) ∧ Below w.heap.size w wr) (fun _ i _ => n - (intOf i).toNat)
  case atStart => exact ⟨0, by omega, rfl, rfl, by rw [mix_zero]; exact hRW, hA1, hB⟩
  case round =>
    obtain ⟨k, hk, rfl, rfl, hR, hA, hB⟩ := hrel
    have hwr := hB.size
    have hR1 := hR.1.lt
    have hA1 := hA.lt
    by_cases hlt : k < n
    · have hltz : (k : Int) < (n : Int) := by omega
      obtain ⟨b, off, rfl, hbl, hc⟩ := (HI.out.after hB) (by omega)
      obtain ⟨c0, c1, c2, c3, c4⟩ := hc k hlt
      clear hc
      obtain ⟨s1, s2⟩ := sumz_bd l k
      obtain ⟨k1, k2⟩ := Fe.clamp_bd (l k) (Fe.cnt (l k)).b
      have HZ : Hid (Fe.sumz l (k + 1) = Fe.sumz l k + Fe.clamp (l k) (Fe.cnt (l k)).b) := Lib.hid rfl
      have HF : Hid (Fe.fresh l k = ⟨Fe.cnt (l k), Fe.clamp (l k) (Fe.cnt (l k)).b, 0, false⟩) := Lib.hid rfl
      have HCC := Lib.hid (Fe.clamp_cnt (l k) (Fe.cnt (l k)).b)
      generalize hl9 : l k = x at *
      have HX := Lib.hid hl9
      clear hl9
      generalize hcx : Fe.cnt x = y at *
      have HY := Lib.hid hcx
      clear hcx
      generalize hz : Fe.clamp x y.b = z at *
      clear hz
      obtain ⟨x0, x1, x2, x3, x4⟩ := x
      obtain ⟨y0, y1, y2, y3, y4⟩ := y
      dsimp only at c0 c1 c2 c3 c4 HCC
      generalize Fe.sumz l k = u at *
      gi_upto_region 6 with (fail)
      obtain ⟨W1, hA9, hb, hs1, hW⟩ : ∃ W1, At W1 wr.heap.size (.cells #[.int .i64 x0, .int .i64 x1, .int .i64 x2, .int .i64 x3, .int .i64 x4] 28) ∧ Below wr.heap.size wr W1 ∧ wr.heap.size < W1.heap.size ∧
          wr.alloc (.cells #[.int .i64 x0, .int .i64 x1, .int .i64 x2, .int .i64 x3, .int .i64 x4] 28) = W1 := ⟨_, At.new _ _, Below.alloc' (Below.refl _ _) _, by simp, rfl⟩
      rw [hW]
      clear hW c0 c1 c2 c3 c4
      generalize hX9 : wr.heap.size = X at *
      obtain ⟨l9, a0, a1, a2, a3, a4⟩ := hA9.five
      gi_upto_region 7 with (refine ⟨trivial, ?_⟩; gi_at_call 19; refine (callsIn_wide.2 (counted5 x0 x1 x2 x3 x4 _)).mono ?_; rintro e w2 ⟨rfl, hb2⟩; rw [HY.out]; simp only [enc]; clear l9 a0 a1 a2 a3 a4; replace hb := Below.trans hb (hb2.mono (by omega)); replace hA9 := hA9.keep hb2; clear hb2; obtain ⟨l9, a0, a1, a2, a3, a4⟩ := hA9.five; have z0 := hA9.thaw 0; have z1 := hA9.thaw 1; have z2 := hA9.thaw 2; have z3 := hA9.thaw 3; have z4 := hA9.thaw 4)
      replace hA9 := hA9.put5 (.int .i64 y0) (.int .i64 y1) (.int .i64 y2) (.int .i64 y3) (.int .i64 y4)
      replace hb := Below.put5 hb (Nat.le_refl X) (.int .i64 y0) (.int .i64 y1) (.int .i64 y2) (.int .i64 y3) (.int .i64 y4)
      clear l9 a0 a1 a2 a3 a4 z0 z1 z2 z3 z4
      generalize World.setCell _ _ _ = W2 at *
      obtain ⟨l9, a0, a1, a2, a3, a4⟩ := hA9.five
      gi_upto_region 8 with (refine ⟨trivial, ?_⟩; gi_at_call 12; refine (callsIn_wide.2 (xclamp5 y0 y1 y2 y3 y4 y0 _)).mono ?_; rintro e w3 ⟨rfl, hb3⟩; rw [HCC.out]; replace hb := Below.trans hb (hb3.mono (by omega)); clear l9 a0 a1 a2 a3 a4; replace hA9 := hA9.keep hb3; clear hb3; obtain ⟨l9, a0, a1, a2, a3, a4⟩ := hA9.five)
      have hRw := hR.keep (hX9 ▸ hb)
      have hAw := hA.keep (hX9 ▸ hb)
      have hBw := Below.trans hB (hb.mono (by omega))
      obtain ⟨g0, r0, -, -⟩ := hRw.cells
      have cB : _ = some (Value.pointer (some ⟨w.heap.size + 1, 0, none⟩)) := hAw.cell 0
      have gB := hAw.lt
      have gI := hRw.2.lt
      refine wpIn_wide.2 ?_
      refine Drawn.wp_region_tail 9 1 (Below.refl _ _) (by kernel_rfl) (by kernel_rfl) rfl (by kernel_rfl) (by kernel_rfl) ?_
      (repeat (first | (refine Drawn.seq_skip (by rfl) ?_; (try simp only [Act.put, List.setIfInBounds_toArray, List.set_cons_zero, List.set_cons_succ])) | (refine Drawn.seq_call (o := ⟨_, .call ⟨.value _, _, _⟩, _, _, _, _⟩) (by rfl) (by intro w2 hS; go_simp; first | done | with_reducible rfl | exact ⟨rfl, rfl⟩) (by intro w2 hS; first | ((with_reducible refine (cut_any _ _).mono ?_); rintro e w' ⟨rfl, rfl⟩; exact ⟨rfl, hS⟩)) ?_; (try simp only [Act.put, List.setIfInBounds_toArray, List.set_cons_zero, List.set_cons_succ])) | (refine Drawn.seq_value (by rfl) (by intro w2 hS; obtain ⟨hc, hf⟩ := bcell hS; go_simp; first | done | with_reducible rfl | exact ⟨rfl, rfl⟩) ?_; (try simp only [Act.put, List.setIfInBounds_toArray, List.set_cons_zero, List.set_cons_succ]))))
      refine Drawn.seq_tail ?_; intro w2 hS
      have hR5 := hRw.keep hS
      have hA5 := hAw.keep hS
      have hB5 := Below.after2 hBw (Nat.le_refl _) hS
      have h95 := hA9.keep hS
      obtain ⟨gI5, e0, e1, e2, e3, e4, e5, e6, e7⟩ := hR5.2.fields hlt
      have t0 := hR5.2.thaw (k * 8)
      have t1 := hR5.2.thaw (k * 8 + 1)
      have t2 := hR5.2.thaw (k * 8 + 2)
      have t3 := hR5.2.thaw (k * 8 + 3)
      have t4 := hR5.2.thaw (k * 8 + 4)
      have t5 := hR5.2.thaw (k * 8 + 5)
      have t6 := hR5.2.thaw (k * 8 + 6)
      have t7 := hR5.2.thaw (k * 8 + 7)
      refine Drawn.text_cons (by rfl) ?_; intro K hK; go_simp; refine hK _ _ (Drawn.text_nil ?_); clear hK K
      have hR6 := hR5.put8 hlt y0 y1 y2 y3 y4 z HF.out
      have hA6 := hA5.off8 (I := w.heap.size) (k := k) (by omega) y0 y1 y2 y3 y4 z
      have hB6 := Below.put8 (I := w.heap.size) (k := k) hB5 (Nat.le_refl _) y0 y1 y2 y3 y4 z
      clear hR hA hB hRw hAw hBw hR5 hA5 hB5 h95 hA9 hb hS r0 cB e0 e1 e2 e3 e4 e5 e6 e7 t0 t1 t2 t3 t4 t5 t6 t7 l9 a0 a1 a2 a3 a4
      first | generalize World.setCell _ _ _ = W6 at * | (trace_state; fail)
      gi_wp2
      go_roundw
      case rel => exact ⟨k + 1, by omega, by go_num, by rw [HZ.out], hR6, hA6, hB6⟩
      case measure => simp [intOf]; omega
    · have hltz : ¬ (k : Int) < (n : Int) := by omega
      obtain rfl : k = n := by omega
      have hR2 : RowW wr (w.heap.size + 1) w.heap.size k room false (Fe.fresh l) := ⟨hR.1, hR.2.same (mix_all _ _ _)⟩
      have hne := hR.ne
      obtain ⟨g0, -, -, c2⟩ := hR2.cells
      have z2 := hR2.1.thaw 2
      clear hR
      refine (Decidable.em (Fe.sumz l k < room)).elim (fun hg => ?_) (fun hg => ?_)
      all_goals
        first
          | have HG : Hid (Fe.gro l k room = true) := Lib.hid (decide_eq_true hg)
          | have HG : Hid (Fe.gro l k room = false) := Lib.hid (decide_eq_false hg)
        have cB : wr.cell? ⟨w.heap.size + 1 + 1, 0, none⟩ = some (.pointer (some ⟨w.heap.size + 1, 0, none⟩)) := hA.cell 0
        gi_wp2
        first
          | (obtain ⟨W7, hR7, hA7, hB7, hW⟩ : ∃ W7, RowW W7 (w.heap.size + 1) w.heap.size k room (Fe.gro l k room) (Fe.fresh l) ∧ At W7 (w.heap.size + 1 + 1) (.cells #[.pointer (some ⟨w.heap.size + 1, 0, none⟩)] 46) ∧ Below w.heap.size w W7 ∧ wr.setCell ⟨w.heap.size + 1, 2, none⟩ (.int .i64 1) = W7 :=
              ⟨_, by rw [HG.out]; exact ⟨hR2.1.set 2 _, hR2.2.off (by omega) _⟩, hA.off (by omega) _ _, Below.setCell hB (by simp) _, rfl⟩
             rw [hW]
             clear hW)
          | (obtain ⟨W7, hR7, hA7, hB7, hW⟩ : ∃ W7, RowW W7 (w.heap.size + 1) w.heap.size k room (Fe.gro l k room) (Fe.fresh l) ∧ At W7 (w.heap.size + 1 + 1) (.cells #[.pointer (some ⟨w.heap.size + 1, 0, none⟩)] 46) ∧ Below w.heap.size w W7 ∧ wr = W7 :=
              ⟨_, by rw [HG.out]; exact hR2, hA, hB, rfl⟩
             subst hW)
        clear hA1 hR2 z2 c2 hRW HI HG cB hA hB hg hR1 g0 hwr
        have hs7 := hB7.size
        have hI7 := hR7.2.lt
        have hQ7 := hA7.lt
        have hne7 := hR7.ne
        refine range_places (n := 5) (gf := 30) (first := #[.pointer (some ⟨w.heap.size + 1, 0, none⟩)]) (lb := #[]) rfl (enters_of Try.func30 (by kernel_rfl) rfl) k (fun i => (Fe.fresh l i).f) (fun i => #[.int .i64 (Fe.pl (Fe.fresh l) i : Nat), .pointer (some ⟨w.heap.size, i * 8, none⟩)]) (fun _ => rfl)
          (fun i W => RowW W (w.heap.size + 1) w.heap.size k room (Fe.gro l k room) (mix (Fe.fresh l) (Fe.begun (Fe.gro l k room) l) i) ∧ At W (w.heap.size + 1 + 1) (.cells #[.pointer (some ⟨w.heap.size + 1, 0, none⟩)] 46) ∧ Below w.heap.size w W)
          (fun W => False)
          (fun i W r o o' h hr hW hc => ⟨h.1.turn (by omega) (by omega) o, h.2.1.turn (by omega) o, Below.turn h.2.2 (by omega) hW o⟩)
          (fun W r o o' h hr hW _ => h)
          (fun o1 o2 => ⟨by rw [mix_zero]; exact (hR7.alloc o1).alloc o2, (hA7.alloc o1).alloc o2, Below.alloc' (Below.alloc' hB7 o1) o2⟩)
          (fun lp J Jx W hV hs hY hJ => loose_in 4 (w.heap.size + 1) w.heap.size k room (Fe.sg (Fe.gro l k room)) (Fe.fresh l) hn lp J Jx W (fun i W h => (hV i W h).1.mixed) hs hY hJ)
          (fun i W hi hf h => by cases hf)
          (fun i t => ((t.setIfInBounds 52 (.int .i64 (Fe.pl (Fe.fresh l) i : Nat))).setIfInBounds 53 (.pointer (some ⟨w.heap.size, i * 8, none⟩))).setIfInBounds 11 (.pointer (some ⟨w.heap.size, i * 8, none⟩))) ?assign ?body ?done ?stop
        case assign =>
          intro l i W G hi hG
          (simp only [List.setIfInBounds_toArray, List.set_cons_zero, List.set_cons_succ] at hG)
          gi_wp2
          first | exact hG | simpa using hG
        case stop => exact fun D W hD h _ => h.elim
        case body =>
          rintro lp i W hi hf ⟨hR8, hA8, hB8⟩
          have cB : W.cell? ⟨w.heap.size + 1 + 1, 0, none⟩ = some (.pointer (some ⟨w.heap.size + 1, 0, none⟩)) := hA8.cell 0
          have lB := hA8.lt
          have hbd : ((0 ≤ (mix (Fe.fresh l) (Fe.begun (Fe.gro l k room) l) i i).x.b ∧ (mix (Fe.fresh l) (Fe.begun (Fe.gro l k room) l) i i).x.b ≤ 1048576) ∧ 0 ≤ (mix (Fe.fresh l) (Fe.begun (Fe.gro l k room) l) i i).z ∧ (mix (Fe.fresh l) (Fe.begun (Fe.gro l k room) l) i i).z ≤ 1048576) := by
            rw [mix_ge (Nat.le_refl _)]
            obtain ⟨q1, q2, _⟩ := Fe.cnt_bd (l i)
            exact ⟨⟨q1, q2⟩, Fe.clamp_bd (l i) _⟩
          have HST : Hid (Fe.stay (Fe.gro l k room) (mix (Fe.fresh l) (Fe.begun (Fe.gro l k room) l) i i).x (mix (Fe.fresh l) (Fe.begun (Fe.gro l k room) l) i i).z = (Fe.begun (Fe.gro l k room) l i).f) := Lib.hid (by rw [mix_ge (Nat.le_refl _)]; rfl)
          (simp only [List.setIfInBounds_toArray, List.set_cons_zero, List.set_cons_succ])
          gi_wp2_with (refine ⟨trivial, ?_⟩; gi_at_call 31; refine (CallsIn.inRound lp (callsIn_wide.2 (stays_any _ _ k i room _ _ _ hR8 hi hbd))).mono ?_; rintro e w9 ⟨rfl, hb9⟩; rw [HST.out]; have l9 := (hR8.keep hb9).2.lt; obtain ⟨-, -, -, -, -, -, -, -, e7⟩ := (hR8.keep hb9).2.fields hi; have z7 := (hR8.keep hb9).2.thaw (i * 8 + 7))
          have hz9 := hb9.size
          refine ⟨(KeepsFrom.of_below hb9).trans ((KeepsOthers.setCell _ _ _).from _), ⟨(hR8.1.keep hb9).off (by omega) _ _, ?_⟩, (hA8.keep hb9).off (by omega) _ _, Below.setCell (Below.after2 hB8 (by omega) hb9) (Nat.le_refl _) _⟩
          refine (hR8.2.keep hb9).put hi (by omega) ?_ ?_ ?_
          · rw [mix_at]; simp [fld]
          · intro q hq hqn
            rw [mix_at, mix_ge (Nat.le_refl _)]
            unfold fld
            (repeat' split) <;> first | rfl | omega
          · intro j hj hjn; rw [mix_off _ _ hjn]
        case done =>
          rintro D W hD ⟨hR8, hA8, hB8⟩ hK
          have cB : W.cell? ⟨w.heap.size + 1 + 1, 0, none⟩ = some (.pointer (some ⟨w.heap.size + 1, 0, none⟩)) := hA8.cell 0
          have lB := hA8.lt
          gi_wp2
          refine ⟨by simp, .inl ⟨_, _, rfl, run_takeDeferred hK, ?_⟩⟩
          exact ⟨_, results_tmp rfl _ _ _, ⟨w.heap.size + 1, w.heap.size, rfl, Nat.le_refl _, ⟨(hR8.turn (by omega) (by omega) _).1, (hR8.turn (by omega) (by omega) _).2.same (mix_all _ _ _)⟩⟩, Below.turn hB8 (by omega) hK _⟩

end Go.Proofs.Ytefofdjkinbfgaa.Fix
