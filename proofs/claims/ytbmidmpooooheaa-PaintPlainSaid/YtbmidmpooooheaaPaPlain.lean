/- The statement PaintPlain, walked. -/
import Derived.Test.YtbmidmpooooheaaPaMore
namespace Go.Proofs.Ytbmidmpooooheaa.Fix
open Go.ChangeShapes Go.WideShapes Go.ChangeAt Go.RowKit Go.Deep Go.Joins
set_option linter.unusedVariables false
set_option linter.unusedSimpArgs false
set_option maxRecDepth 100000

theorem run_append_opP {P : Program} {w w' : World} {o : Oper} {a : Act} (s x : Operand) (t : TypeId) (ho : o.op = .call { callee := .builtin .append, args := #[s, x], argTypes := #[t, t] }) {v u v' : Value} (hs : a.eval s = v) (hx : a.eval x = u)
    (hrun : (Builtin.append_ #[t, t] o.type #[v, u]).run P w = .ok v' w') : (execOp a.eval o).run P w = .ok (.value v') w' := by
  unfold execOp
  simp only [ho, resolve, invoke, builtin, Sem.run_bind, Sem.run_pure, Result.andThen_ok, List.map_toArray, List.map_cons, List.map_nil, hs, hx, hrun]
theorem pown_below {W w : World} {base : Nat} {e : TypeId} {sz : Nat} {v : Value} {k : Nat} {xs : List Value} (h : W.ownsRow base e sz v k xs) (hb : Below W.heap.size W w) : w.ownsRow base e sz v k xs :=
  h.kept (show W.grownBy w none from ⟨hb.os, hb.tape, hb.output, hb.size, fun k hk _ => hb.block k hk⟩) (by cases hv : v.ownBlock with
    | none => exact .inl rfl
    | some b => exact .inr (by simp))

theorem psl_own0 {w : World} {base : Nat} {v : Value} {n : Nat} {l : Nat → PNd} (h : w.ownsRow base 39 3 v n (flatPN l n)) : ∃ A c, v = .slice A n c ∧ PSl w A l n c := by
  obtain ⟨A, c, rfl, hN⟩ := pnodes_of_own h
  rcases h.2 with ⟨e, q⟩ | ⟨g, cap, cur, e, _, _, h1, h2, _⟩
  · injection e with e1 e2 e3
    subst e1 e3
    exact ⟨_, _, rfl, hN, by omega, by simp [maxLen], fun _ => rfl⟩
  · injection e with e1 e2 e3
    subst e1 e3
    exact ⟨_, _, rfl, hN, h1, h2, fun e => by cases e⟩
theorem pints_range {n k : Nat} (h : k < n) : (pints (List.range n)).getD k 0 = (k : Int) := by simp [pints, List.getD, h]

/-- the same nodes, none a layer -/
def pflat (l : Nat → PNd) (i : Nat) : PNd := ⟨(l i).up, false, (l i).z⟩
theorem pch_flat {l : Nat → PNd} {u a : Int} : PCh l u a ↔ PCh (pflat l) u a := by
  constructor
  · intro h
    induction h with
    | refl => exact .refl
    | step h0 _ ih => exact .step h0 ih
  · intro h
    induction h with
    | refl => exact .refl
    | step h0 _ ih => exact .step h0 ih
theorem pv_flat {l : Nat → PNd} {n : Nat} (h : PV l n) : PV (pflat l) n := fun i hi => ⟨(h i hi).1, fun h0 => ⟨((h i hi).2 h0).1, ((h i hi).2 h0).2.1, pch_flat.1 ((h i hi).2 h0).2.2⟩⟩
theorem pord_flat {l : Nat → PNd} {n : Nat} (h : PV l n) : pord (pflat l) n = List.range n := by
  rw [pord_some (pv_flat h)]
  exact Pa.order_plain (pv_flat h).ok fun i => rfl
theorem pbuild2 (W : World) (a z : Int) : (Instr.build 39 #[(0, .int .i64 a), (2, .int .i64 z)]).run Try.prog W = .ok (.agg #[.int .i64 a, .bool false, .int .i64 z]) W := by kernel_rfl
theorem reads_pbuild {ops : Array Oper} {S : World → Prop} {o : Oper} {a : Act} (ps : Array (Nat × Operand)) (ho : o.op = .build 39 ps) {v : Value} (qs : Array (Nat × Value)) (hq : (ps.map fun p => (p.1, a.eval p.2)) = qs) (hrun : ∀ w, (Instr.build 39 qs).run Try.prog w = .ok v w) (hw : Region.wanted o (yielded ops a.tmps) = true) : Drawn.Reads Try.prog ops S o v a :=
  .inl ⟨hw, fun w _ => by unfold execOp; simp only [ho, hq, Sem.run_bind, hrun w, Result.andThen_ok, Sem.run_pure]⟩
theorem val_pslice {o : Oper} {a : Act} {w w' : World} (n : Nat) (ps : Array (Nat × Operand)) (ho : o.op = .buildSlice 22 n ps) {v : Value} (qs : Array (Nat × Value)) (hq : (ps.map fun p => (p.1, a.eval p.2)) = qs) (hrun : (Instr.buildSlice 22 n qs).run Try.prog w = .ok v w') : (execOp a.eval o).run Try.prog w = .ok (.value v) w' := by
  unfold execOp; simp only [ho, hq, Sem.run_bind, hrun, Result.andThen_ok, Sem.run_pure]

set_option maxHeartbeats 16000000 in
theorem paplain_walk (C : PaintCode) (a0 : Option Addr) (len0 cap0 : Nat) (a1 a2 : Int) (w : World) (w0 : PRow w a0 len0 cap0) : Calls Try.prog 6 #[.slice a0 len0 cap0, .int .i64 a1, .int .i64 a2] w fun e w' => e = .returned (.bool true) ∧ Below w.heap.size w w' := by
  obtain ⟨l, hS⟩ := w0.sl
  have hn63 := w0.cap
  clear w0
  generalize len0 = n at *
  generalize cap0 = c at *
  have HS := Lib.hid hS
  clear hS
  by_cases hbig : (40 : Int) < (n : Int)
  · go_enter Try.func6, Try.ntmps6
    go_wp2_with (first | (go_at_call 10; (with_reducible refine (paworks_any C _).mono ?_); rintro e w1 ⟨rfl, hB⟩) | (go_at_call 17; (with_reducible refine (C.valid _ _ l n c (HS.out.after hB) hn50).mono ?_); rintro e w1 ⟨rfl, hb⟩; replace hB := hB.trans (hb.mono hB.size); clear hb))
    go_ret; exact ⟨rfl, hB⟩
  have hn50 : n ≤ 50 := by omega
  cases hv : pvB l n with
  | false =>
    go_enter Try.func6, Try.ntmps6
    go_wp2_with (first | (go_at_call 10; (with_reducible refine (paworks_any C _).mono ?_); rintro e w1 ⟨rfl, hB⟩) | (go_at_call 17; (with_reducible refine (C.valid _ _ l n c (HS.out.after hB) hn50).mono ?_); rintro e w1 ⟨rfl, hb⟩; replace hB := hB.trans (hb.mono hB.size); clear hb))
    go_ret; exact ⟨rfl, hB⟩
  | true =>
  have HV := Lib.hid (pvB_iff.1 hv)
  go_enter Try.func6, Try.ntmps6
  go_upto_region 6 with (first | (go_at_call 10; (with_reducible refine (paworks_any C _).mono ?_); rintro e w1 ⟨rfl, hB⟩) | (go_at_call 17; (with_reducible refine (C.valid _ _ l n c (HS.out.after hB) hn50).mono ?_); rintro e w1 ⟨rfl, hb⟩; replace hB := hB.trans (hb.mono hB.size); clear hb))
  have HB := Lib.hid hB
  clear hB
  go_wp2
  go_loopw [8, 9] (fun v iv wr => ∃ k : Nat, k ≤ n ∧ iv = .int .i64 (k : Int) ∧ wr.ownsRow w1.heap.size 39 3 v k (flatPN (pflat l) k) ∧ Below w1.heap.size w1 wr) (fun _ iv _ => n - (intOf iv).toNat)
  case atStart => exact ⟨0, by omega, rfl, World.ownsRow_nil _ _ _ _, Below.refl _ _⟩
  case round =>
    obtain ⟨k, hk, rfl, hown, hB⟩ := hrel
    by_cases hlt : k < n
    · have hltz : (k : Int) < (n : Int) := by omega
      obtain ⟨b, o, rfl, hc⟩ := HS.out.nodes.some (by omega)
      have HC : Hid (∀ W, Below w1.heap.size w1 W → W.cell? ⟨b, o + k * 3, none⟩ = some (.int .i64 (l k).up) ∧ W.cell? ⟨b, o + k * 3 + 2, none⟩ = some (.int .i64 (l k).z)) := Lib.hid fun W hb => ⟨(hc W (HB.out.trans (hb.mono HB.out.size)) k hlt).1, (hc W (HB.out.trans (hb.mono HB.out.size)) k hlt).2.2⟩
      clear hc
      have hsz := hB.size
      have hown1 := pown_below hown (w := wr.drew) (Below.refl _ _).drew
      obtain ⟨v', w', hrun, hown2, hB2, hb2⟩ := append_pnode (l := pflat l) hown1 hB.drew (by exact hsz) (by omega)
      have HO := Lib.hid hown2
      have HB2 := Lib.hid hB2
      have hrun' : (Builtin.append_ #[22, 22] 22 #[u8, .slice (some ⟨wr.drew.heap.size, 0, none⟩) 1 1]).run Try.prog (wr.drew.alloc (.cells #[.int .i64 (l k).up, .bool false, .int .i64 (l k).z] 39)) = .ok v' w' := hrun
      have HRUN := Lib.hid hrun'
      clear hrun hrun' hown hown1 hown2 hB2
      obtain ⟨c0, c2⟩ := HC.out _ hB.drew
      generalize (l k).up = x0 at *
      generalize (l k).z = x2 at *
      go_upto_region 10 with (fail)
      refine Drawn.wp_region_gen (S := (fun W' => W'.cell? ⟨b, o + k * 3, none⟩ = some (.int .i64 x0) ∧ W'.cell? ⟨b, o + k * 3 + 2, none⟩ = some (.int .i64 x2))) 14 (by kernel_rfl) ?_ ?_
      · exact ⟨c0, c2⟩
      intro hS0
      clear c0 c2
      (refine Drawn.gen_take (i := 0) rfl (by kernel_rfl) (by kernel_rfl) (by kernel_rfl) (by kernel_rfl) (by omega) (by first | assumption | exact hS0) (by first | exact .inr ⟨by rfl, rfl⟩ | exact .inl ⟨by rfl, by intro w2 hS; obtain ⟨q0, q2⟩ := hS; go_simp; first | done | with_reducible rfl | exact ⟨rfl, rfl⟩⟩) ?_; (try simp only [Act.put, List.setIfInBounds_toArray, List.set_cons_zero, List.set_cons_succ]))
      (refine Drawn.gen_take (i := 1) rfl (by kernel_rfl) (by kernel_rfl) (by kernel_rfl) (by kernel_rfl) (by omega) (by first | assumption | exact hS0) (by first | exact .inr ⟨by rfl, rfl⟩ | exact .inl ⟨by rfl, by intro w2 hS; obtain ⟨q0, q2⟩ := hS; go_simp; first | done | with_reducible rfl | exact ⟨rfl, rfl⟩⟩) ?_; (try simp only [Act.put, List.setIfInBounds_toArray, List.set_cons_zero, List.set_cons_succ]))
      (refine Drawn.gen_take (i := 2) rfl (by kernel_rfl) (by kernel_rfl) (by kernel_rfl) (by kernel_rfl) (by omega) (by first | assumption | exact hS0) (by first | exact .inr ⟨by rfl, rfl⟩ | exact .inl ⟨by rfl, by intro w2 hS; obtain ⟨q0, q2⟩ := hS; go_simp; first | done | with_reducible rfl | exact ⟨rfl, rfl⟩⟩) ?_; (try simp only [Act.put, List.setIfInBounds_toArray, List.set_cons_zero, List.set_cons_succ]))
      (refine Drawn.gen_take (i := 3) rfl (by kernel_rfl) (by kernel_rfl) (by kernel_rfl) (by kernel_rfl) (by omega) (by first | assumption | exact hS0) (by first | exact .inr ⟨by rfl, rfl⟩ | exact .inl ⟨by rfl, by intro w2 hS; obtain ⟨q0, q2⟩ := hS; go_simp; first | done | with_reducible rfl | exact ⟨rfl, rfl⟩⟩) ?_; (try simp only [Act.put, List.setIfInBounds_toArray, List.set_cons_zero, List.set_cons_succ]))
      (refine Drawn.gen_take (i := 4) rfl (by kernel_rfl) (by kernel_rfl) (by kernel_rfl) (by kernel_rfl) (by omega) (by first | assumption | exact hS0) (by first | exact .inr ⟨by rfl, rfl⟩ | exact .inl ⟨by rfl, by intro w2 hS; obtain ⟨q0, q2⟩ := hS; go_simp; first | done | with_reducible rfl | exact ⟨rfl, rfl⟩⟩) ?_; (try simp only [Act.put, List.setIfInBounds_toArray, List.set_cons_zero, List.set_cons_succ]))
      (refine Drawn.gen_take (i := 5) rfl (by kernel_rfl) (by kernel_rfl) (by kernel_rfl) (by kernel_rfl) (by omega) (by first | assumption | exact hS0) (by first | exact .inr ⟨by rfl, rfl⟩ | exact .inl ⟨by rfl, by intro w2 hS; obtain ⟨q0, q2⟩ := hS; go_simp; first | done | with_reducible rfl | exact ⟨rfl, rfl⟩⟩) ?_; (try simp only [Act.put, List.setIfInBounds_toArray, List.set_cons_zero, List.set_cons_succ]))
      (refine Drawn.gen_take (i := 6) rfl (by kernel_rfl) (by kernel_rfl) (by kernel_rfl) (by kernel_rfl) (by omega) (by first | assumption | exact hS0) (by first | exact .inr ⟨by rfl, rfl⟩ | exact .inl ⟨by rfl, by intro w2 hS; obtain ⟨q0, q2⟩ := hS; go_simp; first | done | with_reducible rfl | exact ⟨rfl, rfl⟩⟩) ?_; (try simp only [Act.put, List.setIfInBounds_toArray, List.set_cons_zero, List.set_cons_succ]))
      (refine Drawn.gen_take (i := 7) rfl (by kernel_rfl) (by kernel_rfl) (by kernel_rfl) (by kernel_rfl) (by omega) (by first | assumption | exact hS0) (by first | exact .inr ⟨by rfl, rfl⟩ | exact .inl ⟨by rfl, by intro w2 hS; obtain ⟨q0, q2⟩ := hS; go_simp; first | done | with_reducible rfl | exact ⟨rfl, rfl⟩⟩) ?_; (try simp only [Act.put, List.setIfInBounds_toArray, List.set_cons_zero, List.set_cons_succ]))
      (refine Drawn.gen_take (i := 8) rfl (by kernel_rfl) (by kernel_rfl) (by kernel_rfl) (by kernel_rfl) (by omega) (by first | assumption | exact hS0) (by first | exact .inr ⟨by rfl, rfl⟩ | exact .inl ⟨by rfl, by intro w2 hS; obtain ⟨q0, q2⟩ := hS; go_simp; first | done | with_reducible rfl | exact ⟨rfl, rfl⟩⟩) ?_; (try simp only [Act.put, List.setIfInBounds_toArray, List.set_cons_zero, List.set_cons_succ]))
      (refine Drawn.gen_take (i := 9) rfl (by kernel_rfl) (by kernel_rfl) (by kernel_rfl) (by kernel_rfl) (by omega) (by first | assumption | exact hS0) (by first | exact .inr ⟨by rfl, rfl⟩ | exact .inl ⟨by rfl, by intro w2 hS; obtain ⟨q0, q2⟩ := hS; go_simp; first | done | with_reducible rfl | exact ⟨rfl, rfl⟩⟩) ?_; (try simp only [Act.put, List.setIfInBounds_toArray, List.set_cons_zero, List.set_cons_succ]))
      (refine Drawn.gen_take (i := 10) rfl (by kernel_rfl) (by kernel_rfl) (by kernel_rfl) (by kernel_rfl) (by omega) (by first | assumption | exact hS0) (by first | exact .inr ⟨by rfl, rfl⟩ | exact .inl ⟨by rfl, by intro w2 hS; obtain ⟨q0, q2⟩ := hS; go_simp; first | done | with_reducible rfl | exact ⟨rfl, rfl⟩⟩) ?_; (try simp only [Act.put, List.setIfInBounds_toArray, List.set_cons_zero, List.set_cons_succ]))
      (refine Drawn.gen_take (i := 11) rfl (by kernel_rfl) (by kernel_rfl) (by kernel_rfl) (by kernel_rfl) (by omega) (by assumption) (reads_pbuild _ rfl _ (by simp only [List.map_toArray, List.map_cons, List.map_nil]; rfl) (fun W => pbuild2 W _ _) (by rfl)) ?_; (try simp only [Act.put, List.setIfInBounds_toArray, List.set_cons_zero, List.set_cons_succ]))
      refine Drawn.gen_one (i := 12) (by kernel_rfl) rfl (by rfl) ?_
      refine Drawn.Step.value (val_pslice 1 _ rfl _ (by simp only [List.map_toArray, List.map_cons, List.map_nil]; rfl) (pslice1 _ _ _ _)) ⟨fun _ => ?_, ?_⟩
      · exact HC.out _ (Below.alloc' hB.drew _)
      (try simp only [Act.put, List.setIfInBounds_toArray, List.set_cons_zero, List.set_cons_succ])
      refine Drawn.gen_one (i := 13) (by kernel_rfl) rfl (by rfl) ?_
      refine Drawn.Step.value (run_append_opP (.tmp 30) (.tmp 42) _ rfl rfl rfl HRUN.out) ⟨fun _ => ?_, ?_⟩
      · exact HC.out _ HB2.out
      (try simp only [Act.put, List.setIfInBounds_toArray, List.set_cons_zero, List.set_cons_succ])
      refine Drawn.gen_one (i := 14) (by kernel_rfl) rfl (by rfl) ?_
      refine Drawn.Step.value (by go_simp; first | done | with_reducible rfl | exact ⟨rfl, rfl⟩) ?_; refine ⟨by first | (intro hlt; exact absurd hlt (by decide)) | (intro _; exact hlt), ?_⟩; (try simp only [Act.put, List.setIfInBounds_toArray, List.set_cons_zero, List.set_cons_succ])
      refine Drawn.gen_end (by kernel_rfl) ?_
      go_wp2
      go_roundw
      case rel => exact ⟨k + 1, by omega, by go_num, HO.out, HB2.out⟩
      case measure => simp [intOf]; omega
    · obtain rfl : k = n := by omega
      have hltz : ¬ (k : Int) < (k : Int) := by omega
      obtain ⟨A3, c3, rfl, hs⟩ := psl_own0 hown
      have hB0 := HB.out.trans (hB.mono HB.out.size)
      have kO := C.order wr _ (pflat l) k c3 hs hn50
      rw [pord_flat HV.out, List.length_range] at kO
      have HB0 := Lib.hid hB0
      clear hown hB hs hB0
      go_upto_region 12 with (go_at_call 16; (with_reducible refine kO.mono ?_); rintro e w5 ⟨⟨B, d, rfl, hI⟩, hb5⟩)
      have hB := HB0.out.trans (hb5.mono HB0.out.size)
      have HI := Lib.hid hI
      clear hI kO hb5 HB HB0
      go_wp2
      go_loop [11] (fun iv => ∃ i : Nat, i ≤ k ∧ iv = .int .i64 (i : Int)) (fun iv => k - (intOf iv).toNat)
      case atStart => exact ⟨0, by omega, rfl⟩
      case round =>
        obtain ⟨i, hi, rfl⟩ := hrel
        by_cases hil : i < k
        · have hilz : (i : Int) < (k : Int) := by omega
          obtain ⟨b6, o6, rfl, lb6, hcell6⟩ := HI.out.at_ (k := i) (by rw [pints_len, List.length_range]; exact hil)
          rw [pints_range hil] at hcell6
          go_wp2
          go_round
          case rel => exact ⟨i + 1, by omega, by go_num⟩
          case measure => simp [intOf]; omega
        · obtain rfl : i = k := by omega
          have hilz : ¬ (i : Int) < (i : Int) := by omega
          clear HI
          by_cases h1 : a1 < 1
          · go_wp2
            go_ret; exact ⟨rfl, hB⟩
          by_cases h2 : a2 ≤ a1
          · go_wp2
            go_ret; exact ⟨rfl, hB⟩
          by_cases h3 : (i : Int) ≤ a2
          · go_wp2
            go_ret; exact ⟨rfl, hB⟩
          obtain ⟨x, rfl⟩ : ∃ x : Nat, a1 = x := ⟨a1.toNat, by omega⟩
          obtain ⟨y, rfl⟩ : ∃ y : Nat, a2 = y := ⟨a2.toNat, by omega⟩
          have hx : x < i := by omega
          have hy : y < i := by omega
          obtain ⟨b, o, rfl, hc⟩ := HS.out.nodes.some (by omega)
          have HC := Lib.hid hc
          clear hc
          obtain ⟨cx0, cx1, cx2⟩ := HC.out _ hB x hx
          obtain ⟨cy0, cy1, cy2⟩ := HC.out _ hB y hy
          clear cx0 cx2 cy0 cy2
          cases hlx : (l x).ly with
          | false =>
            rw [hlx] at cx1
            go_wp2
            go_ret; exact ⟨rfl, hB⟩
          | true =>
          rw [hlx] at cx1
          cases hly : (l y).ly with
          | false =>
            rw [hly] at cy1
            go_wp2
            go_ret; exact ⟨rfl, hB⟩
          | true =>
          rw [hly] at cy1
          have px := playI_some HV.out (i := x) (by omega) hx
          have py := playI_some HV.out (i := y) (by omega) hy
          by_cases hla : pla l x = pla l y
          · have e1 : pbef l i x y = decide ((l x).z ≤ (l y).z) := by
              have := Pa.ah_layers (z := pz l) HV.out.ok (x := x) (y := y) (by omega) (by omega) hy hla hlx hly
              rw [← pord_some HV.out, ← pbef_iff] at this
              cases e : pbef l i x y with
              | true => exact (decide_eq_true (this.1 e)).symm
              | false => refine (decide_eq_false fun q => ?_).symm; rw [this.2 q] at e; cases e
            have E1 := Lib.hid e1
            rw [← hla] at py
            clear e1 hla
            generalize pla l x = m at *
            go_upto_region 19 with (first | (go_at_call 18; (with_reducible refine (C.layer _ _ l i c _ (HS.out.after hB) hn50).mono ?_); rintro e w1 ⟨rfl, hb⟩; replace hB := hB.trans (hb.mono hB.size); clear hb))
            obtain ⟨cx0, cx1, cx2⟩ := HC.out _ hB x hx
            obtain ⟨cy0, cy1, cy2⟩ := HC.out _ hB y hy
            generalize hz1 : (l x).z = z1 at *
            generalize hz2 : (l y).z = z2 at *
            refine Drawn.wp_region_gen (S := (fun W' => W'.cell? ⟨b, o + x * 3 + 2, none⟩ = some (.int .i64 z1) ∧ W'.cell? ⟨b, o + y * 3 + 2, none⟩ = some (.int .i64 z2) ∧ Below w1.heap.size w1 W')) 19 (by kernel_rfl) ?_ ?_
            · exact ⟨cx2, cy2, Below.drew (Below.refl _ _)⟩
            intro hS0
            clear cx0 cx1 cx2 cy0 cy1 cy2
            (refine Drawn.gen_take (i := 0) rfl (by kernel_rfl) (by kernel_rfl) (by kernel_rfl) (by kernel_rfl) (by omega) (by first | assumption | exact hS0) (by first | exact .inr ⟨by rfl, rfl⟩ | exact .inl ⟨by rfl, by intro w2 hS; obtain ⟨ca, cb, hh⟩ := hS; go_simp; first | done | with_reducible rfl | exact ⟨rfl, rfl⟩⟩) ?_; (try simp only [Act.put, List.setIfInBounds_toArray, List.set_cons_zero, List.set_cons_succ]))
            (refine Drawn.gen_take (i := 1) rfl (by kernel_rfl) (by kernel_rfl) (by kernel_rfl) (by kernel_rfl) (by omega) (by first | assumption | exact hS0) (by first | exact .inr ⟨by rfl, rfl⟩ | exact .inl ⟨by rfl, by intro w2 hS; obtain ⟨ca, cb, hh⟩ := hS; go_simp; first | done | with_reducible rfl | exact ⟨rfl, rfl⟩⟩) ?_; (try simp only [Act.put, List.setIfInBounds_toArray, List.set_cons_zero, List.set_cons_succ]))
            (refine Drawn.gen_take (i := 2) rfl (by kernel_rfl) (by kernel_rfl) (by kernel_rfl) (by kernel_rfl) (by omega) (by first | assumption | exact hS0) (by first | exact .inr ⟨by rfl, rfl⟩ | exact .inl ⟨by rfl, by intro w2 hS; obtain ⟨ca, cb, hh⟩ := hS; go_simp; first | done | with_reducible rfl | exact ⟨rfl, rfl⟩⟩) ?_; (try simp only [Act.put, List.setIfInBounds_toArray, List.set_cons_zero, List.set_cons_succ]))
            (refine Drawn.gen_take (i := 3) rfl (by kernel_rfl) (by kernel_rfl) (by kernel_rfl) (by kernel_rfl) (by omega) (by first | assumption | exact hS0) (by first | exact .inr ⟨by rfl, rfl⟩ | exact .inl ⟨by rfl, by intro w2 hS; obtain ⟨ca, cb, hh⟩ := hS; go_simp; first | done | with_reducible rfl | exact ⟨rfl, rfl⟩⟩) ?_; (try simp only [Act.put, List.setIfInBounds_toArray, List.set_cons_zero, List.set_cons_succ]))
            (refine Drawn.gen_take (i := 4) rfl (by kernel_rfl) (by kernel_rfl) (by kernel_rfl) (by kernel_rfl) (by omega) (by first | assumption | exact hS0) (by first | exact .inr ⟨by rfl, rfl⟩ | exact .inl ⟨by rfl, by intro w2 hS; obtain ⟨ca, cb, hh⟩ := hS; go_simp; first | done | with_reducible rfl | exact ⟨rfl, rfl⟩⟩) ?_; (try simp only [Act.put, List.setIfInBounds_toArray, List.set_cons_zero, List.set_cons_succ]))
            (refine Drawn.gen_take (i := 6) rfl (by kernel_rfl) (by kernel_rfl) (by kernel_rfl) (by kernel_rfl) (by omega) (by first | assumption | exact hS0) (by first | exact .inr ⟨by rfl, rfl⟩ | exact .inl ⟨by rfl, by intro w2 hS; obtain ⟨ca, cb, hh⟩ := hS; go_simp; first | done | with_reducible rfl | exact ⟨rfl, rfl⟩⟩) ?_; (try simp only [Act.put, List.setIfInBounds_toArray, List.set_cons_zero, List.set_cons_succ]))
            (refine Drawn.gen_take (i := 7) rfl (by kernel_rfl) (by kernel_rfl) (by kernel_rfl) (by kernel_rfl) (by omega) (by first | assumption | exact hS0) (by first | exact .inr ⟨by rfl, rfl⟩ | exact .inl ⟨by rfl, by intro w2 hS; obtain ⟨ca, cb, hh⟩ := hS; go_simp; first | done | with_reducible rfl | exact ⟨rfl, rfl⟩⟩) ?_; (try simp only [Act.put, List.setIfInBounds_toArray, List.set_cons_zero, List.set_cons_succ]))
            (refine Drawn.gen_take (i := 8) rfl (by kernel_rfl) (by kernel_rfl) (by kernel_rfl) (by kernel_rfl) (by omega) (by first | assumption | exact hS0) (by first | exact .inr ⟨by rfl, rfl⟩ | exact .inl ⟨by rfl, by intro w2 hS; obtain ⟨ca, cb, hh⟩ := hS; go_simp; first | done | with_reducible rfl | exact ⟨rfl, rfl⟩⟩) ?_; (try simp only [Act.put, List.setIfInBounds_toArray, List.set_cons_zero, List.set_cons_succ]))
            (refine Drawn.gen_take (i := 9) rfl (by kernel_rfl) (by kernel_rfl) (by kernel_rfl) (by kernel_rfl) (by omega) (by first | assumption | exact hS0) (by first | exact .inr ⟨by rfl, rfl⟩ | exact .inl ⟨by rfl, by intro w2 hS; obtain ⟨ca, cb, hh⟩ := hS; go_simp; first | done | with_reducible rfl | exact ⟨rfl, rfl⟩⟩) ?_; (try simp only [Act.put, List.setIfInBounds_toArray, List.set_cons_zero, List.set_cons_succ]))
            (refine Drawn.gen_take (i := 10) rfl (by kernel_rfl) (by kernel_rfl) (by kernel_rfl) (by kernel_rfl) (by omega) (by first | assumption | exact hS0) (by first | exact .inr ⟨by rfl, rfl⟩ | exact .inl ⟨by rfl, by intro w2 hS; obtain ⟨ca, cb, hh⟩ := hS; go_simp; first | done | with_reducible rfl | exact ⟨rfl, rfl⟩⟩) ?_; (try simp only [Act.put, List.setIfInBounds_toArray, List.set_cons_zero, List.set_cons_succ]))
            (refine Drawn.gen_take (i := 11) rfl (by kernel_rfl) (by kernel_rfl) (by kernel_rfl) (by kernel_rfl) (by omega) (by first | assumption | exact hS0) (by first | exact .inr ⟨by rfl, rfl⟩ | exact .inl ⟨by rfl, by intro w2 hS; obtain ⟨ca, cb, hh⟩ := hS; go_simp; first | done | with_reducible rfl | exact ⟨rfl, rfl⟩⟩) ?_; (try simp only [Act.put, List.setIfInBounds_toArray, List.set_cons_zero, List.set_cons_succ]))
            (refine Drawn.gen_take (i := 12) rfl (by kernel_rfl) (by kernel_rfl) (by kernel_rfl) (by kernel_rfl) (by omega) (by first | assumption | exact hS0) (by first | exact .inr ⟨by rfl, rfl⟩ | exact .inl ⟨by rfl, by intro w2 hS; obtain ⟨ca, cb, hh⟩ := hS; go_simp; first | done | with_reducible rfl | exact ⟨rfl, rfl⟩⟩) ?_; (try simp only [Act.put, List.setIfInBounds_toArray, List.set_cons_zero, List.set_cons_succ]))
            (refine Drawn.gen_take (i := 13) rfl (by kernel_rfl) (by kernel_rfl) (by kernel_rfl) (by kernel_rfl) (by omega) (by first | assumption | exact hS0) (by first | exact .inr ⟨by rfl, rfl⟩ | exact .inl ⟨by rfl, by intro w2 hS; obtain ⟨ca, cb, hh⟩ := hS; go_simp; first | done | with_reducible rfl | exact ⟨rfl, rfl⟩⟩) ?_; (try simp only [Act.put, List.setIfInBounds_toArray, List.set_cons_zero, List.set_cons_succ]))
            (refine Drawn.gen_take (i := 14) rfl (by kernel_rfl) (by kernel_rfl) (by kernel_rfl) (by kernel_rfl) (by omega) (by first | assumption | exact hS0) (by first | exact .inr ⟨by rfl, rfl⟩ | exact .inl ⟨by rfl, by intro w2 hS; obtain ⟨ca, cb, hh⟩ := hS; go_simp; first | done | with_reducible rfl | exact ⟨rfl, rfl⟩⟩) ?_; (try simp only [Act.put, List.setIfInBounds_toArray, List.set_cons_zero, List.set_cons_succ]))
            (refine Drawn.gen_take (i := 15) rfl (by kernel_rfl) (by kernel_rfl) (by kernel_rfl) (by kernel_rfl) (by omega) (by first | assumption | exact hS0) (by first | exact .inr ⟨by rfl, rfl⟩ | exact .inl ⟨by rfl, by intro w2 hS; obtain ⟨ca, cb, hh⟩ := hS; go_simp; first | done | with_reducible rfl | exact ⟨rfl, rfl⟩⟩) ?_; (try simp only [Act.put, List.setIfInBounds_toArray, List.set_cons_zero, List.set_cons_succ]))
            (refine Drawn.gen_take (i := 16) rfl (by kernel_rfl) (by kernel_rfl) (by kernel_rfl) (by kernel_rfl) (by omega) (by first | assumption | exact hS0) (by first | exact .inr ⟨by rfl, rfl⟩ | exact .inl ⟨by rfl, by intro w2 hS; obtain ⟨ca, cb, hh⟩ := hS; go_simp; first | done | with_reducible rfl | exact ⟨rfl, rfl⟩⟩) ?_; (try simp only [Act.put, List.setIfInBounds_toArray, List.set_cons_zero, List.set_cons_succ]))
            refine Drawn.gen_one (i := 5) (by kernel_rfl) rfl (by rfl) ?_
            refine Drawn.Step.call (by go_simp; first | done | with_reducible rfl | exact ⟨rfl, rfl⟩) (C.before _ _ l i c _ _ (HS.out.after (hB.trans (hS0.2.2.mono hB.size))) hn50) ?_
            rintro e w6 ⟨rfl, hb⟩
            have hS1 := hS0.2.2.trans (hb.mono hS0.2.2.size)
            have hSx := (HC.out _ (hB.trans (hS1.mono hB.size)) x hx).2.2
            have hSy := (HC.out _ (hB.trans (hS1.mono hB.size)) y hy).2.2
            rw [hz1] at hSx
            rw [hz2] at hSy
            replace hS0 := And.intro hSx (And.intro hSy hS1)
            rw [E1.out]
            refine ⟨_, rfl, fun _ => hS0, ?_⟩
            clear hS1 hSx hSy hb
            (try simp only [Act.put, List.setIfInBounds_toArray, List.set_cons_zero, List.set_cons_succ])
            (refine Drawn.gen_take (i := 17) rfl (by kernel_rfl) (by kernel_rfl) (by kernel_rfl) (by kernel_rfl) (by omega) (by first | assumption | exact hS0) (by first | exact .inr ⟨by rfl, rfl⟩ | exact .inl ⟨by rfl, by intro w2 hS; obtain ⟨ca, cb, hh⟩ := hS; go_simp; first | done | with_reducible rfl | exact ⟨rfl, rfl⟩⟩) ?_; (try simp only [Act.put, List.setIfInBounds_toArray, List.set_cons_zero, List.set_cons_succ]))
            (refine Drawn.gen_take (i := 18) rfl (by kernel_rfl) (by kernel_rfl) (by kernel_rfl) (by kernel_rfl) (by omega) (by first | assumption | exact hS0) (by first | exact .inr ⟨by rfl, rfl⟩ | exact .inl ⟨by rfl, by intro w2 hS; obtain ⟨ca, cb, hh⟩ := hS; go_simp; first | done | with_reducible rfl | exact ⟨rfl, rfl⟩⟩) ?_; (try simp only [Act.put, List.setIfInBounds_toArray, List.set_cons_zero, List.set_cons_succ]))
            refine Drawn.gen_one (i := 19) (by kernel_rfl) rfl (by rfl) ?_
            refine Drawn.Step.value (by go_simp; first | done | with_reducible rfl | exact ⟨rfl, rfl⟩) ?_; refine ⟨by first | (intro hlt; exact absurd hlt (by decide)) | (intro _; exact hlt), ?_⟩; (try simp only [Act.put, List.setIfInBounds_toArray, List.set_cons_zero, List.set_cons_succ])
            refine Drawn.gen_end (by kernel_rfl) ?_
            go_wp2
            go_ret
            exact ⟨rfl, hB.trans (hS0.2.2.mono hB.size)⟩
          · have hla2 : ((pla l x : Nat) : Int) ≠ (pla l y : Nat) := by omega
            have hlb : (((pla l x : Nat) : Int) != (pla l y : Nat)) = true := by simpa using hla2
            generalize pla l x = m at *
            generalize pla l y = m2 at *
            go_wp2_with (first | (go_at_call 18; (with_reducible refine (C.layer _ _ l i c _ (HS.out.after hB) hn50).mono ?_); rintro e w1 ⟨rfl, hb⟩; replace hB := hB.trans (hb.mono hB.size); clear hb))
            go_ret; exact ⟨rfl, hB⟩

end Go.Proofs.Ytbmidmpooooheaa.Fix
