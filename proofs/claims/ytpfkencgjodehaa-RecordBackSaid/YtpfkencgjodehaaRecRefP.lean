/- The document's own answer for record: Put. -/
import Derived.Test.YtpfkencgjodehaaRecRefV
namespace Go.Proofs.Ytpfkencgjodehaa.Fix
open Go.ChangeShapes Go.WideShapes Go.ChangeAt Go.RowKit
set_option linter.unusedVariables false

/-- the places of the lengths, in their order -/
def pl : List Nat := [3, 5, 7, 9, 11, 13, 15, 17, 19, 21, 23, 25, 27, 29]
theorem lenVals_snoc (t : Re.St) {l : List Nat} {k p : Nat} (h : l[k]? = some p) : lenVals t (l.take (k + 1)) = lenVals t (l.take k) ++ [.int .i64 (t.c p), .int .i64 (t.c (p + 1))] := by
  rw [List.take_add_one, h]
  simp [lenVals]

theorem recone_of {b : Bool} {z : Int} (hz : z = if b = true then 1 else 0) (w : World) : Calls Try.prog 21 #[.bool b] w fun e w' => e = .returned (.int .i64 z) ∧ w = w' := by
  subst hz; exact recone_any b w

set_option maxHeartbeats 4000000 in
theorem wpList_lens6 {ops : Array Oper} {rest : List Oper} {o : Oper} {a : Act} {Q : Exit → Act → World → Prop} {w : World} (hw : Region.wanted o (yielded ops a.tmps) = true) (x0 x1 x2 x3 x4 x5 : Operand) (ho : o.op = .buildSlice 49 6 #[(0, x0), (1, x1), (2, x2), (3, x3), (4, x4), (5, x5)])
    {y0 z0 y1 z1 y2 z2 y3 z3 y4 z4 y5 z5 : Int} (h0 : a.eval x0 = .agg #[.int .i64 y0, .int .i64 z0]) (h1 : a.eval x1 = .agg #[.int .i64 y1, .int .i64 z1]) (h2 : a.eval x2 = .agg #[.int .i64 y2, .int .i64 z2]) (h3 : a.eval x3 = .agg #[.int .i64 y3, .int .i64 z3]) (h4 : a.eval x4 = .agg #[.int .i64 y4, .int .i64 z4]) (h5 : a.eval x5 = .agg #[.int .i64 y5, .int .i64 z5])
    (h : wpList Try.prog ops Q rest (a.put o.dst (.slice (some ⟨w.heap.size, 0, none⟩) 6 6)) (w.alloc (.cells #[.int .i64 y0, .int .i64 z0, .int .i64 y1, .int .i64 z1, .int .i64 y2, .int .i64 z2, .int .i64 y3, .int .i64 z3, .int .i64 y4, .int .i64 z4, .int .i64 y5, .int .i64 z5] 27))) : wpList Try.prog ops Q (o :: rest) a w := by
  have hrun : (execOp a.eval o).run Try.prog w = .ok (.value (.slice (some ⟨w.heap.size, 0, none⟩) 6 6)) (w.alloc (.cells #[.int .i64 y0, .int .i64 z0, .int .i64 y1, .int .i64 z1, .int .i64 y2, .int .i64 z2, .int .i64 y3, .int .i64 z3, .int .i64 y4, .int .i64 z4, .int .i64 y5, .int .i64 z5] 27)) := by
    unfold execOp
    simp only [ho]
    generalize a.eval = ev at *
    go_simp
  exact wpList_value hw hrun h

set_option maxHeartbeats 4000000 in
theorem wpList_lens8 {ops : Array Oper} {rest : List Oper} {o : Oper} {a : Act} {Q : Exit → Act → World → Prop} {w : World} (hw : Region.wanted o (yielded ops a.tmps) = true) (x0 x1 x2 x3 x4 x5 x6 x7 : Operand) (ho : o.op = .buildSlice 49 8 #[(0, x0), (1, x1), (2, x2), (3, x3), (4, x4), (5, x5), (6, x6), (7, x7)])
    {y0 z0 y1 z1 y2 z2 y3 z3 y4 z4 y5 z5 y6 z6 y7 z7 : Int} (h0 : a.eval x0 = .agg #[.int .i64 y0, .int .i64 z0]) (h1 : a.eval x1 = .agg #[.int .i64 y1, .int .i64 z1]) (h2 : a.eval x2 = .agg #[.int .i64 y2, .int .i64 z2]) (h3 : a.eval x3 = .agg #[.int .i64 y3, .int .i64 z3]) (h4 : a.eval x4 = .agg #[.int .i64 y4, .int .i64 z4]) (h5 : a.eval x5 = .agg #[.int .i64 y5, .int .i64 z5]) (h6 : a.eval x6 = .agg #[.int .i64 y6, .int .i64 z6]) (h7 : a.eval x7 = .agg #[.int .i64 y7, .int .i64 z7])
    (h : wpList Try.prog ops Q rest (a.put o.dst (.slice (some ⟨w.heap.size, 0, none⟩) 8 8)) (w.alloc (.cells #[.int .i64 y0, .int .i64 z0, .int .i64 y1, .int .i64 z1, .int .i64 y2, .int .i64 z2, .int .i64 y3, .int .i64 z3, .int .i64 y4, .int .i64 z4, .int .i64 y5, .int .i64 z5, .int .i64 y6, .int .i64 z6, .int .i64 y7, .int .i64 z7] 27))) : wpList Try.prog ops Q (o :: rest) a w := by
  have hrun : (execOp a.eval o).run Try.prog w = .ok (.value (.slice (some ⟨w.heap.size, 0, none⟩) 8 8)) (w.alloc (.cells #[.int .i64 y0, .int .i64 z0, .int .i64 y1, .int .i64 z1, .int .i64 y2, .int .i64 z2, .int .i64 y3, .int .i64 z3, .int .i64 y4, .int .i64 z4, .int .i64 y5, .int .i64 z5, .int .i64 y6, .int .i64 z6, .int .i64 y7, .int .i64 z7] 27)) := by
    unfold execOp
    simp only [ho]
    generalize a.eval = ev at *
    go_simp
  exact wpList_value hw hrun h

set_option maxRecDepth 100000 in
set_option maxHeartbeats 4000000 in
theorem rrecput_any (t : Re.St) (w : World) : Calls Try.prog 13 #[.agg (cells t)] w fun e w' => (∃ A c, e = .returned (.slice A 55 c) ∧ Ints w' A (Re.putL t)) ∧ Below w.heap.size w w' := by
  obtain ⟨i0, hi0, hz0, hz1, hz2⟩ := info_parts lenInfo
  obtain ⟨g0, gi0, gz0, gz1, gz2⟩ := info_parts intZero
  go_enter Try.func13, Try.ntmps13
  go_upto_region 1 with (fail)
  have hA : At (w.alloc (.cells (cells t) 36)) w.heap.size (.cells (cells t) 36) := At.new _ _
  have hB : Below w.heap.size w (w.alloc (.cells (cells t) 36)) := Below.alloc' (Below.refl _ _) _
  generalize w.alloc (.cells (cells t) 36) = wc at *
  generalize hbox : w.heap.size = bx at *
  have lb := hA.lt
  have HBOX := Lib.hid hbox
  clear hbox
  have d0 := hA.st 0 (by decide) rfl
  have d1 := hA.st 1 (by decide) rfl
  have d2 := hA.st 2 (by decide) rfl
  have d3 := hA.st 3 (by decide) rfl
  have d4 := hA.st 4 (by decide) rfl
  have d5 := hA.st 5 (by decide) rfl
  have d6 := hA.st 6 (by decide) rfl
  have d7 := hA.st 7 (by decide) rfl
  have d8 := hA.st 8 (by decide) rfl
  have d9 := hA.st 9 (by decide) rfl
  have d10 := hA.st 10 (by decide) rfl
  have d11 := hA.st 11 (by decide) rfl
  have d12 := hA.st 12 (by decide) rfl
  have d13 := hA.st 13 (by decide) rfl
  have d14 := hA.st 14 (by decide) rfl
  have n1 : (wc.alloc (.cells #[.int .i64 (t.c 0), .int .i64 (t.c 1), .int .i64 (t.c 2)] 3)).ownsRow wc.heap.size 3 1 (.slice (some ⟨wc.heap.size, 0, none⟩) 3 3) 3 [.int .i64 (t.c 0), .int .i64 (t.c 1), .int .i64 (t.c 2)] := own_made (Nat.le_refl _) rfl (by decide)
  have n2 : ((wc.alloc (.cells #[.int .i64 (t.c 0), .int .i64 (t.c 1), .int .i64 (t.c 2)] 3)).alloc (.cells #[.int .i64 (t.c 3), .int .i64 (t.c 4), .int .i64 (t.c 5), .int .i64 (t.c 6), .int .i64 (t.c 7), .int .i64 (t.c 8), .int .i64 (t.c 9), .int .i64 (t.c 10), .int .i64 (t.c 11), .int .i64 (t.c 12), .int .i64 (t.c 13), .int .i64 (t.c 14)] 27)).ownsRow wc.heap.size 27 2 (.slice (some ⟨wc.heap.size + 1, 0, none⟩) 6 6) 6 [.int .i64 (t.c 3), .int .i64 (t.c 4), .int .i64 (t.c 5), .int .i64 (t.c 6), .int .i64 (t.c 7), .int .i64 (t.c 8), .int .i64 (t.c 9), .int .i64 (t.c 10), .int .i64 (t.c 11), .int .i64 (t.c 12), .int .i64 (t.c 13), .int .i64 (t.c 14)] := own_made' (by simp) (by simp) rfl (by decide)
  have hA2 : At ((wc.alloc (.cells #[.int .i64 (t.c 0), .int .i64 (t.c 1), .int .i64 (t.c 2)] 3)).alloc (.cells #[.int .i64 (t.c 3), .int .i64 (t.c 4), .int .i64 (t.c 5), .int .i64 (t.c 6), .int .i64 (t.c 7), .int .i64 (t.c 8), .int .i64 (t.c 9), .int .i64 (t.c 10), .int .i64 (t.c 11), .int .i64 (t.c 12), .int .i64 (t.c 13), .int .i64 (t.c 14)] 27)) bx (.cells (cells t) 36) := (hA.alloc _).alloc _
  have hB2 : Below wc.heap.size wc ((wc.alloc (.cells #[.int .i64 (t.c 0), .int .i64 (t.c 1), .int .i64 (t.c 2)] 3)).alloc (.cells #[.int .i64 (t.c 3), .int .i64 (t.c 4), .int .i64 (t.c 5), .int .i64 (t.c 6), .int .i64 (t.c 7), .int .i64 (t.c 8), .int .i64 (t.c 9), .int .i64 (t.c 10), .int .i64 (t.c 11), .int .i64 (t.c 12), .int .i64 (t.c 13), .int .i64 (t.c 14)] 27)) := Below.alloc' (Below.alloc' (Below.refl _ _) _) _
  have ap1 : ApartR (.slice (some ⟨wc.heap.size, 0, none⟩) 3 3) (.slice (some ⟨wc.heap.size + 1, 0, none⟩) 6 6) := .inr (.inr (by simp [Value.ownBlock]))
  obtain ⟨A4, c4, w4, hrun1, s1, s2, s3, s4, s5⟩ := append_own2 (t := 49) (T := 27) (W := (wc.alloc (.cells #[.int .i64 (t.c 0), .int .i64 (t.c 1), .int .i64 (t.c 2)] 3)).alloc (.cells #[.int .i64 (t.c 3), .int .i64 (t.c 4), .int .i64 (t.c 5), .int .i64 (t.c 6), .int .i64 (t.c 7), .int .i64 (t.c 8), .int .i64 (t.c 9), .int .i64 (t.c 10), .int .i64 (t.c 11), .int .i64 (t.c 12), .int .i64 (t.c 13), .int .i64 (t.c 14)] 27)) (m := 8) (news := [.int .i64 (t.c 15), .int .i64 (t.c 16), .int .i64 (t.c 17), .int .i64 (t.c 18), .int .i64 (t.c 19), .int .i64 (t.c 20), .int .i64 (t.c 21), .int .i64 (t.c 22), .int .i64 (t.c 23), .int .i64 (t.c 24), .int .i64 (t.c 25), .int .i64 (t.c 26), .int .i64 (t.c 27), .int .i64 (t.c 28), .int .i64 (t.c 29), .int .i64 (t.c 30)]) Try.underlying49 hi0 hz0 hz1 hz2 rfl (by decide) (by decide) n2 (n1.alloc _) ap1 hB2.size rfl (by simp [Value.oneCell']) (by decide)
  have N1 := Lib.hid s2
  have N2 := Lib.hid (show w4.ownsRow wc.heap.size 27 2 (.slice A4 14 c4) 14 (lenVals t pl) from s1)
  have N3 := Lib.hid s3
  have hA4 : At w4 bx (.cells (cells t) 36) := atLowR hA2 lb s4
  have hB4 := hB2.trans s4
  have R1 := Lib.hid hrun1
  clear n1 n2 ap1 s1 s2 s3 hrun1
  go_upto_region 3 with (refine wpList_lens6 (by rfl) (.tmp 14) (.tmp 16) (.tmp 18) (.tmp 20) (.tmp 22) (.tmp 24) rfl rfl rfl rfl rfl rfl rfl ?_)
  have d15 := hA2.st 15 (by decide) rfl
  have d16 := hA2.st 16 (by decide) rfl
  have d17 := hA2.st 17 (by decide) rfl
  have d18 := hA2.st 18 (by decide) rfl
  have d19 := hA2.st 19 (by decide) rfl
  have d20 := hA2.st 20 (by decide) rfl
  have d21 := hA2.st 21 (by decide) rfl
  have d22 := hA2.st 22 (by decide) rfl
  have d23 := hA2.st 23 (by decide) rfl
  have d24 := hA2.st 24 (by decide) rfl
  have d25 := hA2.st 25 (by decide) rfl
  have d26 := hA2.st 26 (by decide) rfl
  have d27 := hA2.st 27 (by decide) rfl
  have d28 := hA2.st 28 (by decide) rfl
  have d29 := hA2.st 29 (by decide) rfl
  have d30 := hA2.st 30 (by decide) rfl
  go_upto_region 4 with (first | (refine wpList_lens8 (by rfl) (.tmp 29) (.tmp 32) (.tmp 35) (.tmp 38) (.tmp 41) (.tmp 44) (.tmp 47) (.tmp 50) rfl rfl rfl rfl rfl rfl rfl rfl rfl ?_) | (at_builtin; refine wpList_append_run (by rfl) _ _ 49 rfl rfl rfl R1.out ?_))
  clear d0 d1 d2 d3 d4 d5 d6 d7 d8 d9 d10 d11 d12 d13 d14 d15 d16 d17 d18 d19 d20 d21 d22 d23 d24 d25 d26 d27 d28 d29 d30
  obtain ⟨g, rfl, _, _, _⟩ := own_cells N2.out (by decide)
  generalize hbase : wc.heap.size = base at *
  have hsz4 : base ≤ w4.heap.size := s5
  have lbx := Lib.hid (show bx < base from hbase ▸ lb)
  have HBW := Lib.hid hB
  clear hbase s4 s5 hA hA2 hB2 hB R1
  have CL : Hid (∀ W : World, W.ownsRow base 27 2 (.slice (some ⟨g, 0, none⟩) 14 c4) 14 (lenVals t pl) → ∀ (k p : Nat), pl[k]? = some p → (W.cell? ⟨g, k * 2, none⟩ = some (.int .i64 (t.c p)) ∧ W.cell? ⟨g, k * 2 + 1, none⟩ = some (.int .i64 (t.c (p + 1)))) ∧ g < W.heap.size) := Lib.hid fun W hW k p hp => by
    obtain ⟨g', e, _, hg2, hgc⟩ := own_cells hW (by decide)
    injection e with e
    injection e with e
    subst e
    obtain ⟨q0, q1⟩ := lenVals_get t (l := pl) hp
    exact ⟨⟨hgc _ _ q0, hgc _ _ q1⟩, hg2⟩
  go_wp2
  go_loopw [3, 5] (fun v i wr => ∃ (k n : Nat) (A : Option Addr) (c : Nat), k ≤ 14 ∧ i = .int .i64 k ∧ v = .slice A n c ∧ Hid (n = 3 + 2 * k) ∧ Hid (wr.ownsRow base 3 1 (.slice A n c) n ([.int .i64 (t.c 0), .int .i64 (t.c 1), .int .i64 (t.c 2)] ++ lenVals t (pl.take k))) ∧ Hid (wr.ownsRow base 27 2 (.slice (some ⟨g, 0, none⟩) 14 c4) 14 (lenVals t pl)) ∧ Hid (ApartR (.slice A n c) (.slice (some ⟨g, 0, none⟩) 14 c4)) ∧ At wr bx (.cells (cells t) 36) ∧ Below base wc wr ∧ base ≤ wr.heap.size) (fun _ i _ => 14 - (intOf i).toNat)
  case atStart => exact ⟨0, 3, _, _, by omega, rfl, rfl, Lib.hid rfl, N1, N2, N3, hA4, hB4, hsz4⟩
  case round =>
    obtain ⟨k, n, A, c, hk, rfl, rfl, HN, O1, O2, AP, a, hB5, hsz⟩ := hrel
    by_cases hlt : k < 14
    · have hltz : (k : Int) < 14 := by omega
      obtain ⟨p, hp⟩ : ∃ p, pl[k]? = some p := ⟨_, List.getElem?_eq_getElem (show k < pl.length from hlt)⟩
      have HSN := Lib.hid (lenVals_snoc t hp)
      have KK : Hid (∀ W : World, W.ownsRow base 27 2 (.slice (some ⟨g, 0, none⟩) 14 c4) 14 (lenVals t pl) → W.cell? ⟨g, k * 2, none⟩ = some (.int .i64 (t.c p)) ∧ W.cell? ⟨g, k * 2 + 1, none⟩ = some (.int .i64 (t.c (p + 1)))) := Lib.hid fun W hW => (CL.out W hW k p hp).1
      clear hp
      obtain ⟨x, hx⟩ : ∃ x, x = t.c p := ⟨_, rfl⟩
      obtain ⟨y, hy⟩ : ∃ y, y = t.c (p + 1) := ⟨_, rfl⟩
      rw [← hx, ← hy] at KK HSN
      clear hx hy
      have hn100 : n ≤ 100 := by have := HN.out; omega
      obtain ⟨A', c', w', hrun, r1, r2, r3, r4, r5⟩ := append_own2 (t := 40) (T := 3) (W := wr.drew) (m := 2) (news := [.int .i64 x, .int .i64 y]) Try.underlying40 gi0 gz0 gz1 gz2 rfl (by decide) (by decide) O1.out O2.out AP.out.symm hsz rfl (by simp [Value.oneCell']) (by omega)
      have a' : At w' bx _ := atLowR (W := wr.drew) a lbx.out r4
      have B' : Below base wr w' := (Below.drew (Below.refl base wr)).trans r4
      have E1 : Hid (w'.ownsRow base 3 1 (.slice A' (n + 2) c') (n + 2) ([.int .i64 (t.c 0), .int .i64 (t.c 1), .int .i64 (t.c 2)] ++ lenVals t (pl.take (k + 1)))) := Lib.hid (by rw [HSN.out, ← List.append_assoc]; exact r1)
      have E2 := Lib.hid r2
      have E3 := Lib.hid r3.symm
      have RR := Lib.hid hrun
      have HA' := Lib.hid a'
      have S1 := Lib.hid (KK.out wr.drew O2.out)
      have S2 := Lib.hid (KK.out _ (O2.out.alloc (.cells #[.int .i64 x, .int .i64 y] 3)))
      have S3 := Lib.hid (KK.out w' r2)
      have hB6 := hB5.trans B'
      have hsz' : base ≤ w'.heap.size := r5
      clear r1 r2 r3 r4 r5 hrun a' a B'
      go_upto_region 7 with (fail)
      refine Drawn.wp_region_gen (S := (fun W' => W'.cell? ⟨g, k * 2, none⟩ = some (.int .i64 x) ∧ W'.cell? ⟨g, k * 2 + 1, none⟩ = some (.int .i64 y))) 13 (by kernel_rfl) ?_ ?_
      · exact S1.out
      intro hS0
      (refine Drawn.gen_take (i := 0) rfl (by kernel_rfl) (by kernel_rfl) (by kernel_rfl) (by kernel_rfl) (by omega) (by first | assumption | exact hS0) (by first | exact .inr ⟨by rfl, rfl⟩ | exact .inl ⟨by rfl, by intro w2 hS; obtain ⟨q0, q1⟩ := hS; go_simp; first | done | with_reducible rfl | exact ⟨rfl, rfl⟩⟩) ?_; (try simp only [Act.put, List.setIfInBounds_toArray, List.set_cons_zero, List.set_cons_succ]))
      (refine Drawn.gen_take (i := 1) rfl (by kernel_rfl) (by kernel_rfl) (by kernel_rfl) (by kernel_rfl) (by omega) (by first | assumption | exact hS0) (by first | exact .inr ⟨by rfl, rfl⟩ | exact .inl ⟨by rfl, by intro w2 hS; obtain ⟨q0, q1⟩ := hS; go_simp; first | done | with_reducible rfl | exact ⟨rfl, rfl⟩⟩) ?_; (try simp only [Act.put, List.setIfInBounds_toArray, List.set_cons_zero, List.set_cons_succ]))
      (refine Drawn.gen_take (i := 2) rfl (by kernel_rfl) (by kernel_rfl) (by kernel_rfl) (by kernel_rfl) (by omega) (by first | assumption | exact hS0) (by first | exact .inr ⟨by rfl, rfl⟩ | exact .inl ⟨by rfl, by intro w2 hS; obtain ⟨q0, q1⟩ := hS; go_simp; first | done | with_reducible rfl | exact ⟨rfl, rfl⟩⟩) ?_; (try simp only [Act.put, List.setIfInBounds_toArray, List.set_cons_zero, List.set_cons_succ]))
      (refine Drawn.gen_take (i := 3) rfl (by kernel_rfl) (by kernel_rfl) (by kernel_rfl) (by kernel_rfl) (by omega) (by first | assumption | exact hS0) (by first | exact .inr ⟨by rfl, rfl⟩ | exact .inl ⟨by rfl, by intro w2 hS; obtain ⟨q0, q1⟩ := hS; go_simp; first | done | with_reducible rfl | exact ⟨rfl, rfl⟩⟩) ?_; (try simp only [Act.put, List.setIfInBounds_toArray, List.set_cons_zero, List.set_cons_succ]))
      (refine Drawn.gen_take (i := 4) rfl (by kernel_rfl) (by kernel_rfl) (by kernel_rfl) (by kernel_rfl) (by omega) (by first | assumption | exact hS0) (by first | exact .inr ⟨by rfl, rfl⟩ | exact .inl ⟨by rfl, by intro w2 hS; obtain ⟨q0, q1⟩ := hS; go_simp; first | done | with_reducible rfl | exact ⟨rfl, rfl⟩⟩) ?_; (try simp only [Act.put, List.setIfInBounds_toArray, List.set_cons_zero, List.set_cons_succ]))
      (refine Drawn.gen_take (i := 5) rfl (by kernel_rfl) (by kernel_rfl) (by kernel_rfl) (by kernel_rfl) (by omega) (by first | assumption | exact hS0) (by first | exact .inr ⟨by rfl, rfl⟩ | exact .inl ⟨by rfl, by intro w2 hS; obtain ⟨q0, q1⟩ := hS; go_simp; first | done | with_reducible rfl | exact ⟨rfl, rfl⟩⟩) ?_; (try simp only [Act.put, List.setIfInBounds_toArray, List.set_cons_zero, List.set_cons_succ]))
      (refine Drawn.gen_take (i := 6) rfl (by kernel_rfl) (by kernel_rfl) (by kernel_rfl) (by kernel_rfl) (by omega) (by first | assumption | exact hS0) (by first | exact .inr ⟨by rfl, rfl⟩ | exact .inl ⟨by rfl, by intro w2 hS; obtain ⟨q0, q1⟩ := hS; go_simp; first | done | with_reducible rfl | exact ⟨rfl, rfl⟩⟩) ?_; (try simp only [Act.put, List.setIfInBounds_toArray, List.set_cons_zero, List.set_cons_succ]))
      (refine Drawn.gen_take (i := 7) rfl (by kernel_rfl) (by kernel_rfl) (by kernel_rfl) (by kernel_rfl) (by omega) (by first | assumption | exact hS0) (by first | exact .inr ⟨by rfl, rfl⟩ | exact .inl ⟨by rfl, by intro w2 hS; obtain ⟨q0, q1⟩ := hS; go_simp; first | done | with_reducible rfl | exact ⟨rfl, rfl⟩⟩) ?_; (try simp only [Act.put, List.setIfInBounds_toArray, List.set_cons_zero, List.set_cons_succ]))
      (refine Drawn.gen_take (i := 8) rfl (by kernel_rfl) (by kernel_rfl) (by kernel_rfl) (by kernel_rfl) (by omega) (by first | assumption | exact hS0) (by first | exact .inr ⟨by rfl, rfl⟩ | exact .inl ⟨by rfl, by intro w2 hS; obtain ⟨q0, q1⟩ := hS; go_simp; first | done | with_reducible rfl | exact ⟨rfl, rfl⟩⟩) ?_; (try simp only [Act.put, List.setIfInBounds_toArray, List.set_cons_zero, List.set_cons_succ]))
      (refine Drawn.gen_take (i := 9) rfl (by kernel_rfl) (by kernel_rfl) (by kernel_rfl) (by kernel_rfl) (by omega) (by first | assumption | exact hS0) (by first | exact .inr ⟨by rfl, rfl⟩ | exact .inl ⟨by rfl, by intro w2 hS; obtain ⟨q0, q1⟩ := hS; go_simp; first | done | with_reducible rfl | exact ⟨rfl, rfl⟩⟩) ?_; (try simp only [Act.put, List.setIfInBounds_toArray, List.set_cons_zero, List.set_cons_succ]))
      (refine Drawn.gen_take (i := 10) rfl (by kernel_rfl) (by kernel_rfl) (by kernel_rfl) (by kernel_rfl) (by omega) (by first | assumption | exact hS0) (by first | exact .inr ⟨by rfl, rfl⟩ | exact .inl ⟨by rfl, by intro w2 hS; obtain ⟨q0, q1⟩ := hS; go_simp; first | done | with_reducible rfl | exact ⟨rfl, rfl⟩⟩) ?_; (try simp only [Act.put, List.setIfInBounds_toArray, List.set_cons_zero, List.set_cons_succ]))
      refine Drawn.gen_one (i := 11) (by kernel_rfl) rfl (by rfl) ?_
      refine Drawn.Step.value (by go_simp; first | done | with_reducible rfl | exact ⟨rfl, rfl⟩) ?_; refine ⟨by first | (intro hlt; exact absurd hlt (by decide)) | (intro _; exact S2.out), ?_⟩; (try simp only [Act.put, List.setIfInBounds_toArray, List.set_cons_zero, List.set_cons_succ])
      refine Drawn.gen_one (i := 12) (by kernel_rfl) rfl (by rfl) ?_
      refine Drawn.Step.value (run_append_op (.tmp 59) (.tmp 70) 40 rfl rfl rfl RR.out) ⟨fun _ => S3.out, ?_⟩
      (try simp only [Act.put, List.setIfInBounds_toArray, List.set_cons_zero, List.set_cons_succ])
      refine Drawn.gen_one (i := 13) (by kernel_rfl) rfl (by rfl) ?_
      refine Drawn.Step.value (by go_simp; first | done | with_reducible rfl | exact ⟨rfl, rfl⟩) ?_; refine ⟨by first | (intro hlt; exact absurd hlt (by decide)) | (intro _; omega), ?_⟩; (try simp only [Act.put, List.setIfInBounds_toArray, List.set_cons_zero, List.set_cons_succ])
      refine Drawn.gen_end (by kernel_rfl) ?_
      go_wp2
      go_roundw
      case rel => exact ⟨k + 1, n + 2, _, _, by omega, by go_num, rfl, Lib.hid (by have := HN.out; omega), E1, E2, E3, HA'.out, hB6, hsz'⟩
      case measure => simp [intOf]; omega
    · have hltz : ¬ (k : Int) < 14 := by omega
      have HK14 := Lib.hid (show k = 14 by omega)
      obtain rfl : n = 31 := by have := HN.out; omega
      have O1' : wr.ownsRow base 3 1 (.slice A 31 c) 31 ([.int .i64 (t.c 0), .int .i64 (t.c 1), .int .i64 (t.c 2)] ++ lenVals t pl) := by have := O1.out; rw [HK14.out] at this; exact this
      obtain ⟨A5, c5, w5, hrun5, r1, r2, r3, r4, r5⟩ := append_own2 (t := 40) (T := 3) (W := wr) (m := 8) (news := [.int .i64 (t.c 31), .int .i64 (t.c 32), .int .i64 (t.c 33), .int .i64 (t.c 34), .int .i64 (t.c 35), .int .i64 (t.c 36), .int .i64 (t.c 37), .int .i64 (t.c 38)]) Try.underlying40 gi0 gz0 gz1 gz2 rfl (by decide) (by decide) O1' O2.out AP.out.symm hsz rfl (by simp [Value.oneCell']) (by decide)
      have a5 := atLowR a lbx.out r4
      obtain ⟨z45, hz45⟩ : ∃ z : Int, z = if t.b 45 = true then 1 else 0 := ⟨_, rfl⟩
      have Z45 := Lib.hid hz45
      obtain ⟨z47, hz47⟩ : ∃ z : Int, z = if t.b 47 = true then 1 else 0 := ⟨_, rfl⟩
      have Z47 := Lib.hid hz47
      obtain ⟨z51, hz51⟩ : ∃ z : Int, z = if t.b 51 = true then 1 else 0 := ⟨_, rfl⟩
      have Z51 := Lib.hid hz51
      obtain ⟨z52, hz52⟩ : ∃ z : Int, z = if t.b 52 = true then 1 else 0 := ⟨_, rfl⟩
      have Z52 := Lib.hid hz52
      clear hz45 hz47 hz51 hz52
      obtain ⟨A6, c6, w6, hrun6, t1, t2, t3, t4, t5⟩ := append_own2 (t := 40) (T := 3) (W := w5.drew) (m := 10) (news := [.int .i64 (t.c 39), .int .i64 (t.c 40), .int .i64 (t.c 41), .int .i64 (t.c 42), .int .i64 (t.c 43), .int .i64 (t.c 44), .int .i64 z45, .int .i64 (t.c 46), .int .i64 z47, .int .i64 (t.c 48)]) Try.underlying40 gi0 gz0 gz1 gz2 rfl (by decide) (by decide) r1 r2 r3 r5 rfl (by simp [Value.oneCell']) (by decide)
      have a6 : At w6 bx _ := atLowR (W := w5.drew) a5 lbx.out t4
      obtain ⟨A7, c7, w7, hrun7, u1, u2, u3, u4, u5⟩ := append_own2 (t := 40) (T := 3) (W := w6.drew) (m := 6) (news := [.int .i64 (t.c 49), .int .i64 (t.c 50), .int .i64 z51, .int .i64 z52, .int .i64 (t.c 53), .int .i64 (t.c 54)]) Try.underlying40 gi0 gz0 gz1 gz2 rfl (by decide) (by decide) t1 t2 t3 t5 rfl (by simp [Value.oneCell']) (by decide)
      have B5 : Below base wr w5 := r4
      have B6 : Below base w5 w6 := (Below.drew (Below.refl base w5)).trans t4
      have B7 : Below base w6 w7 := (Below.drew (Below.refl base w6)).trans u4
      have HE := Lib.hid (HBW.out.trans ((hB5.trans (B5.trans (B6.trans B7))).mono (Nat.le_of_lt lbx.out)))
      have HU : Hid (w7.ownsRow base 3 1 (.slice A7 55 c7) 55 ((Re.putL t).map (Value.int .i64))) := Lib.hid (by
        have e : (Re.putL t).map (Value.int .i64) = ((([.int .i64 (t.c 0), .int .i64 (t.c 1), .int .i64 (t.c 2)] ++ lenVals t pl) ++ [.int .i64 (t.c 31), .int .i64 (t.c 32), .int .i64 (t.c 33), .int .i64 (t.c 34), .int .i64 (t.c 35), .int .i64 (t.c 36), .int .i64 (t.c 37), .int .i64 (t.c 38)]) ++ [.int .i64 (t.c 39), .int .i64 (t.c 40), .int .i64 (t.c 41), .int .i64 (t.c 42), .int .i64 (t.c 43), .int .i64 (t.c 44), .int .i64 z45, .int .i64 (t.c 46), .int .i64 z47, .int .i64 (t.c 48)]) ++ [.int .i64 (t.c 49), .int .i64 (t.c 50), .int .i64 z51, .int .i64 z52, .int .i64 (t.c 53), .int .i64 (t.c 54)] := by
          rw [Z45.out, Z47.out, Z51.out, Z52.out]
          rfl
        rw [e]
        exact u1)
      have keep6 : ∀ W', Below base w5 W' → W'.cell? ⟨bx, 39, none⟩ = some (.int .i64 (t.c 39)) ∧ W'.cell? ⟨bx, 40, none⟩ = some (.int .i64 (t.c 40)) ∧ W'.cell? ⟨bx, 41, none⟩ = some (.int .i64 (t.c 41)) ∧ W'.cell? ⟨bx, 42, none⟩ = some (.int .i64 (t.c 42)) ∧ W'.cell? ⟨bx, 43, none⟩ = some (.int .i64 (t.c 43)) ∧ W'.cell? ⟨bx, 44, none⟩ = some (.int .i64 (t.c 44)) ∧ W'.cell? ⟨bx, 45, none⟩ = some (.bool (t.b 45)) ∧ W'.cell? ⟨bx, 46, none⟩ = some (.int .i64 (t.c 46)) ∧ W'.cell? ⟨bx, 47, none⟩ = some (.bool (t.b 47)) ∧ W'.cell? ⟨bx, 48, none⟩ = some (.int .i64 (t.c 48)) := fun W' h => ⟨(atLowR a5 lbx.out h).st 39 (by decide) rfl, (atLowR a5 lbx.out h).st 40 (by decide) rfl, (atLowR a5 lbx.out h).st 41 (by decide) rfl, (atLowR a5 lbx.out h).st 42 (by decide) rfl, (atLowR a5 lbx.out h).st 43 (by decide) rfl, (atLowR a5 lbx.out h).st 44 (by decide) rfl, (atLowR a5 lbx.out h).bt 45 (by decide) rfl, (atLowR a5 lbx.out h).st 46 (by decide) rfl, (atLowR a5 lbx.out h).bt 47 (by decide) rfl, (atLowR a5 lbx.out h).st 48 (by decide) rfl⟩
      have keep7 : ∀ W', Below base w6 W' → W'.cell? ⟨bx, 49, none⟩ = some (.int .i64 (t.c 49)) ∧ W'.cell? ⟨bx, 50, none⟩ = some (.int .i64 (t.c 50)) ∧ W'.cell? ⟨bx, 51, none⟩ = some (.bool (t.b 51)) ∧ W'.cell? ⟨bx, 52, none⟩ = some (.bool (t.b 52)) ∧ W'.cell? ⟨bx, 53, none⟩ = some (.int .i64 (t.c 53)) ∧ W'.cell? ⟨bx, 54, none⟩ = some (.int .i64 (t.c 54)) := fun W' h => ⟨(atLowR a6 lbx.out h).st 49 (by decide) rfl, (atLowR a6 lbx.out h).st 50 (by decide) rfl, (atLowR a6 lbx.out h).bt 51 (by decide) rfl, (atLowR a6 lbx.out h).bt 52 (by decide) rfl, (atLowR a6 lbx.out h).st 53 (by decide) rfl, (atLowR a6 lbx.out h).st 54 (by decide) rfl⟩
      have K6 := Lib.hid keep6
      have K7 := Lib.hid keep7
      have R5 := Lib.hid hrun5
      have R6 := Lib.hid hrun6
      have R7 := Lib.hid hrun7
      have hsz5 : base ≤ w5.heap.size := r5
      have hsz6 : base ≤ w6.heap.size := t5
      have HB6 := Lib.hid B6
      have HB7 := Lib.hid B7
      have d31 := a.st 31 (by decide) rfl
      have d32 := a.st 32 (by decide) rfl
      have d33 := a.st 33 (by decide) rfl
      have d34 := a.st 34 (by decide) rfl
      have d35 := a.st 35 (by decide) rfl
      have d36 := a.st 36 (by decide) rfl
      have d37 := a.st 37 (by decide) rfl
      have d38 := a.st 38 (by decide) rfl
      clear keep6 keep7 hrun5 hrun6 hrun7 r1 r2 r3 r4 r5 t1 t2 t3 t4 t5 u1 u2 u3 u4 u5 a a5 a6 B5 B6 B7 O1' O1 O2 AP N1 N2 N3 hA4 hB4 hi0 hz0 hz1 hz2 gi0 gz0 gz1 gz2 CL
      go_upto_region 9 with (at_builtin; refine wpList_append_run (by rfl) _ _ 40 rfl rfl rfl R5.out ?_)
      clear d31 d32 d33 d34 d35 d36 d37 d38
      refine Drawn.wp_region_gen (S := (fun W' => W'.cell? ⟨bx, 39, none⟩ = some (.int .i64 (t.c 39)) ∧ W'.cell? ⟨bx, 40, none⟩ = some (.int .i64 (t.c 40)) ∧ W'.cell? ⟨bx, 41, none⟩ = some (.int .i64 (t.c 41)) ∧ W'.cell? ⟨bx, 42, none⟩ = some (.int .i64 (t.c 42)) ∧ W'.cell? ⟨bx, 43, none⟩ = some (.int .i64 (t.c 43)) ∧ W'.cell? ⟨bx, 44, none⟩ = some (.int .i64 (t.c 44)) ∧ W'.cell? ⟨bx, 45, none⟩ = some (.bool (t.b 45)) ∧ W'.cell? ⟨bx, 46, none⟩ = some (.int .i64 (t.c 46)) ∧ W'.cell? ⟨bx, 47, none⟩ = some (.bool (t.b 47)) ∧ W'.cell? ⟨bx, 48, none⟩ = some (.int .i64 (t.c 48)))) 27 (by kernel_rfl) ?_ ?_
      · exact K6.out _ (Below.drew (Below.refl _ _))
      intro hS0
      (refine Drawn.gen_take (i := 0) rfl (by kernel_rfl) (by kernel_rfl) (by kernel_rfl) (by kernel_rfl) (by omega) (by first | assumption | exact hS0) (by first | exact .inr ⟨by rfl, rfl⟩ | exact .inl ⟨by rfl, by intro w2 hS; obtain ⟨q0, q1, q2, q3, q4, q5, q6, q7, q8, q9⟩ := hS; go_simp; first | done | with_reducible rfl | exact ⟨rfl, rfl⟩⟩) ?_; (try simp only [Act.put, List.setIfInBounds_toArray, List.set_cons_zero, List.set_cons_succ]))
      (refine Drawn.gen_take (i := 1) rfl (by kernel_rfl) (by kernel_rfl) (by kernel_rfl) (by kernel_rfl) (by omega) (by first | assumption | exact hS0) (by first | exact .inr ⟨by rfl, rfl⟩ | exact .inl ⟨by rfl, by intro w2 hS; obtain ⟨q0, q1, q2, q3, q4, q5, q6, q7, q8, q9⟩ := hS; go_simp; first | done | with_reducible rfl | exact ⟨rfl, rfl⟩⟩) ?_; (try simp only [Act.put, List.setIfInBounds_toArray, List.set_cons_zero, List.set_cons_succ]))
      (refine Drawn.gen_take (i := 2) rfl (by kernel_rfl) (by kernel_rfl) (by kernel_rfl) (by kernel_rfl) (by omega) (by first | assumption | exact hS0) (by first | exact .inr ⟨by rfl, rfl⟩ | exact .inl ⟨by rfl, by intro w2 hS; obtain ⟨q0, q1, q2, q3, q4, q5, q6, q7, q8, q9⟩ := hS; go_simp; first | done | with_reducible rfl | exact ⟨rfl, rfl⟩⟩) ?_; (try simp only [Act.put, List.setIfInBounds_toArray, List.set_cons_zero, List.set_cons_succ]))
      (refine Drawn.gen_take (i := 3) rfl (by kernel_rfl) (by kernel_rfl) (by kernel_rfl) (by kernel_rfl) (by omega) (by first | assumption | exact hS0) (by first | exact .inr ⟨by rfl, rfl⟩ | exact .inl ⟨by rfl, by intro w2 hS; obtain ⟨q0, q1, q2, q3, q4, q5, q6, q7, q8, q9⟩ := hS; go_simp; first | done | with_reducible rfl | exact ⟨rfl, rfl⟩⟩) ?_; (try simp only [Act.put, List.setIfInBounds_toArray, List.set_cons_zero, List.set_cons_succ]))
      (refine Drawn.gen_take (i := 4) rfl (by kernel_rfl) (by kernel_rfl) (by kernel_rfl) (by kernel_rfl) (by omega) (by first | assumption | exact hS0) (by first | exact .inr ⟨by rfl, rfl⟩ | exact .inl ⟨by rfl, by intro w2 hS; obtain ⟨q0, q1, q2, q3, q4, q5, q6, q7, q8, q9⟩ := hS; go_simp; first | done | with_reducible rfl | exact ⟨rfl, rfl⟩⟩) ?_; (try simp only [Act.put, List.setIfInBounds_toArray, List.set_cons_zero, List.set_cons_succ]))
      (refine Drawn.gen_take (i := 5) rfl (by kernel_rfl) (by kernel_rfl) (by kernel_rfl) (by kernel_rfl) (by omega) (by first | assumption | exact hS0) (by first | exact .inr ⟨by rfl, rfl⟩ | exact .inl ⟨by rfl, by intro w2 hS; obtain ⟨q0, q1, q2, q3, q4, q5, q6, q7, q8, q9⟩ := hS; go_simp; first | done | with_reducible rfl | exact ⟨rfl, rfl⟩⟩) ?_; (try simp only [Act.put, List.setIfInBounds_toArray, List.set_cons_zero, List.set_cons_succ]))
      (refine Drawn.gen_take (i := 6) rfl (by kernel_rfl) (by kernel_rfl) (by kernel_rfl) (by kernel_rfl) (by omega) (by first | assumption | exact hS0) (by first | exact .inr ⟨by rfl, rfl⟩ | exact .inl ⟨by rfl, by intro w2 hS; obtain ⟨q0, q1, q2, q3, q4, q5, q6, q7, q8, q9⟩ := hS; go_simp; first | done | with_reducible rfl | exact ⟨rfl, rfl⟩⟩) ?_; (try simp only [Act.put, List.setIfInBounds_toArray, List.set_cons_zero, List.set_cons_succ]))
      (refine Drawn.gen_take (i := 7) rfl (by kernel_rfl) (by kernel_rfl) (by kernel_rfl) (by kernel_rfl) (by omega) (by first | assumption | exact hS0) (by first | exact .inr ⟨by rfl, rfl⟩ | exact .inl ⟨by rfl, by intro w2 hS; obtain ⟨q0, q1, q2, q3, q4, q5, q6, q7, q8, q9⟩ := hS; go_simp; first | done | with_reducible rfl | exact ⟨rfl, rfl⟩⟩) ?_; (try simp only [Act.put, List.setIfInBounds_toArray, List.set_cons_zero, List.set_cons_succ]))
      (refine Drawn.gen_take (i := 8) rfl (by kernel_rfl) (by kernel_rfl) (by kernel_rfl) (by kernel_rfl) (by omega) (by first | assumption | exact hS0) (by first | exact .inr ⟨by rfl, rfl⟩ | exact .inl ⟨by rfl, by intro w2 hS; obtain ⟨q0, q1, q2, q3, q4, q5, q6, q7, q8, q9⟩ := hS; go_simp; first | done | with_reducible rfl | exact ⟨rfl, rfl⟩⟩) ?_; (try simp only [Act.put, List.setIfInBounds_toArray, List.set_cons_zero, List.set_cons_succ]))
      (refine Drawn.gen_take (i := 9) rfl (by kernel_rfl) (by kernel_rfl) (by kernel_rfl) (by kernel_rfl) (by omega) (by first | assumption | exact hS0) (by first | exact .inr ⟨by rfl, rfl⟩ | exact .inl ⟨by rfl, by intro w2 hS; obtain ⟨q0, q1, q2, q3, q4, q5, q6, q7, q8, q9⟩ := hS; go_simp; first | done | with_reducible rfl | exact ⟨rfl, rfl⟩⟩) ?_; (try simp only [Act.put, List.setIfInBounds_toArray, List.set_cons_zero, List.set_cons_succ]))
      (refine Drawn.gen_take (i := 10) rfl (by kernel_rfl) (by kernel_rfl) (by kernel_rfl) (by kernel_rfl) (by omega) (by first | assumption | exact hS0) (by first | exact .inr ⟨by rfl, rfl⟩ | exact .inl ⟨by rfl, by intro w2 hS; obtain ⟨q0, q1, q2, q3, q4, q5, q6, q7, q8, q9⟩ := hS; go_simp; first | done | with_reducible rfl | exact ⟨rfl, rfl⟩⟩) ?_; (try simp only [Act.put, List.setIfInBounds_toArray, List.set_cons_zero, List.set_cons_succ]))
      (refine Drawn.gen_take (i := 11) rfl (by kernel_rfl) (by kernel_rfl) (by kernel_rfl) (by kernel_rfl) (by omega) (by first | assumption | exact hS0) (by first | exact .inr ⟨by rfl, rfl⟩ | exact .inl ⟨by rfl, by intro w2 hS; obtain ⟨q0, q1, q2, q3, q4, q5, q6, q7, q8, q9⟩ := hS; go_simp; first | done | with_reducible rfl | exact ⟨rfl, rfl⟩⟩) ?_; (try simp only [Act.put, List.setIfInBounds_toArray, List.set_cons_zero, List.set_cons_succ]))
      (refine Drawn.gen_take (i := 12) rfl (by kernel_rfl) (by kernel_rfl) (by kernel_rfl) (by kernel_rfl) (by omega) (by first | assumption | exact hS0) (by first | exact .inr ⟨by rfl, rfl⟩ | exact .inl ⟨by rfl, by intro w2 hS; obtain ⟨q0, q1, q2, q3, q4, q5, q6, q7, q8, q9⟩ := hS; go_simp; first | done | with_reducible rfl | exact ⟨rfl, rfl⟩⟩) ?_; (try simp only [Act.put, List.setIfInBounds_toArray, List.set_cons_zero, List.set_cons_succ]))
      (refine Drawn.gen_take (i := 13) rfl (by kernel_rfl) (by kernel_rfl) (by kernel_rfl) (by kernel_rfl) (by omega) (by first | assumption | exact hS0) (by first | exact .inr ⟨by rfl, rfl⟩ | exact .inl ⟨by rfl, by intro w2 hS; obtain ⟨q0, q1, q2, q3, q4, q5, q6, q7, q8, q9⟩ := hS; go_simp; first | done | with_reducible rfl | exact ⟨rfl, rfl⟩⟩) ?_; (try simp only [Act.put, List.setIfInBounds_toArray, List.set_cons_zero, List.set_cons_succ]))
      (refine Drawn.gen_take (i := 14) rfl (by kernel_rfl) (by kernel_rfl) (by kernel_rfl) (by kernel_rfl) (by omega) (by first | assumption | exact hS0) (by first | exact .inr ⟨by rfl, rfl⟩ | exact .inl ⟨by rfl, by intro w2 hS; obtain ⟨q0, q1, q2, q3, q4, q5, q6, q7, q8, q9⟩ := hS; go_simp; first | done | with_reducible rfl | exact ⟨rfl, rfl⟩⟩) ?_; (try simp only [Act.put, List.setIfInBounds_toArray, List.set_cons_zero, List.set_cons_succ]))
      (refine Drawn.gen_take (i := 15) rfl (by kernel_rfl) (by kernel_rfl) (by kernel_rfl) (by kernel_rfl) (by omega) (by first | assumption | exact hS0) (by first | exact .inr ⟨by rfl, rfl⟩ | exact .inl ⟨by rfl, by intro w2 hS; obtain ⟨q0, q1, q2, q3, q4, q5, q6, q7, q8, q9⟩ := hS; go_simp; first | done | with_reducible rfl | exact ⟨rfl, rfl⟩⟩) ?_; (try simp only [Act.put, List.setIfInBounds_toArray, List.set_cons_zero, List.set_cons_succ]))
      (refine Drawn.gen_take (i := 16) rfl (by kernel_rfl) (by kernel_rfl) (by kernel_rfl) (by kernel_rfl) (by omega) (by first | assumption | exact hS0) (by first | exact .inr ⟨by rfl, rfl⟩ | exact .inl ⟨by rfl, by intro w2 hS; obtain ⟨q0, q1, q2, q3, q4, q5, q6, q7, q8, q9⟩ := hS; go_simp; first | done | with_reducible rfl | exact ⟨rfl, rfl⟩⟩) ?_; (try simp only [Act.put, List.setIfInBounds_toArray, List.set_cons_zero, List.set_cons_succ]))
      (refine Drawn.gen_take (i := 18) rfl (by kernel_rfl) (by kernel_rfl) (by kernel_rfl) (by kernel_rfl) (by omega) (by first | assumption | exact hS0) (by first | exact .inr ⟨by rfl, rfl⟩ | exact .inl ⟨by rfl, by intro w2 hS; obtain ⟨q0, q1, q2, q3, q4, q5, q6, q7, q8, q9⟩ := hS; go_simp; first | done | with_reducible rfl | exact ⟨rfl, rfl⟩⟩) ?_; (try simp only [Act.put, List.setIfInBounds_toArray, List.set_cons_zero, List.set_cons_succ]))
      (refine Drawn.gen_take (i := 19) rfl (by kernel_rfl) (by kernel_rfl) (by kernel_rfl) (by kernel_rfl) (by omega) (by first | assumption | exact hS0) (by first | exact .inr ⟨by rfl, rfl⟩ | exact .inl ⟨by rfl, by intro w2 hS; obtain ⟨q0, q1, q2, q3, q4, q5, q6, q7, q8, q9⟩ := hS; go_simp; first | done | with_reducible rfl | exact ⟨rfl, rfl⟩⟩) ?_; (try simp only [Act.put, List.setIfInBounds_toArray, List.set_cons_zero, List.set_cons_succ]))
      (refine Drawn.gen_take (i := 20) rfl (by kernel_rfl) (by kernel_rfl) (by kernel_rfl) (by kernel_rfl) (by omega) (by first | assumption | exact hS0) (by first | exact .inr ⟨by rfl, rfl⟩ | exact .inl ⟨by rfl, by intro w2 hS; obtain ⟨q0, q1, q2, q3, q4, q5, q6, q7, q8, q9⟩ := hS; go_simp; first | done | with_reducible rfl | exact ⟨rfl, rfl⟩⟩) ?_; (try simp only [Act.put, List.setIfInBounds_toArray, List.set_cons_zero, List.set_cons_succ]))
      (refine Drawn.gen_take (i := 21) rfl (by kernel_rfl) (by kernel_rfl) (by kernel_rfl) (by kernel_rfl) (by omega) (by first | assumption | exact hS0) (by first | exact .inr ⟨by rfl, rfl⟩ | exact .inl ⟨by rfl, by intro w2 hS; obtain ⟨q0, q1, q2, q3, q4, q5, q6, q7, q8, q9⟩ := hS; go_simp; first | done | with_reducible rfl | exact ⟨rfl, rfl⟩⟩) ?_; (try simp only [Act.put, List.setIfInBounds_toArray, List.set_cons_zero, List.set_cons_succ]))
      (refine Drawn.gen_take (i := 23) rfl (by kernel_rfl) (by kernel_rfl) (by kernel_rfl) (by kernel_rfl) (by omega) (by first | assumption | exact hS0) (by first | exact .inr ⟨by rfl, rfl⟩ | exact .inl ⟨by rfl, by intro w2 hS; obtain ⟨q0, q1, q2, q3, q4, q5, q6, q7, q8, q9⟩ := hS; go_simp; first | done | with_reducible rfl | exact ⟨rfl, rfl⟩⟩) ?_; (try simp only [Act.put, List.setIfInBounds_toArray, List.set_cons_zero, List.set_cons_succ]))
      (refine Drawn.gen_take (i := 24) rfl (by kernel_rfl) (by kernel_rfl) (by kernel_rfl) (by kernel_rfl) (by omega) (by first | assumption | exact hS0) (by first | exact .inr ⟨by rfl, rfl⟩ | exact .inl ⟨by rfl, by intro w2 hS; obtain ⟨q0, q1, q2, q3, q4, q5, q6, q7, q8, q9⟩ := hS; go_simp; first | done | with_reducible rfl | exact ⟨rfl, rfl⟩⟩) ?_; (try simp only [Act.put, List.setIfInBounds_toArray, List.set_cons_zero, List.set_cons_succ]))
      refine Drawn.gen_one (i := 17) (by kernel_rfl) rfl (by rfl) ?_
      refine Drawn.Step.call (by go_simp; first | done | with_reducible rfl | exact ⟨rfl, rfl⟩) (recone_of Z45.out _) ?_
      rintro e w' ⟨rfl, rfl⟩
      refine ⟨_, rfl, fun _ => hS0, ?_⟩
      (try simp only [Act.put, List.setIfInBounds_toArray, List.set_cons_zero, List.set_cons_succ])
      refine Drawn.gen_one (i := 22) (by kernel_rfl) rfl (by rfl) ?_
      refine Drawn.Step.call (by go_simp; first | done | with_reducible rfl | exact ⟨rfl, rfl⟩) (recone_of Z47.out _) ?_
      rintro e w' ⟨rfl, rfl⟩
      refine ⟨_, rfl, fun _ => hS0, ?_⟩
      (try simp only [Act.put, List.setIfInBounds_toArray, List.set_cons_zero, List.set_cons_succ])
      refine Drawn.gen_one (i := 25) (by kernel_rfl) rfl (by rfl) ?_
      refine Drawn.Step.value (by go_simp; first | done | with_reducible rfl | exact ⟨rfl, rfl⟩) ?_; refine ⟨by first | (intro hlt; exact absurd hlt (by decide)) | (intro _; exact K6.out _ (Below.alloc (Below.drew (Below.refl _ _)) hsz5 _)), ?_⟩; (try simp only [Act.put, List.setIfInBounds_toArray, List.set_cons_zero, List.set_cons_succ])
      refine Drawn.gen_one (i := 26) (by kernel_rfl) rfl (by rfl) ?_
      refine Drawn.Step.value (run_append_op (.tmp 99) (.tmp 124) 40 rfl rfl rfl R6.out) ⟨fun _ => K6.out _ HB6.out, ?_⟩
      (try simp only [Act.put, List.setIfInBounds_toArray, List.set_cons_zero, List.set_cons_succ])
      refine Drawn.gen_one (i := 27) (by kernel_rfl) rfl (by rfl) ?_
      refine Drawn.Step.value (by go_simp; first | done | with_reducible rfl | exact ⟨rfl, rfl⟩) ?_; refine ⟨by first | (intro hlt; exact absurd hlt (by decide)) | (intro _; omega), ?_⟩; (try simp only [Act.put, List.setIfInBounds_toArray, List.set_cons_zero, List.set_cons_succ])
      refine Drawn.gen_end (by kernel_rfl) ?_
      go_upto_region 10 with (fail)
      refine Drawn.wp_region_gen (S := (fun W' => W'.cell? ⟨bx, 49, none⟩ = some (.int .i64 (t.c 49)) ∧ W'.cell? ⟨bx, 50, none⟩ = some (.int .i64 (t.c 50)) ∧ W'.cell? ⟨bx, 51, none⟩ = some (.bool (t.b 51)) ∧ W'.cell? ⟨bx, 52, none⟩ = some (.bool (t.b 52)) ∧ W'.cell? ⟨bx, 53, none⟩ = some (.int .i64 (t.c 53)) ∧ W'.cell? ⟨bx, 54, none⟩ = some (.int .i64 (t.c 54)))) 19 (by kernel_rfl) ?_ ?_
      · exact K7.out _ (Below.drew (Below.refl _ _))
      intro hS0
      (refine Drawn.gen_take (i := 0) rfl (by kernel_rfl) (by kernel_rfl) (by kernel_rfl) (by kernel_rfl) (by omega) (by first | assumption | exact hS0) (by first | exact .inr ⟨by rfl, rfl⟩ | exact .inl ⟨by rfl, by intro w2 hS; obtain ⟨q0, q1, q2, q3, q4, q5⟩ := hS; go_simp; first | done | with_reducible rfl | exact ⟨rfl, rfl⟩⟩) ?_; (try simp only [Act.put, List.setIfInBounds_toArray, List.set_cons_zero, List.set_cons_succ]))
      (refine Drawn.gen_take (i := 1) rfl (by kernel_rfl) (by kernel_rfl) (by kernel_rfl) (by kernel_rfl) (by omega) (by first | assumption | exact hS0) (by first | exact .inr ⟨by rfl, rfl⟩ | exact .inl ⟨by rfl, by intro w2 hS; obtain ⟨q0, q1, q2, q3, q4, q5⟩ := hS; go_simp; first | done | with_reducible rfl | exact ⟨rfl, rfl⟩⟩) ?_; (try simp only [Act.put, List.setIfInBounds_toArray, List.set_cons_zero, List.set_cons_succ]))
      (refine Drawn.gen_take (i := 2) rfl (by kernel_rfl) (by kernel_rfl) (by kernel_rfl) (by kernel_rfl) (by omega) (by first | assumption | exact hS0) (by first | exact .inr ⟨by rfl, rfl⟩ | exact .inl ⟨by rfl, by intro w2 hS; obtain ⟨q0, q1, q2, q3, q4, q5⟩ := hS; go_simp; first | done | with_reducible rfl | exact ⟨rfl, rfl⟩⟩) ?_; (try simp only [Act.put, List.setIfInBounds_toArray, List.set_cons_zero, List.set_cons_succ]))
      (refine Drawn.gen_take (i := 3) rfl (by kernel_rfl) (by kernel_rfl) (by kernel_rfl) (by kernel_rfl) (by omega) (by first | assumption | exact hS0) (by first | exact .inr ⟨by rfl, rfl⟩ | exact .inl ⟨by rfl, by intro w2 hS; obtain ⟨q0, q1, q2, q3, q4, q5⟩ := hS; go_simp; first | done | with_reducible rfl | exact ⟨rfl, rfl⟩⟩) ?_; (try simp only [Act.put, List.setIfInBounds_toArray, List.set_cons_zero, List.set_cons_succ]))
      (refine Drawn.gen_take (i := 4) rfl (by kernel_rfl) (by kernel_rfl) (by kernel_rfl) (by kernel_rfl) (by omega) (by first | assumption | exact hS0) (by first | exact .inr ⟨by rfl, rfl⟩ | exact .inl ⟨by rfl, by intro w2 hS; obtain ⟨q0, q1, q2, q3, q4, q5⟩ := hS; go_simp; first | done | with_reducible rfl | exact ⟨rfl, rfl⟩⟩) ?_; (try simp only [Act.put, List.setIfInBounds_toArray, List.set_cons_zero, List.set_cons_succ]))
      (refine Drawn.gen_take (i := 5) rfl (by kernel_rfl) (by kernel_rfl) (by kernel_rfl) (by kernel_rfl) (by omega) (by first | assumption | exact hS0) (by first | exact .inr ⟨by rfl, rfl⟩ | exact .inl ⟨by rfl, by intro w2 hS; obtain ⟨q0, q1, q2, q3, q4, q5⟩ := hS; go_simp; first | done | with_reducible rfl | exact ⟨rfl, rfl⟩⟩) ?_; (try simp only [Act.put, List.setIfInBounds_toArray, List.set_cons_zero, List.set_cons_succ]))
      (refine Drawn.gen_take (i := 6) rfl (by kernel_rfl) (by kernel_rfl) (by kernel_rfl) (by kernel_rfl) (by omega) (by first | assumption | exact hS0) (by first | exact .inr ⟨by rfl, rfl⟩ | exact .inl ⟨by rfl, by intro w2 hS; obtain ⟨q0, q1, q2, q3, q4, q5⟩ := hS; go_simp; first | done | with_reducible rfl | exact ⟨rfl, rfl⟩⟩) ?_; (try simp only [Act.put, List.setIfInBounds_toArray, List.set_cons_zero, List.set_cons_succ]))
      (refine Drawn.gen_take (i := 8) rfl (by kernel_rfl) (by kernel_rfl) (by kernel_rfl) (by kernel_rfl) (by omega) (by first | assumption | exact hS0) (by first | exact .inr ⟨by rfl, rfl⟩ | exact .inl ⟨by rfl, by intro w2 hS; obtain ⟨q0, q1, q2, q3, q4, q5⟩ := hS; go_simp; first | done | with_reducible rfl | exact ⟨rfl, rfl⟩⟩) ?_; (try simp only [Act.put, List.setIfInBounds_toArray, List.set_cons_zero, List.set_cons_succ]))
      (refine Drawn.gen_take (i := 9) rfl (by kernel_rfl) (by kernel_rfl) (by kernel_rfl) (by kernel_rfl) (by omega) (by first | assumption | exact hS0) (by first | exact .inr ⟨by rfl, rfl⟩ | exact .inl ⟨by rfl, by intro w2 hS; obtain ⟨q0, q1, q2, q3, q4, q5⟩ := hS; go_simp; first | done | with_reducible rfl | exact ⟨rfl, rfl⟩⟩) ?_; (try simp only [Act.put, List.setIfInBounds_toArray, List.set_cons_zero, List.set_cons_succ]))
      (refine Drawn.gen_take (i := 11) rfl (by kernel_rfl) (by kernel_rfl) (by kernel_rfl) (by kernel_rfl) (by omega) (by first | assumption | exact hS0) (by first | exact .inr ⟨by rfl, rfl⟩ | exact .inl ⟨by rfl, by intro w2 hS; obtain ⟨q0, q1, q2, q3, q4, q5⟩ := hS; go_simp; first | done | with_reducible rfl | exact ⟨rfl, rfl⟩⟩) ?_; (try simp only [Act.put, List.setIfInBounds_toArray, List.set_cons_zero, List.set_cons_succ]))
      (refine Drawn.gen_take (i := 12) rfl (by kernel_rfl) (by kernel_rfl) (by kernel_rfl) (by kernel_rfl) (by omega) (by first | assumption | exact hS0) (by first | exact .inr ⟨by rfl, rfl⟩ | exact .inl ⟨by rfl, by intro w2 hS; obtain ⟨q0, q1, q2, q3, q4, q5⟩ := hS; go_simp; first | done | with_reducible rfl | exact ⟨rfl, rfl⟩⟩) ?_; (try simp only [Act.put, List.setIfInBounds_toArray, List.set_cons_zero, List.set_cons_succ]))
      (refine Drawn.gen_take (i := 13) rfl (by kernel_rfl) (by kernel_rfl) (by kernel_rfl) (by kernel_rfl) (by omega) (by first | assumption | exact hS0) (by first | exact .inr ⟨by rfl, rfl⟩ | exact .inl ⟨by rfl, by intro w2 hS; obtain ⟨q0, q1, q2, q3, q4, q5⟩ := hS; go_simp; first | done | with_reducible rfl | exact ⟨rfl, rfl⟩⟩) ?_; (try simp only [Act.put, List.setIfInBounds_toArray, List.set_cons_zero, List.set_cons_succ]))
      (refine Drawn.gen_take (i := 14) rfl (by kernel_rfl) (by kernel_rfl) (by kernel_rfl) (by kernel_rfl) (by omega) (by first | assumption | exact hS0) (by first | exact .inr ⟨by rfl, rfl⟩ | exact .inl ⟨by rfl, by intro w2 hS; obtain ⟨q0, q1, q2, q3, q4, q5⟩ := hS; go_simp; first | done | with_reducible rfl | exact ⟨rfl, rfl⟩⟩) ?_; (try simp only [Act.put, List.setIfInBounds_toArray, List.set_cons_zero, List.set_cons_succ]))
      (refine Drawn.gen_take (i := 15) rfl (by kernel_rfl) (by kernel_rfl) (by kernel_rfl) (by kernel_rfl) (by omega) (by first | assumption | exact hS0) (by first | exact .inr ⟨by rfl, rfl⟩ | exact .inl ⟨by rfl, by intro w2 hS; obtain ⟨q0, q1, q2, q3, q4, q5⟩ := hS; go_simp; first | done | with_reducible rfl | exact ⟨rfl, rfl⟩⟩) ?_; (try simp only [Act.put, List.setIfInBounds_toArray, List.set_cons_zero, List.set_cons_succ]))
      (refine Drawn.gen_take (i := 16) rfl (by kernel_rfl) (by kernel_rfl) (by kernel_rfl) (by kernel_rfl) (by omega) (by first | assumption | exact hS0) (by first | exact .inr ⟨by rfl, rfl⟩ | exact .inl ⟨by rfl, by intro w2 hS; obtain ⟨q0, q1, q2, q3, q4, q5⟩ := hS; go_simp; first | done | with_reducible rfl | exact ⟨rfl, rfl⟩⟩) ?_; (try simp only [Act.put, List.setIfInBounds_toArray, List.set_cons_zero, List.set_cons_succ]))
      refine Drawn.gen_one (i := 7) (by kernel_rfl) rfl (by rfl) ?_
      refine Drawn.Step.call (by go_simp; first | done | with_reducible rfl | exact ⟨rfl, rfl⟩) (recone_of Z51.out _) ?_
      rintro e w' ⟨rfl, rfl⟩
      refine ⟨_, rfl, fun _ => hS0, ?_⟩
      (try simp only [Act.put, List.setIfInBounds_toArray, List.set_cons_zero, List.set_cons_succ])
      refine Drawn.gen_one (i := 10) (by kernel_rfl) rfl (by rfl) ?_
      refine Drawn.Step.call (by go_simp; first | done | with_reducible rfl | exact ⟨rfl, rfl⟩) (recone_of Z52.out _) ?_
      rintro e w' ⟨rfl, rfl⟩
      refine ⟨_, rfl, fun _ => hS0, ?_⟩
      (try simp only [Act.put, List.setIfInBounds_toArray, List.set_cons_zero, List.set_cons_succ])
      refine Drawn.gen_one (i := 17) (by kernel_rfl) rfl (by rfl) ?_
      refine Drawn.Step.value (by go_simp; first | done | with_reducible rfl | exact ⟨rfl, rfl⟩) ?_; refine ⟨by first | (intro hlt; exact absurd hlt (by decide)) | (intro _; exact K7.out _ (Below.alloc (Below.drew (Below.refl _ _)) hsz6 _)), ?_⟩; (try simp only [Act.put, List.setIfInBounds_toArray, List.set_cons_zero, List.set_cons_succ])
      refine Drawn.gen_one (i := 18) (by kernel_rfl) rfl (by rfl) ?_
      refine Drawn.Step.value (run_append_op (.tmp 126) (.tmp 143) 40 rfl rfl rfl R7.out) ⟨fun _ => K7.out _ HB7.out, ?_⟩
      (try simp only [Act.put, List.setIfInBounds_toArray, List.set_cons_zero, List.set_cons_succ])
      refine Drawn.gen_one (i := 19) (by kernel_rfl) rfl (by rfl) ?_
      refine Drawn.Step.value (by go_simp; first | done | with_reducible rfl | exact ⟨rfl, rfl⟩) ?_; refine ⟨by first | (intro hlt; exact absurd hlt (by decide)) | (intro _; omega), ?_⟩; (try simp only [Act.put, List.setIfInBounds_toArray, List.set_cons_zero, List.set_cons_succ])
      refine Drawn.gen_end (by kernel_rfl) ?_
      go_wp2
      obtain ⟨A8, c8, e8, hI8⟩ := ints_of_own HU.out (by simp only [maxLen]; omega)
      refine bodyPost_ret (v := .slice A7 55 c7) (by simp [results, Try.results13, go_sem, *]; first | done | exact ⟨rfl, rfl⟩ | rfl) rfl ⟨⟨A7, ⟨c7, rfl⟩, ?_⟩, by rw [HBOX.out]; exact HE.out⟩
      injection e8 with e8 _ e9
      subst e8
      exact hI8

end Go.Proofs.Ytpfkencgjodehaa.Fix
