/- The statement PaintZ, walked. -/
import Derived.Test.YtbmidmpooooheaaPaWorks
namespace Go.Proofs.Ytbmidmpooooheaa.Fix
open Go.ChangeShapes Go.WideShapes Go.ChangeAt Go.RowKit Go.Deep Go.Joins
set_option linter.unusedVariables false
set_option linter.unusedSimpArgs false
set_option maxRecDepth 100000

set_option maxHeartbeats 8000000 in
theorem paz_walk (C : PaintCode) (a0 : Option Addr) (len0 cap0 : Nat) (a1 a2 : Int) (w : World) (w0 : PRow w a0 len0 cap0) : Calls Try.prog 9 #[.slice a0 len0 cap0, .int .i64 a1, .int .i64 a2] w fun e w' => e = .returned (.bool true) ∧ Below w.heap.size w w' := by
  obtain ⟨l, hS⟩ := w0.sl
  have hn63 := w0.cap
  clear w0
  generalize len0 = n at *
  generalize cap0 = c at *
  have HS := Lib.hid hS
  clear hS
  by_cases hbig : (40 : Int) < (n : Int)
  · go_enter Try.func9, Try.ntmps9
    go_wp2_with (first | (go_at_call 10; (with_reducible refine (paworks_any C _).mono ?_); rintro e w1 ⟨rfl, hB⟩) | (go_at_call 17; (with_reducible refine (C.valid _ _ l n c (HS.out.after hB) hn50).mono ?_); rintro e w1 ⟨rfl, hb⟩; replace hB := hB.trans (hb.mono hB.size); clear hb))
    go_ret; exact ⟨rfl, hB⟩
  have hn50 : n ≤ 50 := by omega
  cases hv : pvB l n with
  | false =>
    go_enter Try.func9, Try.ntmps9
    go_wp2_with (first | (go_at_call 10; (with_reducible refine (paworks_any C _).mono ?_); rintro e w1 ⟨rfl, hB⟩) | (go_at_call 17; (with_reducible refine (C.valid _ _ l n c (HS.out.after hB) hn50).mono ?_); rintro e w1 ⟨rfl, hb⟩; replace hB := hB.trans (hb.mono hB.size); clear hb))
    go_ret; exact ⟨rfl, hB⟩
  | true =>
  have HV := Lib.hid (pvB_iff.1 hv)
  by_cases h1 : a1 < 1
  · go_enter Try.func9, Try.ntmps9
    go_wp2_with (first | (go_at_call 10; (with_reducible refine (paworks_any C _).mono ?_); rintro e w1 ⟨rfl, hB⟩) | (go_at_call 17; (with_reducible refine (C.valid _ _ l n c (HS.out.after hB) hn50).mono ?_); rintro e w1 ⟨rfl, hb⟩; replace hB := hB.trans (hb.mono hB.size); clear hb))
    go_ret; exact ⟨rfl, hB⟩
  by_cases h2 : a2 < 1
  · go_enter Try.func9, Try.ntmps9
    go_wp2_with (first | (go_at_call 10; (with_reducible refine (paworks_any C _).mono ?_); rintro e w1 ⟨rfl, hB⟩) | (go_at_call 17; (with_reducible refine (C.valid _ _ l n c (HS.out.after hB) hn50).mono ?_); rintro e w1 ⟨rfl, hb⟩; replace hB := hB.trans (hb.mono hB.size); clear hb))
    go_ret; exact ⟨rfl, hB⟩
  by_cases h3 : (n : Int) ≤ a1
  · go_enter Try.func9, Try.ntmps9
    go_wp2_with (first | (go_at_call 10; (with_reducible refine (paworks_any C _).mono ?_); rintro e w1 ⟨rfl, hB⟩) | (go_at_call 17; (with_reducible refine (C.valid _ _ l n c (HS.out.after hB) hn50).mono ?_); rintro e w1 ⟨rfl, hb⟩; replace hB := hB.trans (hb.mono hB.size); clear hb))
    go_ret; exact ⟨rfl, hB⟩
  by_cases h4 : (n : Int) ≤ a2
  · go_enter Try.func9, Try.ntmps9
    go_wp2_with (first | (go_at_call 10; (with_reducible refine (paworks_any C _).mono ?_); rintro e w1 ⟨rfl, hB⟩) | (go_at_call 17; (with_reducible refine (C.valid _ _ l n c (HS.out.after hB) hn50).mono ?_); rintro e w1 ⟨rfl, hb⟩; replace hB := hB.trans (hb.mono hB.size); clear hb))
    go_ret; exact ⟨rfl, hB⟩
  obtain ⟨x, rfl⟩ : ∃ x : Nat, a1 = x := ⟨a1.toNat, by omega⟩
  obtain ⟨y, rfl⟩ : ∃ y : Nat, a2 = y := ⟨a2.toNat, by omega⟩
  have hx : x < n := by omega
  have hy : y < n := by omega
  obtain ⟨b, o, rfl, hc⟩ := HS.out.nodes.some (by omega)
  have HC := Lib.hid hc
  clear hc
  cases hlx : (l x).ly with
  | false =>
    go_enter Try.func9, Try.ntmps9
    go_wp2_with (first | (go_at_call 10; (with_reducible refine (paworks_any C _).mono ?_); rintro e w1 ⟨rfl, hB⟩) | (go_at_call 17; (with_reducible refine (C.valid _ _ l n c (HS.out.after hB) hn50).mono ?_); rintro e w1 ⟨rfl, hb⟩; replace hB := hB.trans (hb.mono hB.size); clear hb; obtain ⟨cx0, cx1, cx2⟩ := HC.out _ hB x hx; rw [hlx] at cx1; clear cx0 cx2))
    go_ret; exact ⟨rfl, hB⟩
  | true =>
  cases hly : (l y).ly with
  | true =>
    go_enter Try.func9, Try.ntmps9
    go_wp2_with (first | (go_at_call 10; (with_reducible refine (paworks_any C _).mono ?_); rintro e w1 ⟨rfl, hB⟩) | (go_at_call 17; (with_reducible refine (C.valid _ _ l n c (HS.out.after hB) hn50).mono ?_); rintro e w1 ⟨rfl, hb⟩; replace hB := hB.trans (hb.mono hB.size); clear hb; obtain ⟨cx0, cx1, cx2⟩ := HC.out _ hB x hx; rw [hlx] at cx1; clear cx0 cx2; obtain ⟨cy0, cy1, cy2⟩ := HC.out _ hB y hy; rw [hly] at cy1; clear cy0 cy2))
    go_ret; exact ⟨rfl, hB⟩
  | false =>
  have px := playI_some HV.out (i := x) (by omega) hx
  have py := playI_some HV.out (i := y) (by omega) hy
  have hlz := HV.out.ok.lt x (by omega) hx
  by_cases hla : pla l x = pla l y
  · rw [← hla] at py
    have e1 : pbef l n x y = decide ((l x).z < 0) := by
      have := Pa.ah_z (z := pz l) HV.out.ok (x := x) (y := y) (by omega) hx (by omega) hy hla hlx hly
      rw [← pord_some HV.out, ← pbef_iff] at this
      cases e : pbef l n x y with
      | true => exact (decide_eq_true (this.1 e)).symm
      | false => refine (decide_eq_false fun q => ?_).symm; rw [this.2 q] at e; cases e
    have e2 : pbef l n (pla l x : Nat) x = true := pbef_iff.2 (by rw [pord_some HV.out]; exact Pa.ah_layer HV.out.ok (by omega) hx)
    have E1 := Lib.hid e1
    have E2 := Lib.hid e2
    clear e1 e2 hla
    generalize pla l x = m at *
    go_enter Try.func9, Try.ntmps9
    go_upto_region 6 with (first | (go_at_call 10; (with_reducible refine (paworks_any C _).mono ?_); rintro e w1 ⟨rfl, hB⟩) | (go_at_call 17; (with_reducible refine (C.valid _ _ l n c (HS.out.after hB) hn50).mono ?_); rintro e w1 ⟨rfl, hb⟩; replace hB := hB.trans (hb.mono hB.size); clear hb; obtain ⟨cx0, cx1, cx2⟩ := HC.out _ hB x hx; rw [hlx] at cx1; clear cx0 cx2; obtain ⟨cy0, cy1, cy2⟩ := HC.out _ hB y hy; rw [hly] at cy1; clear cy0 cy2) | (go_at_call 18; (with_reducible refine (C.layer _ _ l n c _ (HS.out.after hB) hn50).mono ?_); rintro e w1 ⟨rfl, hb⟩; replace hB := hB.trans (hb.mono hB.size); clear hb))
    obtain ⟨cx0, cx1, cx2⟩ := HC.out _ hB x hx
    generalize hz : (l x).z = z at *
    refine Drawn.wp_region_gen (S := (fun W' => W'.cell? ⟨b, o + x * 3 + 2, none⟩ = some (.int .i64 z) ∧ Below w1.heap.size w1 W')) 23 (by kernel_rfl) ?_ ?_
    · exact ⟨cx2, Below.drew (Below.refl _ _)⟩
    intro hS0
    clear cx0 cx1 cx2
    (refine Drawn.gen_take (i := 0) rfl (by kernel_rfl) (by kernel_rfl) (by kernel_rfl) (by kernel_rfl) (by omega) (by first | assumption | exact hS0) (by first | exact .inr ⟨by rfl, rfl⟩ | exact .inl ⟨by rfl, by intro w2 hS; obtain ⟨ca, hh⟩ := hS; go_simp; first | done | with_reducible rfl | exact ⟨rfl, rfl⟩⟩) ?_; (try simp only [Act.put, List.setIfInBounds_toArray, List.set_cons_zero, List.set_cons_succ]))
    (refine Drawn.gen_take (i := 1) rfl (by kernel_rfl) (by kernel_rfl) (by kernel_rfl) (by kernel_rfl) (by omega) (by first | assumption | exact hS0) (by first | exact .inr ⟨by rfl, rfl⟩ | exact .inl ⟨by rfl, by intro w2 hS; obtain ⟨ca, hh⟩ := hS; go_simp; first | done | with_reducible rfl | exact ⟨rfl, rfl⟩⟩) ?_; (try simp only [Act.put, List.setIfInBounds_toArray, List.set_cons_zero, List.set_cons_succ]))
    (refine Drawn.gen_take (i := 2) rfl (by kernel_rfl) (by kernel_rfl) (by kernel_rfl) (by kernel_rfl) (by omega) (by first | assumption | exact hS0) (by first | exact .inr ⟨by rfl, rfl⟩ | exact .inl ⟨by rfl, by intro w2 hS; obtain ⟨ca, hh⟩ := hS; go_simp; first | done | with_reducible rfl | exact ⟨rfl, rfl⟩⟩) ?_; (try simp only [Act.put, List.setIfInBounds_toArray, List.set_cons_zero, List.set_cons_succ]))
    (refine Drawn.gen_take (i := 3) rfl (by kernel_rfl) (by kernel_rfl) (by kernel_rfl) (by kernel_rfl) (by omega) (by first | assumption | exact hS0) (by first | exact .inr ⟨by rfl, rfl⟩ | exact .inl ⟨by rfl, by intro w2 hS; obtain ⟨ca, hh⟩ := hS; go_simp; first | done | with_reducible rfl | exact ⟨rfl, rfl⟩⟩) ?_; (try simp only [Act.put, List.setIfInBounds_toArray, List.set_cons_zero, List.set_cons_succ]))
    (refine Drawn.gen_take (i := 4) rfl (by kernel_rfl) (by kernel_rfl) (by kernel_rfl) (by kernel_rfl) (by omega) (by first | assumption | exact hS0) (by first | exact .inr ⟨by rfl, rfl⟩ | exact .inl ⟨by rfl, by intro w2 hS; obtain ⟨ca, hh⟩ := hS; go_simp; first | done | with_reducible rfl | exact ⟨rfl, rfl⟩⟩) ?_; (try simp only [Act.put, List.setIfInBounds_toArray, List.set_cons_zero, List.set_cons_succ]))
    (refine Drawn.gen_take (i := 6) rfl (by kernel_rfl) (by kernel_rfl) (by kernel_rfl) (by kernel_rfl) (by omega) (by first | assumption | exact hS0) (by first | exact .inr ⟨by rfl, rfl⟩ | exact .inl ⟨by rfl, by intro w2 hS; obtain ⟨ca, hh⟩ := hS; go_simp; first | done | with_reducible rfl | exact ⟨rfl, rfl⟩⟩) ?_; (try simp only [Act.put, List.setIfInBounds_toArray, List.set_cons_zero, List.set_cons_succ]))
    (refine Drawn.gen_take (i := 7) rfl (by kernel_rfl) (by kernel_rfl) (by kernel_rfl) (by kernel_rfl) (by omega) (by first | assumption | exact hS0) (by first | exact .inr ⟨by rfl, rfl⟩ | exact .inl ⟨by rfl, by intro w2 hS; obtain ⟨ca, hh⟩ := hS; go_simp; first | done | with_reducible rfl | exact ⟨rfl, rfl⟩⟩) ?_; (try simp only [Act.put, List.setIfInBounds_toArray, List.set_cons_zero, List.set_cons_succ]))
    (refine Drawn.gen_take (i := 8) rfl (by kernel_rfl) (by kernel_rfl) (by kernel_rfl) (by kernel_rfl) (by omega) (by first | assumption | exact hS0) (by first | exact .inr ⟨by rfl, rfl⟩ | exact .inl ⟨by rfl, by intro w2 hS; obtain ⟨ca, hh⟩ := hS; go_simp; first | done | with_reducible rfl | exact ⟨rfl, rfl⟩⟩) ?_; (try simp only [Act.put, List.setIfInBounds_toArray, List.set_cons_zero, List.set_cons_succ]))
    (refine Drawn.gen_take (i := 9) rfl (by kernel_rfl) (by kernel_rfl) (by kernel_rfl) (by kernel_rfl) (by omega) (by first | assumption | exact hS0) (by first | exact .inr ⟨by rfl, rfl⟩ | exact .inl ⟨by rfl, by intro w2 hS; obtain ⟨ca, hh⟩ := hS; go_simp; first | done | with_reducible rfl | exact ⟨rfl, rfl⟩⟩) ?_; (try simp only [Act.put, List.setIfInBounds_toArray, List.set_cons_zero, List.set_cons_succ]))
    (refine Drawn.gen_take (i := 10) rfl (by kernel_rfl) (by kernel_rfl) (by kernel_rfl) (by kernel_rfl) (by omega) (by first | assumption | exact hS0) (by first | exact .inr ⟨by rfl, rfl⟩ | exact .inl ⟨by rfl, by intro w2 hS; obtain ⟨ca, hh⟩ := hS; go_simp; first | done | with_reducible rfl | exact ⟨rfl, rfl⟩⟩) ?_; (try simp only [Act.put, List.setIfInBounds_toArray, List.set_cons_zero, List.set_cons_succ]))
    (refine Drawn.gen_take (i := 11) rfl (by kernel_rfl) (by kernel_rfl) (by kernel_rfl) (by kernel_rfl) (by omega) (by first | assumption | exact hS0) (by first | exact .inr ⟨by rfl, rfl⟩ | exact .inl ⟨by rfl, by intro w2 hS; obtain ⟨ca, hh⟩ := hS; go_simp; first | done | with_reducible rfl | exact ⟨rfl, rfl⟩⟩) ?_; (try simp only [Act.put, List.setIfInBounds_toArray, List.set_cons_zero, List.set_cons_succ]))
    refine Drawn.gen_one (i := 5) (by kernel_rfl) rfl (by rfl) ?_
    refine Drawn.Step.call (by go_simp; first | done | with_reducible rfl | exact ⟨rfl, rfl⟩) (C.before _ _ l n c _ _ (HS.out.after (hB.trans (hS0.2.mono hB.size))) hn50) ?_
    rintro e w4 ⟨rfl, hb⟩
    have hS1 := hS0.2.trans (hb.mono hS0.2.size)
    have hS1' := (HC.out _ (hB.trans (hS1.mono hB.size)) x hx).2.2
    rw [hz] at hS1'
    replace hS0 := And.intro hS1' hS1
    rw [E1.out]
    refine ⟨_, rfl, fun _ => hS0, ?_⟩
    clear hS1 hS1' hb
    (try simp only [Act.put, List.setIfInBounds_toArray, List.set_cons_zero, List.set_cons_succ])
    (refine Drawn.gen_take (i := 12) rfl (by kernel_rfl) (by kernel_rfl) (by kernel_rfl) (by kernel_rfl) (by omega) (by first | assumption | exact hS0) (by first | exact .inr ⟨by rfl, rfl⟩ | exact .inl ⟨by rfl, by intro w2 hS; obtain ⟨ca, hh⟩ := hS; go_simp; first | done | with_reducible rfl | exact ⟨rfl, rfl⟩⟩) ?_; (try simp only [Act.put, List.setIfInBounds_toArray, List.set_cons_zero, List.set_cons_succ]))
    (refine Drawn.gen_take (i := 13) rfl (by kernel_rfl) (by kernel_rfl) (by kernel_rfl) (by kernel_rfl) (by omega) (by first | assumption | exact hS0) (by first | exact .inr ⟨by rfl, rfl⟩ | exact .inl ⟨by rfl, by intro w2 hS; obtain ⟨ca, hh⟩ := hS; go_simp; first | done | with_reducible rfl | exact ⟨rfl, rfl⟩⟩) ?_; (try simp only [Act.put, List.setIfInBounds_toArray, List.set_cons_zero, List.set_cons_succ]))
    (refine Drawn.gen_take (i := 14) rfl (by kernel_rfl) (by kernel_rfl) (by kernel_rfl) (by kernel_rfl) (by omega) (by first | assumption | exact hS0) (by first | exact .inr ⟨by rfl, rfl⟩ | exact .inl ⟨by rfl, by intro w2 hS; obtain ⟨ca, hh⟩ := hS; go_simp; first | done | with_reducible rfl | exact ⟨rfl, rfl⟩⟩) ?_; (try simp only [Act.put, List.setIfInBounds_toArray, List.set_cons_zero, List.set_cons_succ]))
    (refine Drawn.gen_take (i := 15) rfl (by kernel_rfl) (by kernel_rfl) (by kernel_rfl) (by kernel_rfl) (by omega) (by first | assumption | exact hS0) (by first | exact .inr ⟨by rfl, rfl⟩ | exact .inl ⟨by rfl, by intro w2 hS; obtain ⟨ca, hh⟩ := hS; go_simp; first | done | with_reducible rfl | exact ⟨rfl, rfl⟩⟩) ?_; (try simp only [Act.put, List.setIfInBounds_toArray, List.set_cons_zero, List.set_cons_succ]))
    (refine Drawn.gen_take (i := 16) rfl (by kernel_rfl) (by kernel_rfl) (by kernel_rfl) (by kernel_rfl) (by omega) (by first | assumption | exact hS0) (by first | exact .inr ⟨by rfl, rfl⟩ | exact .inl ⟨by rfl, by intro w2 hS; obtain ⟨ca, hh⟩ := hS; go_simp; first | done | with_reducible rfl | exact ⟨rfl, rfl⟩⟩) ?_; (try simp only [Act.put, List.setIfInBounds_toArray, List.set_cons_zero, List.set_cons_succ]))
    (refine Drawn.gen_take (i := 17) rfl (by kernel_rfl) (by kernel_rfl) (by kernel_rfl) (by kernel_rfl) (by omega) (by first | assumption | exact hS0) (by first | exact .inr ⟨by rfl, rfl⟩ | exact .inl ⟨by rfl, by intro w2 hS; obtain ⟨ca, hh⟩ := hS; go_simp; first | done | with_reducible rfl | exact ⟨rfl, rfl⟩⟩) ?_; (try simp only [Act.put, List.setIfInBounds_toArray, List.set_cons_zero, List.set_cons_succ]))
    (refine Drawn.gen_take (i := 19) rfl (by kernel_rfl) (by kernel_rfl) (by kernel_rfl) (by kernel_rfl) (by omega) (by first | assumption | exact hS0) (by first | exact .inr ⟨by rfl, rfl⟩ | exact .inl ⟨by rfl, by intro w2 hS; obtain ⟨ca, hh⟩ := hS; go_simp; first | done | with_reducible rfl | exact ⟨rfl, rfl⟩⟩) ?_; (try simp only [Act.put, List.setIfInBounds_toArray, List.set_cons_zero, List.set_cons_succ]))
    refine Drawn.gen_one (i := 18) (by kernel_rfl) rfl (by rfl) ?_
    refine Drawn.Step.call (by go_simp; first | done | with_reducible rfl | exact ⟨rfl, rfl⟩) (C.layer _ _ l n c _ (HS.out.after (hB.trans (hS0.2.mono hB.size))) hn50) ?_
    rintro e w5 ⟨rfl, hb⟩
    have hS1 := hS0.2.trans (hb.mono hS0.2.size)
    have hS1' := (HC.out _ (hB.trans (hS1.mono hB.size)) x hx).2.2
    rw [hz] at hS1'
    replace hS0 := And.intro hS1' hS1
    rw [px]
    refine ⟨_, rfl, fun _ => hS0, ?_⟩
    clear hS1 hS1' hb
    (try simp only [Act.put, List.setIfInBounds_toArray, List.set_cons_zero, List.set_cons_succ])
    refine Drawn.gen_one (i := 20) (by kernel_rfl) rfl (by rfl) ?_
    refine Drawn.Step.call (by go_simp; first | done | with_reducible rfl | exact ⟨rfl, rfl⟩) (C.before _ _ l n c _ _ (HS.out.after (hB.trans (hS0.2.mono hB.size))) hn50) ?_
    rintro e w6 ⟨rfl, hb⟩
    have hS1 := hS0.2.trans (hb.mono hS0.2.size)
    have hS1' := (HC.out _ (hB.trans (hS1.mono hB.size)) x hx).2.2
    rw [hz] at hS1'
    replace hS0 := And.intro hS1' hS1
    rw [E2.out]
    refine ⟨_, rfl, fun _ => hS0, ?_⟩
    clear hS1 hS1' hb
    (try simp only [Act.put, List.setIfInBounds_toArray, List.set_cons_zero, List.set_cons_succ])
    (refine Drawn.gen_take (i := 21) rfl (by kernel_rfl) (by kernel_rfl) (by kernel_rfl) (by kernel_rfl) (by omega) (by first | assumption | exact hS0) (by first | exact .inr ⟨by rfl, rfl⟩ | exact .inl ⟨by rfl, by intro w2 hS; obtain ⟨ca, hh⟩ := hS; go_simp; first | done | with_reducible rfl | exact ⟨rfl, rfl⟩⟩) ?_; (try simp only [Act.put, List.setIfInBounds_toArray, List.set_cons_zero, List.set_cons_succ]))
    (refine Drawn.gen_take (i := 22) rfl (by kernel_rfl) (by kernel_rfl) (by kernel_rfl) (by kernel_rfl) (by omega) (by first | assumption | exact hS0) (by first | exact .inr ⟨by rfl, rfl⟩ | exact .inl ⟨by rfl, by intro w2 hS; obtain ⟨ca, hh⟩ := hS; go_simp; first | done | with_reducible rfl | exact ⟨rfl, rfl⟩⟩) ?_; (try simp only [Act.put, List.setIfInBounds_toArray, List.set_cons_zero, List.set_cons_succ]))
    refine Drawn.gen_end (by kernel_rfl) ?_
    go_wp2
    go_ret
    exact ⟨rfl, hB.trans (hS0.2.mono hB.size)⟩
  · have hla2 : ((pla l x : Nat) : Int) ≠ (pla l y : Nat) := by omega
    have hlb : (((pla l x : Nat) : Int) != (pla l y : Nat)) = true := by simpa using hla2
    generalize pla l x = m at *
    generalize pla l y = k at *
    go_enter Try.func9, Try.ntmps9
    go_wp2_with (first | (go_at_call 10; (with_reducible refine (paworks_any C _).mono ?_); rintro e w1 ⟨rfl, hB⟩) | (go_at_call 17; (with_reducible refine (C.valid _ _ l n c (HS.out.after hB) hn50).mono ?_); rintro e w1 ⟨rfl, hb⟩; replace hB := hB.trans (hb.mono hB.size); clear hb; obtain ⟨cx0, cx1, cx2⟩ := HC.out _ hB x hx; rw [hlx] at cx1; clear cx0 cx2; obtain ⟨cy0, cy1, cy2⟩ := HC.out _ hB y hy; rw [hly] at cy1; clear cy0 cy2) | (go_at_call 18; (with_reducible refine (C.layer _ _ l n c _ (HS.out.after hB) hn50).mono ?_); rintro e w1 ⟨rfl, hb⟩; replace hB := hB.trans (hb.mono hB.size); clear hb))
    go_ret; exact ⟨rfl, hB⟩

end Go.Proofs.Ytbmidmpooooheaa.Fix
