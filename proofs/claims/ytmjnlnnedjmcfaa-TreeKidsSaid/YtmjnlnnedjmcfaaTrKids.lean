/- The statement TreeKids, walked. -/
import Derived.Test.YtmjnlnnedjmcfaaTrShare
namespace Go.Proofs.Ytmjnlnnedjmcfaa.Fix
open Go.ChangeShapes Go.WideShapes Go.ChangeAt Go.RowKit Go.Deep Go.Joins Go.Shelf
set_option linter.unusedVariables false
set_option linter.unusedSimpArgs false
set_option maxRecDepth 100000

/-- what holds of a box that came -/
structure Added (T T2 : Tr.T) (u : Int) (i : Nat) (z : Int) (ks ls : List Int) : Prop where
  le : i ≤ ks.length
  is : ls = Tr.wi ks i z
  len : ls.length = ks.length + 1
  at_ : ls.getD i 0 = z
  rest : ls.take i ++ ls.drop (i + 1) = ks
  none : kidsOf T2 z = []
  sty : styOf T2 z = Re.zero
  num : (Tr.ord T2).length = (Tr.ord T).length + 1
theorem added {T : Tr.T} (H : Tr.WF T) {u a : Int} (h : Tr.addE T u a = 0) (hn : (Tr.ord T).length < 4096) : ∃ i : Nat, a = i ∧ Added T (Tr.addR T u a) u i (Tr.addI T u a) (kidsOf T u) (kidsOf (Tr.addR T u a) u) := by
  have hN := (H.addR u a hn).2
  rw [if_pos h] at hN
  have hI : Tr.addI T u a = Tr.free T := by unfold Tr.addI; rw [if_pos h]
  have hR : Tr.addR T u a = Tr.addT T (Tr.free T) u a.toNat := by unfold Tr.addR; rw [if_pos h]
  unfold Tr.addE at h
  cases hu : T u with
  | none => rw [hu] at h; cases h
  | some p =>
    rw [hu] at h
    dsimp only at h
    split at h
    · cases h
    · rename_i h1
      rw [hI]
      rw [hR] at hN ⊢
      have A := fun y => Tr.add_at (i := a.toNat) hu H.free_is.1.2.1 y
      have hne : u ≠ Tr.free T := fun e => by have := H.free_is.1.2.1; rw [← e, hu] at this; cases this
      have ek : kidsOf T u = p.kids := by unfold kidsOf; rw [hu]; rfl
      have el : kidsOf (Tr.addT T (Tr.free T) u a.toNat) u = Tr.wi p.kids a.toNat (Tr.free T) := by unfold kidsOf; rw [A, if_neg hne, if_pos rfl]; rfl
      have hl : a.toNat ≤ p.kids.length := by omega
      have ht : (p.kids.take a.toNat).length = a.toNat := by rw [List.length_take]; omega
      refine ⟨a.toNat, by omega, ?_⟩
      rw [ek, el]
      refine ⟨hl, rfl, Tr.length_wi _ _ _, ?_, ?_, ?_, ?_, hN⟩
      · unfold Tr.wi
        rw [List.getD, List.getElem?_append_right (by omega), ht]
        simp
      · unfold Tr.wi
        rw [List.take_append_of_le_length (by omega), List.take_of_length_le (by omega), List.drop_append, ht, List.drop_of_length_le (by omega)]
        simp [show a.toNat + 1 - a.toNat = 1 by omega]
      · unfold kidsOf; rw [A, if_pos rfl]; rfl
      · unfold styOf; rw [A, if_pos rfl]; rfl

set_option maxHeartbeats 16000000 in
theorem trkids_walk (a0 : Option Addr) (len0 cap0 : Nat) (a1 a2 : Int) (w : World) (w0 : ARow w a0 len0 cap0) (w1 : (Lit.int .i64 a1).wf = true) : Calls Try.prog 7 #[.slice a0 len0 cap0, .int .i64 a1, .int .i64 a2] w fun e w' => e = .returned (.bool true) ∧ Below w.heap.size w w' := by
  obtain ⟨l, hA⟩ := w0.acts
  have hW1 : Wf a1 := w1
  clear w0 w1
  go_enter Try.func7, Try.ntmps7
  go_upto_region 4 with (go_at_call 10; (with_reducible refine (trworks_any _).mono ?_); rintro e w1 ⟨rfl, hb1⟩)
  by_cases hbig : (100 : Int) < (len0 : Int)
  · go_wp2
    go_ret
    exact ⟨rfl, hb1⟩
  go_upto_region 7 with (go_at_call 11; (with_reducible refine (gnew_any _).mono ?_); rintro e w2 ⟨⟨tb, rfl, L0, g0⟩, hb2⟩)
  have HG0 := Lib.hid (g0.low hb1.size)
  have HB2 := Lib.hid (hb1.trans (hb2.mono hb1.size))
  have HA := Lib.hid hA
  clear g0 hA hb1 hb2
  go_wp2
  go_loopw [9] (fun i wr => ∃ k Lr Tr' n, k ≤ len0 ∧ i = .int .i64 (k : Int) ∧ Good wr tb Lr Tr' n w.heap.size ∧ n ≤ k + 1 ∧ Below w.heap.size w wr) (fun i _ => len0 - (intOf i).toNat)
  case atStart => exact ⟨0, L0, T0, 1, by omega, rfl, HG0.out, by omega, HB2.out⟩
  case round =>
    obtain ⟨k, Lr, Tr', n, hk, rfl, hgr, hnk, hbr⟩ := hrel; have HGr := Lib.hid hgr; have HBr := Lib.hid hbr; have hnr := hbr.size; clear hgr
    by_cases hlt : k < len0
    · have hltz : (k : Int) < (len0 : Int) := by omega
      obtain ⟨b, off, rfl, lb, hc⟩ := (HA.out.after hbr) (by omega); obtain ⟨hf, ha⟩ := hc k hlt; have HF := Lib.hid hf; have HACT := Lib.hid ha; clear hf ha hc hbr
      go_wp2_with (first | (refine wpList_load_act (by rfl) _ rfl rfl HACT.out ?_) | (go_at_call 28; (with_reducible refine (do_any HGr.out (by omega) hnr HF.out).mono ?_); rintro e w4 ⟨⟨v4, rfl⟩, L4, n4, hg4, hn4, hb4⟩))
      go_roundw
      case rel => exact ⟨k + 1, L4, doT Tr' (l k), n4, by omega, by go_num, hg4, by omega, HBr.out.trans hb4⟩
      case measure => simp [intOf]; omega
    · have hltz : ¬ (k : Int) < (len0 : Int) := by omega
      obtain rfl : k = len0 := by omega
      clear hbr HG0 HB2 HA
      have keyK := gkids_any HGr.out hW1
      have hnl : (Tr.ord Tr').length < 4096 := by rw [HGr.out.inv.num]; omega
      have HAD := Lib.hid fun (h : Tr.addE Tr' a1 a2 = 0) => added HGr.out.inv.wf h hnl
      have hkl := kidsOf_small HGr.out.inv.wf a1
      have hn4 : n < 4096 := by omega
      have hsame : Tr.addE Tr' a1 a2 ≠ 0 → Tr.addR Tr' a1 a2 = Tr' ∧ Tr.addI Tr' a1 a2 = -1 := fun h => by unfold Tr.addR Tr.addI; rw [if_neg h, if_neg h]; exact ⟨rfl, rfl⟩
      have HSAME := Lib.hid hsame
      clear hsame
      go_upto_region 15 with (first | (go_at_call 32; (with_reducible refine (gadd_any HG5.out hn4 hn5 (a := a2) hW1).mono ?_); rintro e w6 ⟨rfl, L6, n6, hg6, hn6, hgr6, hb6⟩; have hk6 := hk5.grow hgr6) | (go_at_call 27; (with_reducible refine (tlen_any HG5.out.inv.rep).mono ?_); rintro e w' ⟨rfl, rfl⟩) | (go_at_call 23; (with_reducible refine (gkids_any hg6 hW1).mono ?_); rintro e w7 ⟨⟨v7, rfl, hk7⟩, hb7⟩) | (go_at_call 23; (with_reducible refine keyK.mono ?_); rintro e w5 ⟨⟨v5, rfl, hk5⟩, hb5⟩; have HG5 := Lib.hid (HGr.out.after hb5); have hn5 := Nat.le_trans hnr hb5.size))
      have hg7 := hg6.after hb7
      have hk5' := hk6.after hb7
      have HB7 := Lib.hid (HBr.out.trans ((hb5.mono hnr).trans (hb6.trans (hb7.mono (Nat.le_trans hn5 hb6.size)))))
      have hn7 := HB7.out.size
      obtain ⟨A5, c5, rfl, _⟩ := hk5'.row.ints
      obtain ⟨A7, c7, rfl, hI7, hlc7, _, hcn7⟩ := hk7.row.ints
      have HK5 := Lib.hid hk5'
      have HK7 := Lib.hid hk7
      have HI7 := Lib.hid hI7
      clear hk5 hk5' hk6 hk7 hI7 hb5 hb6 hb7 hgr6 hg6 keyK HG5 HBr
      by_cases hE : Tr.addE Tr' a1 a2 = 0
      · obtain ⟨i, rfl, had⟩ := HAD.out hE
        have hnum : n6 = n + 1 := by rw [← hg7.inv.num, had.num, HGr.out.inv.num]
        subst hnum
        rw [hE]
        have hzw : Wf (Tr.addI Tr' a1 (i : Int)) := by
          have hI : Tr.addI Tr' a1 (i : Int) = Tr.free Tr' := by unfold Tr.addI; rw [if_pos hE]
          have hf := HGr.out.inv.wf.free_is
          rw [HGr.out.inv.num] at hf
          have h0 := hf.1.1
          rw [hI, wf_iff]; omega
        generalize Tr.addI Tr' a1 (i : Int) = z at *
        generalize Tr.addR Tr' a1 (i : Int) = T2 at *
        generalize hls : kidsOf T2 a1 = ls at *
        generalize hks : kidsOf Tr' a1 = ks at *
        have hll := had.len
        obtain ⟨b7, o7, rfl, lb7, hc7⟩ := HI7.out.at_ (k := i) (by rw [hll]; have := had.le; omega)
        rw [had.at_] at hc7
        have hile := had.le
        have HAD2 := Lib.hid had
        have HLL := Lib.hid hll
        rw [hll] at hlc7 ⊢
        generalize hm : ks.length = m at *
        have HM := Lib.hid hm
        have HG7 := Lib.hid hg7
        have keyS := tstyle_any hg7.inv.rep hzw
        have hst : (T2 z).elim Re.zero (·.sty) = Re.zero := had.sty
        rw [hst] at keyS
        have keyL := tlen_any hg7.inv.rep
        have hw1 : IntKind.i64.wrap ((m : Int) + 1) = (m : Int) + 1 := by rw [IntWalk.i64_in _ (by omega)]
        have hw2 : IntKind.i64.wrap ((n : Int) + 1) = (n : Int) + 1 := by rw [IntWalk.i64_in _ (by omega)]
        have hw3 : IntKind.i64.wrap ((i : Int) + 1) = (i : Int) + 1 := by rw [IntWalk.i64_in _ (by omega)]
        have hiz : (i : Int) < (m : Int) + 1 := by omega
        clear had hll hm hg7 HAD HSAME HGr hst hE hks hls hnl
        go_upto_region 20 with (first | (go_at_call 27; (with_reducible refine keyL.mono ?_); rintro e w' ⟨rfl, rfl⟩) | (go_at_call 20; (with_reducible refine keyS.mono ?_); rintro e w8 ⟨rfl, hb8⟩) | (refine wpList_build_zero (by rfl) rfl ?_) | (refine wpList_neq_sty (by rfl) _ _ rfl rfl rfl fits_zero fits_zero (r := false) (by rw [same_self]; rfl) ?_))
        have hG8 := Lib.hid (HG7.out.after hb8)
        have HK8 := Lib.hid (HK5.out.after hb8)
        have HB8 := Lib.hid (HB7.out.trans (hb8.mono hn7))
        have hn8 := HB8.out.size
        have hI8 := HI7.out.after hb8
        have F1 := Lib.hid (slice_upto (some ⟨b7, o7, none⟩) (m + 1) c7 i (by omega))
        have F2 := Lib.hid (slice_from (some ⟨b7, o7, none⟩) (m + 1) c7 (i + 1) (by omega))
        have U1 := hI8.upto i c7 (by rw [HLL.out]; omega) (by rw [HLL.out]; omega)
        have U2 := fun W (hb : Below w8.heap.size w8 W) => (hI8.after hb).from_ (i + 1) c7 (by rw [HLL.out]; omega) (by rw [HLL.out]; omega)
        have N1 : (if c7 = 0 then some (⟨b7, o7, none⟩ : Addr) else (some (⟨b7, o7, none⟩ : Addr)).map (·.add (0 * 1))) = none → c7 = 0 := fun h => by split at h <;> cases h
        have N2 : (if c7 = i + 1 then some (⟨b7, o7, none⟩ : Addr) else (some (⟨b7, o7, none⟩ : Addr)).map (·.add ((i + 1) * 1))) = none → c7 - (i + 1) = 0 := fun h => by split at h <;> cases h
        generalize (if c7 = 0 then some (⟨b7, o7, none⟩ : Addr) else (some (⟨b7, o7, none⟩ : Addr)).map (·.add (0 * 1))) = B1 at *
        generalize (if c7 = i + 1 then some (⟨b7, o7, none⟩ : Addr) else (some (⟨b7, o7, none⟩ : Addr)).map (·.add ((i + 1) * 1))) = B2 at *
        obtain ⟨v1, w9, hr1, ho1, hb9, hs9⟩ := append_ints (w0 := w8) (base := w8.heap.size) (xs := []) (World.ownsRow_nil _ _ _ _) (Below.refl _ _) (Nat.le_refl _) U1 (m := i) (by rw [List.length_take, HLL.out]; omega) N1 (by omega)
        obtain ⟨v2, w10, hr2, ho2, hb10, hs10⟩ := append_ints ho1 hb9 hs9 (U2 w9 hb9) (m := m - i) (by rw [List.length_drop, HLL.out]; omega) N2 (by omega)
        have hks : KS w10 v2 ks := by
          have e := HAD2.out.rest
          rw [List.nil_append, e, show 0 + i + (m - i) = ks.length by rw [HM.out]; omega] at ho2
          exact rowBase ho2 (Nat.zero_le _)
        obtain ⟨A10, c10, hv2, _⟩ := hks.ints
        rw [HM.out] at hv2
        subst hv2
        have HR1 := Lib.hid hr1
        have HR2 := Lib.hid hr2
        have HKS := Lib.hid hks
        have HB10 := Lib.hid hb10
        have hsub : m + 1 - (i + 1) = m - i := by omega
        rw [hsub] at F2
        clear hr1 hr2 ho1 ho2 hb9 hs9 hs10 hb10 U1 U2 N1 N2 hks hI8 hb8 keyS keyL hc7
        go_upto_region 21 with (first | (refine wpList_sliced rfl (by rfl) (F1.out _) ?_) | (at_builtin; refine wpList_append_run (by rfl) _ _ 50 rfl rfl rfl HR1.out ?_))
        go_upto_region 22 with (first | (refine wpList_sliced rfl (by rfl) (F2.out _) ?_) | (at_builtin; refine wpList_append_run (by rfl) _ _ 50 rfl rfl rfl HR2.out ?_))
        have keyR := krow_any HKS.out (HK8.out.after HB10.out).row (by rw [HM.out]; omega)
        have HG10 := Lib.hid (hG8.out.after HB10.out)
        go_wp2_with (first | (go_at_call 22; (with_reducible refine keyR.mono ?_); rintro e w11 ⟨rfl, hb11⟩; have keyK2 := gkids_any (HG10.out.after hb11) hzw; rw [HAD2.out.none] at keyK2) | (go_at_call 23; (with_reducible refine keyK2.mono ?_); rintro e w12 ⟨⟨v12, rfl, hk12⟩, hb12⟩; obtain ⟨A12, c12, rfl, _⟩ := hk12.row.ints))
        go_ret
        exact ⟨rfl, HB8.out.trans ((HB10.out.trans ((hb11.trans (hb12.mono hb11.size)).mono HB10.out.size)).mono hn8)⟩
      · obtain ⟨e1, e2⟩ := HSAME.out hE
        rw [e1] at hg7 HK7 HK5
        rw [e1, e2]
        have hnum : n6 = n := by rw [← hg7.inv.num, HGr.out.inv.num]
        subst hnum
        have keyR := krow_any HK5.out.row HK7.out.row (by omega)
        have HG7 := Lib.hid hg7
        clear HGr hg7 HK5 HK7 HI7 HAD HSAME e1 e2 hnr
        generalize Tr.addE Tr' a1 a2 = E at *
        have hEb : (E == 0) = false := by simpa using hE
        generalize (kidsOf Tr' a1).length = m at *
        go_wp2_with (first | (go_at_call 22; (with_reducible refine keyR.mono ?_); rintro e w8 ⟨rfl, hb8⟩; have keyL := tlen_any (HG7.out.after hb8).inv.rep) | (go_at_call 27; (with_reducible refine keyL.mono ?_); rintro e w' ⟨rfl, rfl⟩))
        go_ret
        exact ⟨rfl, HB7.out.trans (hb8.mono hn7)⟩

end Go.Proofs.Ytmjnlnnedjmcfaa.Fix
