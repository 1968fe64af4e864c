/- The statement TreeClone, walked. -/
import Derived.Test.YtmjnlnnedjmcfaaTrShare
namespace Go.Proofs.Ytmjnlnnedjmcfaa.Fix
open Go.ChangeShapes Go.WideShapes Go.ChangeAt Go.RowKit Go.Deep Go.Joins Go.Shelf
set_option linter.unusedVariables false
set_option linter.unusedSimpArgs false
set_option maxRecDepth 100000

theorem gstyle2_any {w : World} {t n n0 : Nat} {L : Lay} {T : Tr.T} (h : Good w t L T n n0) {z : Int} (hz : Wf z) : Calls Try.prog 20 #[.pointer (some ⟨t, 0, none⟩), .int .i64 z] w fun e w' => e = .returned (.agg (cells (styOf T z))) ∧ Below w.heap.size w w' := tstyle_any h.inv.rep hz
theorem gclone_any {w : World} {t n n0 : Nat} {L : Lay} {T : Tr.T} (h : Good w t L T n n0) : Calls Try.prog 29 #[.pointer (some ⟨t, 0, none⟩)] w fun e w' => (∃ t', e = .returned (.pointer (some ⟨t', 0, none⟩)) ∧ ∃ L', Good w' t' L' T n w.heap.size) ∧ Below w.heap.size w w' := by
  refine (tclone_any h.inv).mono ?_
  rintro e w' ⟨⟨t', rfl, L', hi, ho⟩, hb⟩
  exact ⟨⟨t', rfl, L', hi, ho, h.fit⟩, hb⟩
/-- what holds of a box that went -/
theorem removed {T : Tr.T} (H : Tr.WF T) {x : Int} (h : Tr.remE T x = 0) : ∃ N : Nat, Tr.remI T x = N ∧ 1 ≤ N ∧ (Tr.ord (Tr.remR T x)).length + N = (Tr.ord T).length ∧ Tr.remR T x x = none := by
  have hI : Tr.remI T x = (Tr.sub T 64 x).length := by unfold Tr.remI; rw [if_pos h]
  have hR : Tr.remR T x = Tr.remT T x := by unfold Tr.remR; rw [if_pos h]
  unfold Tr.remE at h
  cases hx : T x with
  | none => rw [hx] at h; cases h
  | some nd =>
    rw [hx] at h
    dsimp only at h
    split at h
    · cases h
    · rename_i h0
      refine ⟨_, hI, List.length_pos_of_mem (H.self_in hx h0), by rw [hR]; exact H.rem_ord hx h0, ?_⟩
      rw [hR]
      cases e : Tr.remT T x x with
      | none => rfl
      | some q => exact absurd (H.self_in hx h0) ((H.rem_live hx h0 x).1 ⟨q, e⟩).2

set_option maxHeartbeats 16000000 in
theorem trclone_walk (a0 : Option Addr) (len0 cap0 : Nat) (a1 : Option Addr) (len1 cap1 : Nat) (a2 : Int) (w : World) (w0 : ARow w a0 len0 cap0) (w1 : ARow w a1 len1 cap1) (w2 : (Lit.int .i64 a2).wf = true) : Calls Try.prog 5 #[.slice a0 len0 cap0, .slice a1 len1 cap1, .int .i64 a2] w fun e w' => e = .returned (.bool true) ∧ Below w.heap.size w w' := by
  obtain ⟨l, hA⟩ := w0.acts
  obtain ⟨l1, hA1⟩ := w1.acts
  have hW2 : Wf a2 := w2
  clear w0 w1 w2
  go_enter Try.func5, Try.ntmps5
  go_upto_region 4 with (go_at_call 10; (with_reducible refine (trworks_any _).mono ?_); rintro e w1 ⟨rfl, hb1⟩)
  by_cases hbig : (100 : Int) < (len0 : Int)
  · go_wp2
    go_ret
    exact ⟨rfl, hb1⟩
  by_cases hbig1 : (100 : Int) < (len1 : Int)
  · go_wp2
    go_ret
    exact ⟨rfl, hb1⟩
  go_upto_region 7 with (go_at_call 11; (with_reducible refine (gnew_any _).mono ?_); rintro e w2 ⟨⟨tb, rfl, L0, g0⟩, hb2⟩)
  have HG0 := Lib.hid (g0.low hb1.size)
  have HB2 := Lib.hid (hb1.trans (hb2.mono hb1.size))
  have HA := Lib.hid hA
  have HA1 := Lib.hid hA1
  clear g0 hA hA1 hb1 hb2
  go_wp2
  go_loopw [9] (fun i wr => ∃ k Lr Tr' n, k ≤ len0 ∧ i = .int .i64 (k : Int) ∧ Good wr tb Lr Tr' n w.heap.size ∧ n ≤ k + 1 ∧ Below w.heap.size w wr) (fun i _ => len0 - (intOf i).toNat)
  case atStart => exact ⟨0, L0, T0, 1, by omega, rfl, HG0.out, by omega, HB2.out⟩
  case round =>
    obtain ⟨k, Lr, Tr', n, hk, rfl, hgr, hnk, hbr⟩ := hrel; have HGr := Lib.hid hgr; have HBr := Lib.hid hbr; have hnr := hbr.size; clear hgr
    by_cases hlt : k < len0
    · have hltz : (k : Int) < (len0 : Int) := by omega
      obtain ⟨b, off, rfl, lb, hc⟩ := (HA.out.after hbr) (by omega); obtain ⟨hf, ha⟩ := hc k hlt; have HF := Lib.hid hf; have HACT := Lib.hid ha; clear hf ha hc hbr
      go_wp2_with (first | (refine wpList_load_act (by rfl) _ rfl rfl HACT.out ?_) | (go_at_call 28; (with_reducible refine (do_any HGr.out (by omega) hnr HF.out).mono ?_); rintro e w4 ⟨⟨v4, rfl⟩, L4, n4, hg4, hn4, hb4⟩))
      go_roundw
      case rel => exact ⟨k + 1, L4, doT Tr' (l k), n4, by omega, by go_num, hg4, by omega, HBr.out.trans hb4⟩
      case measure => simp [intOf]; omega
    · have hltz : ¬ (k : Int) < (len0 : Int) := by omega
      obtain rfl : k = len0 := by omega
      clear hbr HG0 HB2 HA
      have keyO := gorder_any HGr.out
      have hsf := style_wf HGr.out.fit a2
      have HSF := Lib.hid hsf
      clear hsf
      have hol := ord_len HGr.out
      go_upto_region 13 with (first | (go_at_call 26; (with_reducible refine keyO.mono ?_); rintro e w5 ⟨⟨v5, rfl, hk5⟩, hb5⟩; have HG5 := Lib.hid (HGr.out.after hb5)) | (go_at_call 29; (with_reducible refine (gclone_any HG5.out).mono ?_); rintro e w6 ⟨⟨tc, rfl, Lc, hgc⟩, hb6⟩))
      have HB5 := Lib.hid (HBr.out.trans (hb5.mono hnr))
      have HK5 := Lib.hid hk5
      obtain ⟨A5, c5, rfl, _⟩ := hk5.row.ints
      have HNUM := Lib.hid HG5.out.inv.num
      have HGc := Lib.hid hgc
      have keyOc := gorder_any hgc
      have HBC := Lib.hid hb6
      clear HGr HBr hnr hb5 hk5 hgc hb6 keyO
      go_upto_region 15 with (first | (go_at_call 26; (with_reducible refine keyOc.mono ?_); rintro e w7 ⟨⟨v7, rfl, hk7⟩, hb7⟩; have HB7 := Lib.hid (HBC.out.trans (hb7.mono HBC.out.size)); have keyR := krow_any hk7.row (HK5.out.after HB7.out).row hol; have HGc7 := Lib.hid (HGc.out.after hb7)) | (go_at_call 22; (with_reducible refine keyR.mono ?_); rintro e w8 ⟨rfl, hb8⟩; have HB8 := Lib.hid (HB7.out.trans (hb8.mono HB7.out.size)); have HGc8 := Lib.hid (HGc7.out.after hb8)) | (go_at_call 20; first | ((with_reducible refine (gstyle2_any HGc8.out hW2).mono ?_); rintro e w9 ⟨rfl, hb9⟩; have HB9 := Lib.hid (HB8.out.trans (hb9.mono HB8.out.size)); have HGc9 := Lib.hid (HGc8.out.after hb9)) | ((with_reducible refine (gstyle2_any (HG5.out.after HB9.out) hW2).mono ?_); rintro e w10 ⟨rfl, hb10⟩)) | (refine wpList_neq_sty (by rfl) _ _ rfl rfl rfl HSF.out HSF.out (r := false) (by rw [same_self]; rfl) ?_))
      have HB10 := Lib.hid (HB9.out.trans (hb10.mono HB9.out.size))
      have HGc10 := Lib.hid (HGc9.out.after hb10)
      have hle := ord_len HG5.out
      rw [HNUM.out] at hle ⊢
      clear hb7 hb8 hb9 hb10 hk7 keyR keyOc HGc HBC HB7 HB8 HB9 HGc7 HGc8 HGc9 HSF
      go_wp2
      go_loopw [12] (fun i wr => ∃ j Lq Tq nq, j ≤ len1 ∧ i = .int .i64 (j : Int) ∧ Good wr tc Lq Tq nq w5.heap.size ∧ nq ≤ 101 + j ∧ Below w5.heap.size w5 wr) (fun i _ => len1 - (intOf i).toNat)
      case atStart => exact ⟨0, Lc, Tr', n, by omega, rfl, HGc10.out, by omega, HB10.out⟩
      case round =>
        clear HGc10 HB10
        obtain ⟨j, Lq, Tq, nq, hj, rfl, hgq, hnq, hbq⟩ := hrel
        have HGr := Lib.hid hgq
        have HBq := Lib.hid hbq
        have hnr := hbq.size
        clear hgq
        by_cases hjl : j < len1
        · have hjz : (j : Int) < (len1 : Int) := by omega
          obtain ⟨b, off, rfl, lb, hc⟩ := ((HA1.out.after HB5.out).after hbq) (by omega)
          obtain ⟨hf, ha⟩ := hc j hjl
          have HF := Lib.hid hf
          have HACT := Lib.hid ha
          clear hf ha hc hbq
          go_wp2_with (first | (refine wpList_load_act (by rfl) _ rfl rfl HACT.out ?_) | (go_at_call 28; (with_reducible refine (do_any HGr.out (by omega) hnr HF.out).mono ?_); rintro e w4 ⟨⟨v4, rfl⟩, L4, n4, hg4, hn4, hb4⟩))
          go_roundw
          case rel => exact ⟨j + 1, L4, doT Tq (l1 j), n4, by omega, by go_num, hg4, by omega, HBq.out.trans hb4⟩
          case measure => simp [intOf]; omega
        · have hjz : ¬ (j : Int) < (len1 : Int) := by omega
          have HG := Lib.hid (HG5.out.after hbq)
          have hk := HK5.out.after hbq
          rw [HNUM.out] at hk
          have HK := Lib.hid hk
          have HB := Lib.hid (HB5.out.trans (hbq.mono HB5.out.size))
          have hn0 := HB.out.size
          clear HGr hbq HBq HG5 HK5 HB5 hnr hk
          have keyO := gorder_any HG.out
          go_upto_region 21 with (first | (go_at_call 26; (with_reducible refine keyO.mono ?_); rintro e w11 ⟨⟨v11, rfl, hk11⟩, hb11⟩; have keyR := krow_any hk11.row (HK.out.after hb11).row hol) | (go_at_call 22; (with_reducible refine keyR.mono ?_); rintro e w12 ⟨rfl, hb12⟩))
          have hb12' := hb11.trans (hb12.mono hb11.size)
          have HG12 := Lib.hid (HG.out.after hb12')
          have HK12 := Lib.hid (HK.out.after hb12')
          have HB12 := Lib.hid (HB.out.trans (hb12'.mono hn0))
          have hn12 := HB12.out.size
          clear hk11 hb11 hb12 hb12' HG HK HB keyR keyO
          have keyM := gremove_any HG12.out hn12 hW2
          by_cases hE : Tr.remE Tr' a2 = 0
          · obtain ⟨N, hN, hN1, hlen, hnone⟩ := removed HG12.out.inv.wf hE
            rw [hE, hN] at keyM
            rw [HNUM.out] at hlen
            generalize Tr.remR Tr' a2 = T2 at *
            have hh : Hid ((T2 a2).isSome = false) := Lib.hid (by rw [hnone]; rfl)
            have hd : Hid (Tr.dep T2 a2 = -1) := Lib.hid (Tr.dep_none hnone)
            have HLEN := Lib.hid hlen
            clear hnone hlen hN hE
            obtain ⟨m, hm⟩ : ∃ m, (Tr.ord T2).length = m := ⟨_, rfl⟩
            have hlen := HLEN.out
            rw [hm] at hlen
            have HM := Lib.hid hm
            clear hm
            have hw : IntKind.i64.wrap ((n : Int) - (N : Int)) = (m : Int) := by rw [IntWalk.i64_in _ (by omega)]; omega
            go_wp2_with (first | (go_at_call 30; (with_reducible refine keyM.mono ?_); rintro e w13 ⟨rfl, L13, n13, hg13, hn13, hgr13, hb13⟩; have keyO2 := gorder_len hg13; have hnn : n13 = m := (hg13.inv.num.symm.trans HM.out)) | (go_at_call 26; (with_reducible refine keyO2.mono ?_); rintro e w14 ⟨⟨A14, c14, rfl⟩, hb14⟩; subst hnn; have hg14 := hg13.after hb14; have keyH := thas_any hg14.inv.rep hW2; have keyD := gdepth_any hg14 hW2; rw [hh.out] at keyH; rw [hd.out] at keyD) | (go_at_call 14; (with_reducible refine keyH.mono ?_); rintro e w' ⟨rfl, rfl⟩) | (go_at_call 18; (with_reducible refine keyD.mono ?_); rintro e w' ⟨rfl, rfl⟩))
            go_ret
            rw [decide_eq_true (show (1 : Int) ≤ (N : Int) by omega)]
            exact ⟨rfl, HB12.out.trans (hb13.trans (hb14.mono (Nat.le_trans hn12 hb13.size)))⟩
          · have hT : Tr.remR Tr' a2 = Tr' := by unfold Tr.remR; rw [if_neg hE]
            have hI : Tr.remI Tr' a2 = 0 := by unfold Tr.remI; rw [if_neg hE]
            rw [hT, hI] at keyM
            generalize Tr.remE Tr' a2 = E at *
            have hEb : (E == 0) = false := by simpa using hE
            go_wp2_with (first | (go_at_call 30; (with_reducible refine keyM.mono ?_); rintro e w13 ⟨rfl, L13, n13, hg13, hn13, hgr13, hb13⟩; have hk13 := HK12.out.grow hgr13; have keyO2 := gorder_any hg13) | (go_at_call 26; (with_reducible refine keyO2.mono ?_); rintro e w14 ⟨⟨v14, rfl, hk14⟩, hb14⟩; have keyR := krow_any hk14.row (hk13.after hb14).row hol) | (go_at_call 22; (with_reducible refine keyR.mono ?_); rintro e w15 ⟨rfl, hb15⟩))
            go_ret
            exact ⟨rfl, HB12.out.trans (hb13.trans ((hb14.trans (hb15.mono hb14.size)).mono (Nat.le_trans hn12 hb13.size)))⟩

end Go.Proofs.Ytmjnlnnedjmcfaa.Fix
