/- The statement TreeMoves, walked. -/
import Derived.Test.YtmjnlnnedjmcfaaTrShare
namespace Go.Proofs.Ytmjnlnnedjmcfaa.Fix
open Go.ChangeShapes Go.WideShapes Go.ChangeAt Go.RowKit Go.Deep Go.Joins Go.Shelf
set_option linter.unusedVariables false
set_option linter.unusedSimpArgs false
set_option maxRecDepth 100000

set_option maxHeartbeats 16000000 in
theorem trmoves_walk (a0 : Option Addr) (len0 cap0 : Nat) (a1 a2 a3 : Int) (w : World) (w0 : ARow w a0 len0 cap0) (w1 : (Lit.int .i64 a1).wf = true) (w2 : (Lit.int .i64 a2).wf = true) : Calls Try.prog 6 #[.slice a0 len0 cap0, .int .i64 a1, .int .i64 a2, .int .i64 a3] w fun e w' => e = .returned (.bool true) ∧ Below w.heap.size w w' := by
  obtain ⟨l, hA⟩ := w0.acts
  have hW1 : Wf a1 := w1
  have hW2 : Wf a2 := w2
  clear w0 w1 w2
  go_enter Try.func6, Try.ntmps6
  go_upto_region 4 with (go_at_call 10; (with_reducible refine (trworks_any _).mono ?_); rintro e w1 ⟨rfl, hb1⟩)
  by_cases hbig : (100 : Int) < (len0 : Int)
  · go_wp2
    go_ret
    exact ⟨rfl, hb1⟩
  go_upto_region 7 with (go_at_call 11; (with_reducible refine (gnew_any _).mono ?_); rintro e w2 ⟨⟨tb, rfl, L0, g0⟩, hb2⟩)
  have HG0 := Lib.hid (g0.low hb1.size)
  have HB2 := Lib.hid (hb1.trans (hb2.mono hb1.size))
  have HA := Lib.hid hA
  clear g0 hA hb1 hb2
  go_wp2
  go_loopw [11] (fun i wr => ∃ k Lr Tr' n, k ≤ len0 ∧ i = .int .i64 (k : Int) ∧ Good wr tb Lr Tr' n w.heap.size ∧ n ≤ k + 1 ∧ Below w.heap.size w wr) (fun i _ => len0 - (intOf i).toNat)
  case atStart => exact ⟨0, L0, T0, 1, by omega, rfl, HG0.out, by omega, HB2.out⟩
  case round =>
    obtain ⟨k, Lr, Tr', n, hk, rfl, hgr, hnk, hbr⟩ := hrel; have HGr := Lib.hid hgr; have HBr := Lib.hid hbr; have hnr := hbr.size; clear hgr
    by_cases hlt : k < len0
    · have hltz : (k : Int) < (len0 : Int) := by omega
      obtain ⟨b, off, rfl, lb, hc⟩ := (HA.out.after hbr) (by omega); obtain ⟨hf, ha⟩ := hc k hlt; have HF := Lib.hid hf; have HACT := Lib.hid ha; clear hf ha hc hbr
      go_wp2_with (first | (refine wpList_load_act (by rfl) _ rfl rfl HACT.out ?_) | (go_at_call 28; (with_reducible refine (do_any HGr.out (by omega) hnr HF.out).mono ?_); rintro e w4 ⟨⟨v4, rfl⟩, L4, n4, hg4, hn4, hb4⟩))
      go_roundw
      case rel => exact ⟨k + 1, L4, doT Tr' (l k), n4, by omega, by go_num, hg4, by omega, HBr.out.trans hb4⟩
      case measure => simp [intOf]; omega
    · have hltz : ¬ (k : Int) < (len0 : Int) := by omega
      obtain rfl : k = len0 := by omega
      clear hbr HG0 HB2 HA
      have keyO := gorder_any HGr.out
      generalize hf : upOf Tr' a1 = f at *
      have hfw : Wf f := by have := up_wf HGr.out.inv.wf a1; rw [wf_iff]; omega
      have HF := Lib.hid hf
      have HONE := Lib.hid fun (nd : Tr.Nd) (h : Tr' a1 = some nd) (h0 : a1 ≠ 0) => kids_up HGr.out.inv.wf h h0
      have HMV := Lib.hid fun (pl : Nat) (h : Tr.movE Tr' a1 a2 a3 = 0) h2 => moved HGr.out.inv.wf (pl := pl) h h2
      rw [hf] at HONE HMV
      have hkl := kidsOf_small HGr.out.inv.wf f
      clear hf
      go_upto_region 15 with (first | (go_at_call 26; (with_reducible refine keyO.mono ?_); rintro e w5 ⟨⟨v5, rfl, hk5⟩, hb5⟩; have HG5 := Lib.hid (HGr.out.after hb5); have keyU := tup_any HG5.out.inv.rep hW1; rw [HF.out] at keyU) | (go_at_call 16; (with_reducible refine keyU.mono ?_); rintro e w' ⟨rfl, rfl⟩) | (go_at_call 23; (with_reducible refine (gkids_any HG5.out hfw).mono ?_); rintro e w6 ⟨⟨v6, rfl, hk6⟩, hb6⟩))
      have hg6 := HG5.out.after hb6
      have hk5' := hk5.after hb6
      have HB6 := Lib.hid (HBr.out.trans ((hb5.trans (hb6.mono hb5.size)).mono hnr))
      have hn6 := HB6.out.size
      obtain ⟨A6, c6, rfl, hI6, _⟩ := hk6.row.ints
      have HI6 := Lib.hid hI6
      obtain ⟨A5, c5, rfl, _⟩ := hk5'.row.ints
      rw [hg6.inv.num] at hk5' ⊢
      have HG6 := Lib.hid hg6
      have HK5 := Lib.hid hk5'
      generalize hks : kidsOf Tr' f = ks at *
      have HKS := Lib.hid hks
      clear hks hk6
      generalize hm : ks.length = m at *
      have HM := Lib.hid hm
      clear hm hk5 hk5' hg6 hb5 hb6 keyO keyU HGr HBr hnr hI6
      go_wp2
      go_loopw [15, 16] (fun pv i wr2 => ∃ r pl : Nat, r ≤ m ∧ i = .int .i64 (r : Int) ∧ pv = .int .i64 (pl : Int) ∧ pl ≤ m ∧ (a1 ∈ ks.take r → ks[pl]? = some a1) ∧ wr2 = w6) (fun _ i _ => m - (intOf i).toNat)
      case atStart => exact ⟨0, 0, by omega, rfl, rfl, by omega, fun h => by simp at h, rfl⟩
      case round =>
        obtain ⟨r, pl, hr, rfl, rfl, hplm, hpl, rfl⟩ := hrel
        have HPL := Lib.hid hpl
        clear hpl
        by_cases hrm : r < m
        · have hrz : (r : Int) < (m : Int) := by omega
          obtain ⟨b6, o6, rfl, lb6, hcell6⟩ := HI6.out.at_ (k := r) (by rw [HM.out]; exact hrm)
          have hstep : Hid (a1 ∈ ks.take (r + 1) ↔ a1 ∈ ks.take r ∨ a1 = ks.getD r 0) := Lib.hid (by
            rw [take_snoc_int _ r (by rw [HM.out]; exact hrm), List.mem_append, List.mem_singleton])
          have hat : Hid (ks[r]? = some (ks.getD r 0)) := Lib.hid (by rw [List.getD, List.getElem?_eq_getElem (by rw [HM.out]; exact hrm)]; rfl)
          generalize ks.getD r 0 = y at *
          by_cases hy : y = a1
          · subst hy
            go_wp2
            go_roundw
            case rel => exact ⟨r + 1, r, by omega, by go_num, rfl, by omega, fun _ => hat.out, trivial⟩
            case measure => simp [intOf]; omega
          · have hyb : (y == a1) = false := by simpa using hy
            go_wp2
            go_roundw
            case rel => exact ⟨r + 1, pl, by omega, by go_num, rfl, hplm, fun h => HPL.out ((hstep.out.1 h).resolve_right fun e => hy e.symm), trivial⟩
            case measure => simp [intOf]; omega
        · have hrz : ¬ (r : Int) < (m : Int) := by omega
          obtain rfl : r = m := by omega
          have hpl := HPL.out
          rw [List.take_of_length_le (by rw [HM.out]; exact Nat.le_refl _)] at hpl
          have keyM := gmove_any HG6.out hn6 (a := a3) hW1 hW2
          by_cases hE : Tr.movE Tr' a1 a2 a3 = 0
          · obtain ⟨nd, p, hX, _, h0, _⟩ := Tr.movE_zero hE
            have hmv := HMV.out pl hE (hpl (HONE.out nd hX h0))
            rw [hE] at keyM
            have hTl := (HG6.out.inv.wf.movR a1 a2 a3).2
            generalize Tr.movR Tr' a1 a2 a3 = T2 at *
            obtain ⟨hup, ⟨p3, hp3, hp4, hp5⟩, hok, hback⟩ := hmv
            subst hp3
            have hl0 : 0 < (kidsOf T2 a2).length := by omega
            have HBK := Lib.hid (show _ ∧ _ from ⟨hok, hback⟩)
            have hp3z : (p3 : Int) < ((kidsOf T2 a2).length : Int) := by omega
            have HP5 := Lib.hid hp5
            have HUP := Lib.hid hup
            clear hok hback hTl hup hp5
            go_upto_region 24 with (first | (go_at_call 31; (with_reducible refine keyM.mono ?_); rintro e w7 ⟨rfl, L7, hg7, hgr7, hb7⟩; have hk7 := HK5.out.grow hgr7) | (go_at_call 23; (with_reducible refine (gkids_any hg7 hW2).mono ?_); rintro e w8 ⟨⟨v8, rfl, hk8⟩, hb8⟩))
            obtain ⟨g8, c8, rfl, lg8, hc8⟩ := hk8.cells hl0
            have c8' := hc8 p3 hp4
            rw [HP5.out] at c8'
            have hg8 := hg7.after hb8
            have HK8 := Lib.hid (hk7.after hb8)
            have hn7 := Nat.le_trans hn6 hb7.size
            have HB8 := Lib.hid (HB6.out.trans (hb7.trans (hb8.mono hn7)))
            have hn8 := HB8.out.size
            have keyU2 := tup_any hg8.inv.rep hW1
            rw [HUP.out] at keyU2
            have keyO3 := gorder_len hg8
            have HG8 := Lib.hid hg8
            generalize (kidsOf T2 a2).length = m2 at *
            clear hg7 hg8 hc8 hk8 hk7 hb7 hb8 hgr7 keyM
            go_wp2_with (first | (go_at_call 16; (with_reducible refine keyU2.mono ?_); rintro e w' ⟨rfl, rfl⟩) | (go_at_call 26; (with_reducible refine keyO3.mono ?_); rintro e w9 ⟨⟨A9, c9, rfl⟩, hb9⟩; have hg9 := HG8.out.after hb9; have HK9 := Lib.hid (HK8.out.after hb9); have hn9 := Nat.le_trans hn8 hb9.size; have keyM2 := gmove_any hg9 hn9 (a := (pl : Int)) hW1 hfw; rw [HBK.out.1, HBK.out.2] at keyM2) | (go_at_call 31; (with_reducible refine keyM2.mono ?_); rintro e w10 ⟨rfl, L10, hg10, hgr10, hb10⟩; have hk10 := HK9.out.grow hgr10; have keyO4 := gorder_any hg10) | (go_at_call 26; (with_reducible refine keyO4.mono ?_); rintro e w11 ⟨⟨v11, rfl, hk11⟩, hb11⟩; have keyR := krow_any hk11.row (hk10.after hb11).row (ord_len hg10)) | (go_at_call 22; (with_reducible refine keyR.mono ?_); rintro e w12 ⟨rfl, hb12⟩))
            go_ret
            exact ⟨rfl, HB8.out.trans ((hb9.mono hn8).trans (hb10.trans ((hb11.trans (hb12.mono hb11.size)).mono (Nat.le_trans hn9 hb10.size))))⟩
          · have hsame : Tr.movR Tr' a1 a2 a3 = Tr' := by unfold Tr.movR; rw [if_neg hE]
            rw [hsame] at keyM
            generalize Tr.movE Tr' a1 a2 a3 = E at *
            have hEb : (E == 0) = false := by simpa using hE
            go_wp2_with (first | (go_at_call 31; (with_reducible refine keyM.mono ?_); rintro e w7 ⟨rfl, L7, hg7, hgr7, hb7⟩; have hk7 := HK5.out.grow hgr7; have keyO2 := gorder_any hg7) | (go_at_call 26; (with_reducible refine keyO2.mono ?_); rintro e w8 ⟨⟨v8, rfl, hk8⟩, hb8⟩; have keyR := krow_any hk8.row (hk7.after hb8).row (ord_len hg7)) | (go_at_call 22; (with_reducible refine keyR.mono ?_); rintro e w9 ⟨rfl, hb9⟩))
            go_ret
            exact ⟨rfl, HB6.out.trans (hb7.trans ((hb8.trans (hb9.mono hb8.size)).mono (Nat.le_trans hn6 hb7.size)))⟩

end Go.Proofs.Ytmjnlnnedjmcfaa.Fix
