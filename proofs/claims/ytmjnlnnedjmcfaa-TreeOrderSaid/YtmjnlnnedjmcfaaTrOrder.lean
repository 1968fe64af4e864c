/- The statement TreeOrder, walked. -/
import Derived.Test.YtmjnlnnedjmcfaaTrShare
import Derived.BigQuiet
namespace Go.Proofs.Ytmjnlnnedjmcfaa.Fix
open Go.ChangeShapes Go.WideShapes Go.ChangeAt Go.RowKit Go.Deep Go.Joins Go.Shelf
set_option linter.unusedVariables false
set_option linter.unusedSimpArgs false
set_option maxRecDepth 100000

/-- what holds of a place in the order -/
structure Spot (T : Tr.T) (i : Nat) (x u : Int) (ks : List Int) : Prop where
  up : upOf T x = u
  live : (T x).isSome = true
  deep : Tr.dep T x = Tr.dep T u + 1
  small : Tr.dep T x ≤ 63
  kids : kidsOf T u = ks
  once : ks.count x = 1
  behind : u ∈ (Tr.ord T).take i
  new : ∀ k, k < i → (Tr.ord T).getD k 0 ≠ x
theorem spot {T : Tr.T} (H : Tr.WF T) {i : Nat} (h1 : 1 ≤ i) (hi : i < (Tr.ord T).length) : Spot T i ((Tr.ord T).getD i 0) (upOf T ((Tr.ord T).getD i 0)) (kidsOf T (upOf T ((Tr.ord T).getD i 0))) := by
  have hg : (Tr.ord T)[i]? = some ((Tr.ord T).getD i 0) := by rw [List.getD, List.getElem?_eq_getElem hi]; rfl
  have hsplit : Tr.ord T = (Tr.ord T).take i ++ (Tr.ord T).getD i 0 :: (Tr.ord T).drop (i + 1) := by
    have h2 : (Tr.ord T).getD i 0 = (Tr.ord T)[i] := by rw [List.getD, List.getElem?_eq_getElem hi]; rfl
    rw [h2, ← List.drop_eq_getElem_cons hi, List.take_append_drop]
  have hn := H.nodup_ord
  generalize hx : (Tr.ord T).getD i 0 = x at *
  rcases H.behind H.fit0 _ _ _ hsplit with ⟨e, _⟩ | ⟨nd, hX, h0, hup⟩
  · have h3 : ((Tr.ord T).take i).length = 0 := by rw [e]; rfl
    rw [List.length_take] at h3
    omega
  · have hu : upOf T x = nd.up := by unfold upOf; rw [hX]
    obtain ⟨p, hp, hm⟩ := H.up x nd hX h0
    obtain ⟨d, hd1, hd2, hd3⟩ := H.dep_some hp
    have hdx := H.dep_of (.step hX h0 hd2)
    obtain ⟨d', hd4, _, hd5⟩ := H.dep_some hX
    rw [hu]
    have hk : kidsOf T nd.up = p.kids := by unfold kidsOf; rw [hp]; rfl
    refine ⟨hu, by rw [hX]; rfl, by rw [hdx, hd3]; omega, by omega, rfl, ?_, hup, fun k hk e => ?_⟩
    · rw [hk]
      rw [(H.nodup _ _ hp).count, if_pos hm]
    · have hk2 : (Tr.ord T)[k]? = some x := by rw [← e, List.getD, List.getElem?_eq_getElem (by omega)]; rfl
      obtain ⟨a1, a2⟩ := List.getElem?_eq_some_iff.1 hk2
      obtain ⟨b1, b2⟩ := List.getElem?_eq_some_iff.1 hg
      have := (List.getElem_inj hn).1 (a2.trans b2.symm)
      omega

set_option maxHeartbeats 16000000 in
theorem trorder_walk (a0 : Option Addr) (len0 cap0 : Nat) (w : World) (w0 : ARow w a0 len0 cap0) : Calls Try.prog 4 #[.slice a0 len0 cap0] w fun e w' => e = .returned (.bool true) ∧ Below w.heap.size w w' := by
  obtain ⟨l, hA⟩ := w0.acts
  clear w0
  go_enter Try.func4, Try.ntmps4
  go_upto_region 4 with (go_at_call 10; (with_reducible refine (trworks_any _).mono ?_); rintro e w1 ⟨rfl, hb1⟩)
  by_cases hbig : (100 : Int) < (len0 : Int)
  · go_wp2
    go_ret
    exact ⟨rfl, hb1⟩
  go_upto_region 7 with (go_at_call 11; (with_reducible refine (gnew_any _).mono ?_); rintro e w2 ⟨⟨tb, rfl, L0, g0⟩, hb2⟩)
  have HG0 := Lib.hid (g0.low hb1.size)
  have HB2 := Lib.hid (hb1.trans (hb2.mono hb1.size))
  have HA := Lib.hid hA
  clear g0 hA hb1 hb2
  go_wp2
  go_loopw [5] (fun i wr => ∃ k Lr Tr' n, k ≤ len0 ∧ i = .int .i64 (k : Int) ∧ Good wr tb Lr Tr' n w.heap.size ∧ n ≤ k + 1 ∧ Below w.heap.size w wr) (fun i _ => len0 - (intOf i).toNat)
  case atStart => exact ⟨0, L0, T0, 1, by omega, rfl, HG0.out, by omega, HB2.out⟩
  case round =>
    obtain ⟨k, Lr, Tr', n, hk, rfl, hgr, hnk, hbr⟩ := hrel; have HGr := Lib.hid hgr; have HBr := Lib.hid hbr; have hnr := hbr.size; clear hgr
    by_cases hlt : k < len0
    · have hltz : (k : Int) < (len0 : Int) := by omega
      obtain ⟨b, off, rfl, lb, hc⟩ := (HA.out.after hbr) (by omega); obtain ⟨hf, ha⟩ := hc k hlt; have HF := Lib.hid hf; have HACT := Lib.hid ha; clear hf ha hc hbr
      go_wp2_with (first | (refine wpList_load_act (by rfl) _ rfl rfl HACT.out ?_) | (go_at_call 28; (with_reducible refine (do_any HGr.out (by omega) hnr HF.out).mono ?_); rintro e w4 ⟨⟨v4, rfl⟩, L4, n4, hg4, hn4, hb4⟩))
      go_roundw
      case rel => exact ⟨k + 1, L4, doT Tr' (l k), n4, by omega, by go_num, hg4, by omega, HBr.out.trans hb4⟩
      case measure => simp [intOf]; omega
    · have hltz : ¬ (k : Int) < (len0 : Int) := by omega
      obtain rfl : k = len0 := by omega
      clear hbr HG0 HB2 HA
      have keyO := gorder_any HGr.out
      go_upto_region 12 with (go_at_call 26; (with_reducible refine keyO.mono ?_); rintro e w5 ⟨⟨v5, rfl, hk5⟩, hb5⟩)
      have hg5 := HGr.out.after hb5
      have HB5 := Lib.hid (HBr.out.trans (hb5.mono hnr))
      have hord := hg5.inv.wf.ord_cons
      have hlen : 0 < (Tr.ord Tr').length := by obtain ⟨r, e⟩ := hord; rw [e]; simp
      obtain ⟨g, c, rfl, lg, hc⟩ := hk5.cells hlen
      have c0 := hc 0 hlen
      have h00 : (Tr.ord Tr').getD 0 0 = 0 := by obtain ⟨r, e⟩ := hord; rw [e]; rfl
      rw [h00] at c0
      have hnum := hg5.inv.num
      have keyL := tlen_any hg5.inv.rep
      rw [hnum] at hlen hc ⊢
      have hn0 : ¬ (n : Int) = 0 := by omega
      have hn0b : ((n : Int) == 0) = false := by simpa using hn0
      have HG5 := Lib.hid hg5
      have HC := Lib.hid hc
      have HNUM := Lib.hid hnum
      clear hg5 hk5 hord hc hnum hb5 keyO HGr HBr hnr
      go_wp2_with (go_at_call 27; (with_reducible refine keyL.mono ?_); rintro e w' ⟨rfl, rfl⟩)
      go_loopw [7] (fun i wr => ∃ j : Nat, 1 ≤ j ∧ j ≤ n ∧ i = .int .i64 (j : Int) ∧ Below w5.heap.size w5 wr) (fun i _ => n - (intOf i).toNat)
      case atStart => exact ⟨1, Nat.le_refl _, by omega, rfl, Below.refl _ _⟩
      case round =>
        clear c0 keyL hn0b
        obtain ⟨j, hj1, hj, rfl, hb6⟩ := hrel
        by_cases hjn : j < n
        · have hjz : (j : Int) < (n : Int) := by omega
          have hsp := spot HG5.out.inv.wf hj1 (by rw [HNUM.out]; exact hjn)
          have cx := (hb6.cell (p := ⟨g, j, none⟩) lg).trans (HC.out j hjn)
          have hg6 := HG5.out.after hb6
          have hxw : Wf ((Tr.ord Tr').getD j 0) := by
            have hm : (Tr.ord Tr').getD j 0 ∈ Tr.ord Tr' := by rw [List.getD, List.getElem?_eq_getElem (by rw [HNUM.out]; exact hjn)]; exact List.getElem_mem _
            obtain ⟨xd, hxd⟩ := hg6.inv.wf.mem_ord.1 hm
            exact hg6.inv.rep.wf hxd
          have keyU := tup_any hg6.inv.rep hxw
          generalize (Tr.ord Tr').getD j 0 = x at *
          generalize hu : upOf Tr' x = u at *
          have huw : Wf u := by have := up_wf hg6.inv.wf x; rw [wf_iff]; omega
          have HSP := Lib.hid hsp
          have HG6 := Lib.hid hg6
          have HB6 := Lib.hid hb6
          clear hsp hg6 hb6 hu
          go_upto_region 20 with (go_at_call 16; (with_reducible refine keyU.mono ?_); rintro e w' ⟨rfl, rfl⟩)
          have HCW := Lib.hid fun q (hq : q < n) => (HB6.out.cell (p := ⟨g, q, none⟩) lg).trans (HC.out q hq)
          go_loopw [9, 10] (fun be i wr2 => ∃ q : Nat, q ≤ j ∧ i = .int .i64 (q : Int) ∧ be = .bool (decide (u ∈ (Tr.ord Tr').take q)) ∧ Below wr.heap.size wr wr2) (fun _ i _ => j - (intOf i).toNat)
          case atStart => exact ⟨0, by omega, rfl, rfl, Below.refl _ _⟩
          case round =>
            obtain ⟨q, hq, rfl, rfl, hbi⟩ := hrel
            have hlg := Nat.lt_of_lt_of_le lg HB6.out.size
            by_cases hqj : q < j
            · have hqz : (q : Int) < (j : Int) := by omega
              have cy := (hbi.cell (p := ⟨g, q, none⟩) hlg).trans (HCW.out q (by omega))
              have cx2 := (hbi.cell (p := ⟨g, j, none⟩) hlg).trans cx
              have hyx := HSP.out.new q hqj
              have hstep : Hid (decide (u ∈ (Tr.ord Tr').take (q + 1)) = (decide (u ∈ (Tr.ord Tr').take q) || decide ((Tr.ord Tr').getD q 0 = u))) := Lib.hid (by
                rw [take_snoc_int _ q (by rw [HNUM.out]; omega)]
                have : u ∈ (Tr.ord Tr').take q ++ [(Tr.ord Tr').getD q 0] ↔ (u ∈ (Tr.ord Tr').take q ∨ (Tr.ord Tr').getD q 0 = u) := by rw [List.mem_append, List.mem_singleton]; constructor <;> rintro (h | h) <;> first | exact .inl h | exact .inr h.symm
                simp only [this, Bool.decide_or])
              generalize (Tr.ord Tr').getD q 0 = y at *
              generalize decide (u ∈ (Tr.ord Tr').take q) = bb at *
              have hyxb : (y == x) = false := by simpa using hyx
              by_cases hyu : y = u
              · rw [decide_eq_true hyu, Bool.or_true] at hstep
                subst hyu
                cases bb with
                | true =>
                  go_upto_region 23 with (fail)
                  go_quiet (fail)
                  go_wp2
                  go_roundw
                  case rel => exact ⟨q + 1, by omega, by go_num, by rw [hstep.out], below_drewN hbi _⟩
                  case measure => simp [intOf]; omega
                | false =>
                  go_upto_region 23 with (fail)
                  go_quiet (fail)
                  go_wp2
                  go_roundw
                  case rel => exact ⟨q + 1, by omega, by go_num, by rw [hstep.out], below_drewN hbi _⟩
                  case measure => simp [intOf]; omega
              · rw [decide_eq_false hyu, Bool.or_false] at hstep
                have hyub : (y == u) = false := by simpa using hyu
                cases bb with
                | true =>
                  go_upto_region 23 with (fail)
                  go_quiet (fail)
                  go_wp2
                  go_roundw
                  case rel => exact ⟨q + 1, by omega, by go_num, by rw [hstep.out], below_drewN hbi _⟩
                  case measure => simp [intOf]; omega
                | false =>
                  go_upto_region 23 with (fail)
                  go_quiet (fail)
                  go_wp2
                  go_roundw
                  case rel => exact ⟨q + 1, by omega, by go_num, by rw [hstep.out], below_drewN hbi _⟩
                  case measure => simp [intOf]; omega
            · have hqz : ¬ (q : Int) < (j : Int) := by omega
              obtain rfl : q = j := by omega
              have hbe : decide (u ∈ (Tr.ord Tr').take q) = true := decide_eq_true HSP.out.behind
              rw [hbe]
              have hg7 := HG6.out.after hbi
              have keyK := gkids_any hg7 huw
              have hks := HSP.out.once
              have hlk : 0 < (kidsOf Tr' u).length := by
                cases e : kidsOf Tr' u with
                | nil => rw [e] at hks; cases hks
                | cons _ _ => simp
              have HG7 := Lib.hid hg7
              have HBI := Lib.hid hbi
              have hlm := kidsOf_small hg7.inv.wf u
              generalize kidsOf Tr' u = ks at *
              clear hg7 hbi hbe
              go_upto_region 28 with (go_at_call 23; (with_reducible refine keyK.mono ?_); rintro e w7 ⟨⟨v7, rfl, hk7⟩, hb7⟩)
              obtain ⟨g7, c7, rfl, lg7, hc7⟩ := hk7.cells hlk
              have HC7 := Lib.hid hc7
              have HKS := Lib.hid hks
              have HB7 := Lib.hid (HBI.out.trans (hb7.mono HBI.out.size))
              have cx7 := (HB7.out.cell (p := ⟨g, q, none⟩) hlg).trans cx
              have hlg7 := Nat.lt_of_lt_of_le hlg HB7.out.size
              have HG8 := Lib.hid (HG7.out.after hb7)
              generalize hmk : ks.length = mk at *
              have HMK := Lib.hid hmk
              clear hc7 hks hk7 hb7 HBI HG7 keyK hmk
              go_loopw [12, 13] (fun cn i wr3 => ∃ r : Nat, r ≤ mk ∧ i = .int .i64 (r : Int) ∧ cn = .int .i64 ((ks.take r).count x : Int) ∧ Below w7.heap.size w7 wr3) (fun _ i _ => mk - (intOf i).toNat)
              case atStart => exact ⟨0, by omega, rfl, rfl, Below.refl _ _⟩
              case round =>
                obtain ⟨r, hr, rfl, rfl, hbk⟩ := hrel
                by_cases hrm : r < mk
                · have hrz : (r : Int) < (mk : Int) := by omega
                  have cy := (hbk.cell (p := ⟨g7, r, none⟩) lg7).trans (HC7.out r hrm)
                  have cx8 := (hbk.cell (p := ⟨g, q, none⟩) hlg7).trans cx7
                  have hcl : (ks.take r).count x ≤ r := Nat.le_trans List.count_le_length (by rw [List.length_take]; omega)
                  have hstep : Hid ((ks.take (r + 1)).count x = (ks.take r).count x + if ks.getD r 0 = x then 1 else 0) := Lib.hid (by
                    rw [take_snoc_int _ r (by rw [HMK.out]; exact hrm), List.count_append, List.count_singleton]
                    congr 1
                    by_cases e : ks.getD r 0 = x <;> simp [e])
                  generalize ks.getD r 0 = y at *
                  generalize (ks.take r).count x = cq at *
                  have hw : IntKind.i64.wrap ((cq : Int) + 1) = (cq : Int) + 1 := by rw [IntWalk.i64_in _ (by omega)]
                  by_cases hyx : y = x
                  · rw [if_pos hyx] at hstep
                    subst hyx
                    go_upto_region 30 with (fail)
                    go_quiet (fail)
                    go_wp2
                    go_roundw
                    case rel => exact ⟨r + 1, by omega, by go_num, by rw [hstep.out]; rfl, below_drewN hbk _⟩
                    case measure => simp [intOf]; omega
                  · rw [if_neg hyx] at hstep
                    have hyxb : (y == x) = false := by simpa using hyx
                    go_upto_region 30 with (fail)
                    go_quiet (fail)
                    go_wp2
                    go_roundw
                    case rel => exact ⟨r + 1, by omega, by go_num, by rw [hstep.out]; rfl, below_drewN hbk _⟩
                    case measure => simp [intOf]; omega
                · have hrz : ¬ (r : Int) < (mk : Int) := by omega
                  obtain rfl : r = mk := by omega
                  have hcnt : (ks.take r).count x = 1 := by rw [List.take_of_length_le (by rw [HMK.out]; exact Nat.le_refl _)]; exact HKS.out
                  rw [hcnt]
                  have hg9 := HG8.out.after hbk
                  have cx9 := (hbk.cell (p := ⟨g, q, none⟩) hlg7).trans cx7
                  have keyDx := gdepth_any hg9 hxw
                  have keyDu := gdepth_any hg9 huw
                  have keyH := thas_any hg9.inv.rep hxw
                  rw [HSP.out.live] at keyH
                  have hd1 := HSP.out.deep
                  have hd2 := HSP.out.small
                  have hd3 := dep_wf hg9.inv.wf u
                  rw [hd1] at keyDx hd2
                  generalize Tr.dep Tr' u = d at *
                  have hw : IntKind.i64.wrap (d + 1) = d + 1 := by rw [IntWalk.i64_in _ (by omega)]
                  have hd4 : ¬ 63 < d + 1 := by omega
                  have HBK := Lib.hid hbk
                  clear hd1 hg9 hbk hd2
                  go_wp2_with (first | (go_at_call 18; first | ((with_reducible refine keyDx.mono ?_); rintro e w' ⟨rfl, rfl⟩) | ((with_reducible refine keyDu.mono ?_); rintro e w' ⟨rfl, rfl⟩)) | (go_at_call 14; (with_reducible refine keyH.mono ?_); rintro e w' ⟨rfl, rfl⟩))
                  go_roundw
                  case rel => exact ⟨q + 1, by omega, by omega, by go_num, HB6.out.trans ((HB7.out.trans (HBK.out.mono HB7.out.size)).mono HB6.out.size)⟩
                  case measure => simp [intOf]; omega
        · have hjz : ¬ (j : Int) < (n : Int) := by omega
          go_wp2
          go_ret
          exact ⟨rfl, HB5.out.trans (hb6.mono HB5.out.size)⟩

end Go.Proofs.Ytmjnlnnedjmcfaa.Fix
