/- The statement TreeLeast, walked. -/
import Derived.Test.YtmjnlnnedjmcfaaTrShare
namespace Go.Proofs.Ytmjnlnnedjmcfaa.Fix
open Go.ChangeShapes Go.WideShapes Go.ChangeAt Go.RowKit Go.Deep Go.Joins Go.Shelf
set_option linter.unusedVariables false
set_option linter.unusedSimpArgs false
set_option maxRecDepth 100000

theorem Tr_add_live {T : Tr.T} (H : Tr.WF T) {u a : Int} (he : Tr.addE T u a = 0) (y : Int) : (Tr.addR T u a y).isSome = (decide (y = Tr.free T) || (T y).isSome) := by
  unfold Tr.addR
  rw [if_pos he]
  unfold Tr.addE at he
  cases hu : T u with
  | none => rw [hu] at he; cases he
  | some p =>
    rw [Tr.add_at hu H.free_is.1.2.1]
    by_cases e : y = Tr.free T
    · simp [e]
    · by_cases e2 : y = u
      · subst e2; simp [e, hu]
      · simp [e, e2]
theorem add_root {T : Tr.T} (H : Tr.WF T) : Tr.addE T 0 0 = 0 := by
  obtain ⟨nd, h, _⟩ := H.root
  unfold Tr.addE
  rw [h]
  simp only
  rw [if_neg (by omega)]
  have : Tr.dep T 0 = 0 := H.dep_of (.root h)
  rw [this, if_neg (by decide)]
set_option maxHeartbeats 8000000 in
theorem trleast_walk (a0 : Option Addr) (len0 cap0 : Nat) (a1 : Int) (w : World) (w0 : ARow w a0 len0 cap0) : Calls Try.prog 9 #[.slice a0 len0 cap0, .int .i64 a1] w fun e w' => e = .returned (.bool true) ∧ Below w.heap.size w w' := by
  obtain ⟨l, hA⟩ := w0.acts
  clear w0
  go_enter Try.func9, Try.ntmps9
  go_upto_region 4 with (go_at_call 10; (with_reducible refine (trworks_any _).mono ?_); rintro e w1 ⟨rfl, hb1⟩)
  by_cases hbig : (100 : Int) < (len0 : Int)
  · go_wp2
    go_ret
    exact ⟨rfl, hb1⟩
  by_cases hneg : a1 < 0
  · go_wp2
    go_ret
    exact ⟨rfl, hb1⟩
  by_cases hmuch : (20 : Int) < a1
  · go_wp2
    go_ret
    exact ⟨rfl, hb1⟩
  go_upto_region 7 with (go_at_call 11; (with_reducible refine (gnew_any _).mono ?_); rintro e w2 ⟨⟨tb, rfl, L0, g0⟩, hb2⟩)
  have HG0 := Lib.hid (g0.low hb1.size)
  have HB2 := Lib.hid (hb1.trans (hb2.mono hb1.size))
  have HA := Lib.hid hA
  clear g0 hA hb1 hb2
  go_wp2
  go_loopw [7] (fun i wr => ∃ k Lr Tr' n, k ≤ len0 ∧ i = .int .i64 (k : Int) ∧ Good wr tb Lr Tr' n w.heap.size ∧ n ≤ k + 1 ∧ Below w.heap.size w wr) (fun i _ => len0 - (intOf i).toNat)
  case atStart => exact ⟨0, L0, T0, 1, by omega, rfl, HG0.out, by omega, HB2.out⟩
  case round =>
    obtain ⟨k, Lr, Tr', n, hk, rfl, hgr, hnk, hbr⟩ := hrel; have HGr := Lib.hid hgr; have HBr := Lib.hid hbr; have hnr := hbr.size; clear hgr
    by_cases hlt : k < len0
    · have hltz : (k : Int) < (len0 : Int) := by omega
      obtain ⟨b, off, rfl, lb, hc⟩ := (HA.out.after hbr) (by omega); obtain ⟨hf, ha⟩ := hc k hlt; have HF := Lib.hid hf; have HACT := Lib.hid ha; clear hf ha hc hbr
      go_wp2_with (first | (refine wpList_load_act (by rfl) _ rfl rfl HACT.out ?_) | (go_at_call 28; (with_reducible refine (do_any HGr.out (by omega) hnr HF.out).mono ?_); rintro e w4 ⟨⟨v4, rfl⟩, L4, n4, hg4, hn4, hb4⟩))
      go_roundw
      case rel => exact ⟨k + 1, L4, doT Tr' (l k), n4, by omega, by go_num, hg4, by omega, HBr.out.trans hb4⟩
      case measure => simp [intOf]; omega
    · have hltz : ¬ (k : Int) < (len0 : Int) := by omega
      obtain rfl : k = len0 := by omega
      obtain ⟨m, rfl⟩ : ∃ m : Nat, a1 = m := ⟨a1.toNat, by omega⟩
      clear hbr HG0 HB2 HA
      go_wp2
      go_loopw [8] (fun i wr => ∃ j Lr Tr' n, j ≤ m ∧ i = .int .i64 (j : Int) ∧ Good wr tb Lr Tr' n w.heap.size ∧ n ≤ k + 1 + j ∧ Below w.heap.size w wr) (fun i _ => m - (intOf i).toNat)
      case atStart => exact ⟨0, Lr, Tr', n, by omega, rfl, HGr.out, by omega, HBr.out⟩
      case round =>
        clear HGr HBr hnr hnk
        obtain ⟨j, Lq, Tq, nq, hj, rfl, hgq, hnq, hbq⟩ := hrel
        have HGq := Lib.hid hgq
        have HBq := Lib.hid hbq
        have hnr := hbq.size
        by_cases hjm : j < m
        · have hjz : (j : Int) < (m : Int) := by omega
          have keyA := gadd_any hgq (by omega) hnr (u := 0) (a := 0) ((wf_iff _).2 (by omega))
          have hE := add_root hgq.inv.wf
          have hI : Tr.addI Tq 0 0 = Tr.free Tq := by unfold Tr.addI; rw [hE, if_pos rfl]
          obtain ⟨⟨hf0, hf1, hf2⟩, hf3⟩ := hgq.inv.wf.free_is
          rw [hgq.inv.num] at hf3
          have hlv := Lib.hid fun y => Tr_add_live hgq.inv.wf hE y
          rw [hE, hI] at keyA
          obtain ⟨z, hz⟩ : ∃ z : Nat, Tr.free Tq = z := ⟨(Tr.free Tq).toNat, by omega⟩
          have HF2 := Lib.hid hf2
          generalize Tr.addR Tq 0 0 = Ta at *
          generalize Tr.free Tq = fz at *
          subst hz
          clear hgq hbq hE hI hf1 hf2
          go_upto_region 18 with (go_at_call 32; (with_reducible refine keyA.mono ?_); rintro e w5 ⟨rfl, L5, n5, hg5, hn5, _, hb5⟩)
          have HG5 := Lib.hid hg5
          have HB5 := Lib.hid (HBq.out.trans hb5)
          clear hg5 hb5 keyA
          go_loopw [11] (fun i wr => ∃ q : Nat, q ≤ z ∧ i = .int .i64 (q : Int) ∧ wr = w5) (fun i _ => z - (intOf i).toNat)
          case atStart => exact ⟨0, by omega, rfl, rfl⟩
          case round =>
            obtain ⟨q, hq, rfl, rfl⟩ := hrel
            by_cases hqz : q < z
            · have hqzz : (q : Int) < (z : Int) := by omega
              have keyH := thas_any HG5.out.inv.rep (z := (q : Int)) ((wf_iff _).2 (by omega))
              have hl2 := hlv.out (q : Int)
              have hs : (Tq q).isSome = true := by
                cases e : Tq q with
                | none => exact absurd e (HF2.out q (by omega) (by omega))
                | some _ => rfl
              rw [hs, Bool.or_true] at hl2
              rw [hl2] at keyH
              clear hl2 hs
              go_wp2_with (go_at_call 14; (with_reducible refine keyH.mono ?_); rintro e w' ⟨rfl, rfl⟩)
              go_roundw
              case rel => exact ⟨q + 1, by omega, by go_num, trivial⟩
              case measure => simp [intOf]; omega
            · have hqzz : ¬ (q : Int) < (z : Int) := by omega
              go_wp2
              go_roundw
              case rel => exact ⟨j + 1, L5, Ta, n5, by omega, by go_num, HG5.out, by omega, HB5.out⟩
              case measure => simp [intOf]; omega
        · have hjz : ¬ (j : Int) < (m : Int) := by omega
          have keyO := gorder_len hgq
          have hroot : (Tq 0).isSome = true := by obtain ⟨nd, h, _⟩ := hgq.inv.wf.root; rw [h]; rfl
          have hminus : (Tq (-1)).isSome = false := by rw [hgq.inv.wf.low (by omega)]; rfl
          clear hgq hbq
          go_wp2_with (first | (go_at_call 26; (with_reducible refine keyO.mono ?_); rintro e w6 ⟨⟨A6, c6, rfl⟩, hb6⟩; have k6 := tlen_any (HGq.out.after hb6).inv.rep; have kh := thas_any (HGq.out.after hb6).inv.rep (z := 0) ((wf_iff _).2 (by omega)); have km := thas_any (HGq.out.after hb6).inv.rep (z := -1) ((wf_iff _).2 (by omega)); rw [hroot] at kh; rw [hminus] at km) | (go_at_call 27; (with_reducible refine k6.mono ?_); rintro e w' ⟨rfl, rfl⟩) | (go_at_call 14; first | ((with_reducible refine kh.mono ?_); rintro e w' ⟨rfl, rfl⟩) | ((with_reducible refine km.mono ?_); rintro e w' ⟨rfl, rfl⟩)))
          go_ret
          exact ⟨rfl, HBq.out.trans (hb6.mono hnr)⟩

end Go.Proofs.Ytmjnlnnedjmcfaa.Fix
