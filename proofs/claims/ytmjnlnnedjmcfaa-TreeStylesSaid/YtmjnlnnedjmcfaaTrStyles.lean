/- The statement TreeStyles, walked. -/
import Derived.Test.YtmjnlnnedjmcfaaTrShare
namespace Go.Proofs.Ytmjnlnnedjmcfaa.Fix
open Go.ChangeShapes Go.WideShapes Go.ChangeAt Go.RowKit Go.Deep Go.Joins Go.Shelf
set_option linter.unusedVariables false
set_option linter.unusedSimpArgs false
set_option maxRecDepth 100000

/-- a block that is none of a tree's -/
structure Spare (W : World) (t : Nat) (L : Lay) (T : Tr.T) (b : Nat) (o : Obj) : Prop where
  at_ : At W b o
  own : ¬ owned t L T b
theorem Spare.grow {W W' : World} {t : Nat} {L L' : Lay} {T T' : Tr.T} {b : Nat} {o : Obj} (h : Spare W t L T b o) (k : Grow t L L' T T' W W') : Spare W' t L' T' b o :=
  ⟨h.at_.out h.own k.1, fun ho => (k.2 b ho).elim h.own fun q => absurd h.at_.lt (by omega)⟩
theorem Spare.after {W W' : World} {t : Nat} {L : Lay} {T : Tr.T} {b : Nat} {o : Obj} (h : Spare W t L T b o) (hb : Below W.heap.size W W') : Spare W' t L T b o := ⟨h.at_.keep hb, h.own⟩

theorem set_sty {T : Tr.T} {x : Int} {s : Re.St} (h : setE T x s = 0) (z : Int) : styOf (setT T x s) z = if z = x then s else styOf T z := by
  unfold setT
  rw [if_pos h]
  unfold setE at h
  cases hx : T x with
  | none => rw [hx] at h; simp at h
  | some nd =>
    unfold Tr.styT styOf
    rw [hx]
    by_cases e : z = x
    · subst e; rw [if_pos rfl]; simp only; rw [Tr.set_same]; rfl
    · rw [if_neg e]; simp only; rw [Tr.set_other _ _ e]
theorem mov_sty {T : Tr.T} (H : Tr.WF T) (x u a z : Int) : styOf (Tr.movR T x u a) z = styOf T z := by
  unfold Tr.movR
  split
  · rename_i h
    obtain ⟨nd, p, hx, hu, h0, hun, _⟩ := Tr.movE_zero h
    unfold styOf
    rw [H.mov_at hx h0 hu hun]
    cases T z <;> rfl
  · rfl
theorem gstyle_any {w : World} {t n n0 : Nat} {L : Lay} {T : Tr.T} (h : Good w t L T n n0) {z : Int} (hz : Wf z) : Calls Try.prog 20 #[.pointer (some ⟨t, 0, none⟩), .int .i64 z] w fun e w' => e = .returned (.agg (cells (styOf T z))) ∧ Below w.heap.size w w' := tstyle_any h.inv.rep hz

set_option maxHeartbeats 16000000 in
theorem trstyles_walk (a0 : Option Addr) (len0 cap0 : Nat) (a1 : Int) (a2 : Re.St) (a3 a4 : Int) (w : World) (w0 : ARow w a0 len0 cap0) (w1 : (Lit.int .i64 a1).wf = true) (w2 : Fits a2) (w3 : (Lit.int .i64 a3).wf = true) (w4 : (Lit.int .i64 a4).wf = true) : Calls Try.prog 8 #[.slice a0 len0 cap0, .int .i64 a1, .agg (cells a2), .int .i64 a3, .int .i64 a4] w fun e w' => e = .returned (.bool true) ∧ Below w.heap.size w w' := by
  obtain ⟨l, hA⟩ := w0.acts
  have hW1 : Wf a1 := w1
  have hW3 : Wf a3 := w3
  have hW4 : Wf a4 := w4
  have HF2 := Lib.hid w2
  clear w0 w1 w2 w3 w4
  go_enter Try.func8, Try.ntmps8
  go_upto_region 1 with (fail)
  have hbx : At (w.alloc (.cells (cells a2) 43)) w.heap.size (.cells (cells a2) 43) := At.new _ _
  have hB0 : Below w.heap.size w (w.alloc (.cells (cells a2) 43)) := Below.alloc' (Below.refl _ _) _
  generalize w.alloc (.cells (cells a2) 43) = wb at *
  go_upto_region 4 with (go_at_call 10; (with_reducible refine (trworks_any _).mono ?_); rintro e w1 ⟨rfl, hb1⟩)
  have HB1 := Lib.hid (hB0.trans (hb1.mono hB0.size))
  by_cases hbig : (100 : Int) < (len0 : Int)
  · go_wp2
    go_ret
    exact ⟨rfl, HB1.out⟩
  by_cases hsame : a1 = a3
  · subst hsame
    go_wp2
    go_ret
    exact ⟨rfl, HB1.out⟩
  have hsameb : (a1 == a3) = false := by simpa using hsame
  have HBX := Lib.hid (hbx.keep hb1)
  have HA := Lib.hid (hA.after HB1.out)
  clear hbx hB0 hb1 hA
  go_upto_region 7 with (go_at_call 11; (with_reducible refine (gnew_any _).mono ?_); rintro e w2 ⟨⟨tb, rfl, L0, g0⟩, hb2⟩)
  have HG0 := Lib.hid g0
  have HB2 := Lib.hid hb2
  clear g0 hb2
  go_wp2
  go_loopw [13] (fun i wr => ∃ k Lr Tr' n, k ≤ len0 ∧ i = .int .i64 (k : Int) ∧ Good wr tb Lr Tr' n w1.heap.size ∧ n ≤ k + 1 ∧ Below w1.heap.size w1 wr) (fun i _ => len0 - (intOf i).toNat)
  case atStart => exact ⟨0, L0, T0, 1, by omega, rfl, HG0.out, by omega, HB2.out⟩
  case round =>
    obtain ⟨k, Lr, Tr', n, hk, rfl, hgr, hnk, hbr⟩ := hrel; have HGr := Lib.hid hgr; have HBr := Lib.hid hbr; have hnr := hbr.size; clear hgr
    by_cases hlt : k < len0
    · have hltz : (k : Int) < (len0 : Int) := by omega
      obtain ⟨b, off, rfl, lb, hc⟩ := (HA.out.after hbr) (by omega); obtain ⟨hf, ha⟩ := hc k hlt; have HF := Lib.hid hf; have HACT := Lib.hid ha; clear hf ha hc hbr
      go_wp2_with (first | (refine wpList_load_act (by rfl) _ rfl rfl HACT.out ?_) | (go_at_call 28; (with_reducible refine (do_any HGr.out (by omega) hnr HF.out).mono ?_); rintro e w4 ⟨⟨v4, rfl⟩, L4, n4, hg4, hn4, hb4⟩))
      go_roundw
      case rel => exact ⟨k + 1, L4, doT Tr' (l k), n4, by omega, by go_num, hg4, by omega, HBr.out.trans hb4⟩
      case measure => simp [intOf]; omega
    · have hltz : ¬ (k : Int) < (len0 : Int) := by omega
      obtain rfl : k = len0 := by omega
      have hhb : Spare wr tb Lr Tr' w.heap.size (.cells (cells a2) 43) := ⟨HBX.out.keep hbr, fun ho => by have := HGr.out.own _ ho; have := HBX.out.lt; omega⟩
      clear hbr HG0 HB2 HA HBX
      have keyS := gstyle_any HGr.out hW3
      have hsf := style_wf HGr.out.fit a3
      have HHB := Lib.hid hhb
      clear hhb
      go_upto_region 12 with (first | (go_at_call 20; (with_reducible refine keyS.mono ?_); rintro e w5 ⟨rfl, hb5⟩) | (refine wpList_alloc_style (by rfl) rfl ?_) | (refine wpList_store_style (by rfl) _ _ rfl rfl rfl (At.new _ _) ?_))
      have hA14 : At ((w5.alloc (.cells (cells Re.zero) 43)).setRow w5.heap.size (cells (styOf Tr' a3))) w5.heap.size (.cells (cells (styOf Tr' a3)) 43) := (At.new w5 _).setRow _
      have hB5 : Below w5.heap.size w5 ((w5.alloc (.cells (cells Re.zero) 43)).setRow w5.heap.size (cells (styOf Tr' a3))) := below_setRow (Below.alloc' (Below.refl _ _) _) (Nat.le_refl _) _
      have hnb : ¬ owned tb Lr Tr' w5.heap.size := fun ho => by have := HGr.out.inv.rep.lt ho; have := hb5.size; omega
      generalize (w5.alloc (.cells (cells Re.zero) 43)).setRow w5.heap.size (cells (styOf Tr' a3)) = w6 at *
      generalize hb14 : w5.heap.size = b14 at *
      have hb6 := hb5.trans (hB5.mono (by have := hb5.size; omega))
      have HG6 := Lib.hid (HGr.out.after hb6)
      have HHB6 := Lib.hid (HHB.out.after hb6)
      have HH14 := Lib.hid (show Spare w6 tb Lr Tr' b14 _ from ⟨hA14, hnb⟩)
      have HB6 := Lib.hid (HBr.out.trans (hb6.mono hnr))
      have hn6 := HB6.out.size
      have hA7 := HHB6.out.at_
      clear hA14 hB5 hnb hb14 hb5 hb6 HHB HGr HBr hnr keyS
      have keyT := gset_any HG6.out hn6 hW1 HF2.out
      go_frame
      have hold := HG6.out
      by_cases hE : setE Tr' a1 a2 = 0
      · have hs1 := Lib.hid (set_sty hE a1)
        have hs3 := Lib.hid (set_sty hE a3)
        rw [if_pos rfl] at hs1
        rw [if_neg (fun e => hsame e.symm)] at hs3
        rw [hE] at keyT
        generalize setT Tr' a1 a2 = T2 at *
        generalize styOf Tr' a3 = sw at *
        have HSF := Lib.hid hsf
        clear hold hsf hE
        go_upto_region 16 with (first | (refine wpList_load_style (by rfl) _ rfl rfl hA7 ?_) | (go_at_call 33; (with_reducible refine keyT.mono ?_); rintro e w7 ⟨rfl, hg7, hgr7, hb7⟩; have hn7 := Nat.le_trans hn6 hb7.size; have keyM := gmove_any hg7 hn7 (a := 0) hW1 hW4) | (go_at_call 31; (with_reducible refine keyM.mono ?_); rintro e w8 ⟨rfl, L8, hg8, hgr8, hb8⟩))
        have h14 := (HH14.out.grow hgr7).grow hgr8
        have h7 := (HHB6.out.grow hgr7).grow hgr8
        have hB8 : Below w8.heap.size w8 w8.drew := (Below.refl _ _).drew
        have hgd := hg8.after hB8
        have h14d := h14.after hB8
        have h7d := h7.after hB8
        have HBD := Lib.hid (HB6.out.trans (hb7.trans (hb8.trans (hB8.mono (Nat.le_trans hn7 hb8.size)))))
        have hnd := HBD.out.size
        have hm1 : styOf (Tr.movR T2 a1 a4 0) a1 = a2 := (mov_sty hg7.inv.wf a1 a4 0 a1).trans hs1.out
        have hm3 : styOf (Tr.movR T2 a1 a4 0) a3 = sw := (mov_sty hg7.inv.wf a1 a4 0 a3).trans hs3.out
        have keyW1 := gstyle_any hgd hW1
        have keyW3 := fun W (hb : Below w8.drew.heap.size w8.drew W) => gstyle_any (hgd.after hb) hW3
        rw [hm1] at keyW1
        rw [hm3] at keyW3
        have hRA := Lib.hid fun W (hb : Below w8.drew.heap.size w8.drew W) => (h14d.after hb).at_
        have hRB := Lib.hid fun W (hb : Below w8.drew.heap.size w8.drew W) => (h7d.after hb).at_
        clear h14 h7 hg7 hgr7 hb7 hg8 hgr8 hb8 hgd keyT keyM hB8 h14d h7d HH14 HHB6 HG6 hA7 hm1 hm3
        refine Drawn.wp_region_gen (S := (fun W' => Below w8.drew.heap.size w8.drew W')) 16 (by kernel_rfl) ?_ ?_
        · exact Below.refl _ _
        intro hS1
        (refine Drawn.gen_take (i := 0) rfl (by kernel_rfl) (by kernel_rfl) (by kernel_rfl) (by kernel_rfl) (by omega) (by assumption) (by first | exact .inr ⟨by rfl, rfl⟩ | exact .inl ⟨by rfl, by intro w2 hS; go_simp; first | done | with_reducible rfl | exact ⟨rfl, rfl⟩⟩) ?_; (try simp only [Act.put, List.setIfInBounds_toArray, List.set_cons_zero, List.set_cons_succ]))
        (refine Drawn.gen_take (i := 1) rfl (by kernel_rfl) (by kernel_rfl) (by kernel_rfl) (by kernel_rfl) (by omega) (by assumption) (by first | exact .inr ⟨by rfl, rfl⟩ | exact .inl ⟨by rfl, by intro w2 hS; go_simp; first | done | with_reducible rfl | exact ⟨rfl, rfl⟩⟩) ?_; (try simp only [Act.put, List.setIfInBounds_toArray, List.set_cons_zero, List.set_cons_succ]))
        (refine Drawn.gen_take (i := 2) rfl (by kernel_rfl) (by kernel_rfl) (by kernel_rfl) (by kernel_rfl) (by omega) (by assumption) (by first | exact .inr ⟨by rfl, rfl⟩ | exact .inl ⟨by rfl, by intro w2 hS; go_simp; first | done | with_reducible rfl | exact ⟨rfl, rfl⟩⟩) ?_; (try simp only [Act.put, List.setIfInBounds_toArray, List.set_cons_zero, List.set_cons_succ]))
        (refine Drawn.gen_take (i := 3) rfl (by kernel_rfl) (by kernel_rfl) (by kernel_rfl) (by kernel_rfl) (by omega) (by assumption) (by first | exact .inr ⟨by rfl, rfl⟩ | exact .inl ⟨by rfl, by intro w2 hS; go_simp; first | done | with_reducible rfl | exact ⟨rfl, rfl⟩⟩) ?_; (try simp only [Act.put, List.setIfInBounds_toArray, List.set_cons_zero, List.set_cons_succ]))
        (refine Drawn.gen_take (i := 5) rfl (by kernel_rfl) (by kernel_rfl) (by kernel_rfl) (by kernel_rfl) (by omega) (by assumption) (reads_load_style (by rfl) (.tmp 7) rfl rfl (fun W h => hRB.out W h)) ?_; (try simp only [Act.put, List.setIfInBounds_toArray, List.set_cons_zero, List.set_cons_succ]))
        refine Drawn.gen_one (i := 4) (by kernel_rfl) rfl (by rfl) ?_
        refine Drawn.Step.call (by go_simp; first | done | with_reducible rfl | exact ⟨rfl, rfl⟩) keyW1 ?_
        rintro e w9 ⟨rfl, hb9⟩
        refine ⟨_, rfl, fun _ => hb9, ?_⟩
        (try simp only [Act.put, List.setIfInBounds_toArray, List.set_cons_zero, List.set_cons_succ])
        clear hS1
        (refine Drawn.gen_take (i := 6) rfl (by kernel_rfl) (by kernel_rfl) (by kernel_rfl) (by kernel_rfl) (by omega) (by assumption) (eqs_sty (by rfl) (.tmp 66) (.tmp 67) rfl rfl rfl HF2.out HF2.out (r := true) (same_self _)) ?_; (try simp only [Act.put, List.setIfInBounds_toArray, List.set_cons_zero, List.set_cons_succ]))
        (refine Drawn.gen_take (i := 7) rfl (by kernel_rfl) (by kernel_rfl) (by kernel_rfl) (by kernel_rfl) (by omega) (by assumption) (by first | exact .inr ⟨by rfl, rfl⟩ | exact .inl ⟨by rfl, by intro w2 hS; go_simp; first | done | with_reducible rfl | exact ⟨rfl, rfl⟩⟩) ?_; (try simp only [Act.put, List.setIfInBounds_toArray, List.set_cons_zero, List.set_cons_succ]))
        (refine Drawn.gen_take (i := 8) rfl (by kernel_rfl) (by kernel_rfl) (by kernel_rfl) (by kernel_rfl) (by omega) (by assumption) (by first | exact .inr ⟨by rfl, rfl⟩ | exact .inl ⟨by rfl, by intro w2 hS; go_simp; first | done | with_reducible rfl | exact ⟨rfl, rfl⟩⟩) ?_; (try simp only [Act.put, List.setIfInBounds_toArray, List.set_cons_zero, List.set_cons_succ]))
        (refine Drawn.gen_take (i := 9) rfl (by kernel_rfl) (by kernel_rfl) (by kernel_rfl) (by kernel_rfl) (by omega) (by assumption) (by first | exact .inr ⟨by rfl, rfl⟩ | exact .inl ⟨by rfl, by intro w2 hS; go_simp; first | done | with_reducible rfl | exact ⟨rfl, rfl⟩⟩) ?_; (try simp only [Act.put, List.setIfInBounds_toArray, List.set_cons_zero, List.set_cons_succ]))
        (refine Drawn.gen_take (i := 10) rfl (by kernel_rfl) (by kernel_rfl) (by kernel_rfl) (by kernel_rfl) (by omega) (by assumption) (by first | exact .inr ⟨by rfl, rfl⟩ | exact .inl ⟨by rfl, by intro w2 hS; go_simp; first | done | with_reducible rfl | exact ⟨rfl, rfl⟩⟩) ?_; (try simp only [Act.put, List.setIfInBounds_toArray, List.set_cons_zero, List.set_cons_succ]))
        (refine Drawn.gen_take (i := 12) rfl (by kernel_rfl) (by kernel_rfl) (by kernel_rfl) (by kernel_rfl) (by omega) (by assumption) (reads_load_style (by rfl) (.tmp 14) rfl rfl (fun W h => hRA.out W h)) ?_; (try simp only [Act.put, List.setIfInBounds_toArray, List.set_cons_zero, List.set_cons_succ]))
        refine Drawn.gen_one (i := 11) (by kernel_rfl) rfl (by rfl) ?_
        refine Drawn.Step.call (by go_simp; first | done | with_reducible rfl | exact ⟨rfl, rfl⟩) (keyW3 _ hb9) ?_
        rintro e w10 ⟨rfl, hb10⟩
        have hb910 := hb9.trans (hb10.mono hb9.size)
        refine ⟨_, rfl, fun _ => hb910, ?_⟩
        (try simp only [Act.put, List.setIfInBounds_toArray, List.set_cons_zero, List.set_cons_succ])
        (refine Drawn.gen_take (i := 13) rfl (by kernel_rfl) (by kernel_rfl) (by kernel_rfl) (by kernel_rfl) (by omega) (by assumption) (eqs_sty (by rfl) (.tmp 73) (.tmp 74) rfl rfl rfl HSF.out HSF.out (r := true) (same_self _)) ?_; (try simp only [Act.put, List.setIfInBounds_toArray, List.set_cons_zero, List.set_cons_succ]))
        (refine Drawn.gen_take (i := 14) rfl (by kernel_rfl) (by kernel_rfl) (by kernel_rfl) (by kernel_rfl) (by omega) (by assumption) (by first | exact .inr ⟨by rfl, rfl⟩ | exact .inl ⟨by rfl, by intro w2 hS; go_simp; first | done | with_reducible rfl | exact ⟨rfl, rfl⟩⟩) ?_; (try simp only [Act.put, List.setIfInBounds_toArray, List.set_cons_zero, List.set_cons_succ]))
        (refine Drawn.gen_take (i := 15) rfl (by kernel_rfl) (by kernel_rfl) (by kernel_rfl) (by kernel_rfl) (by omega) (by assumption) (by first | exact .inr ⟨by rfl, rfl⟩ | exact .inl ⟨by rfl, by intro w2 hS; go_simp; first | done | with_reducible rfl | exact ⟨rfl, rfl⟩⟩) ?_; (try simp only [Act.put, List.setIfInBounds_toArray, List.set_cons_zero, List.set_cons_succ]))
        refine Drawn.gen_end (by kernel_rfl) ?_
        go_wp2
        go_ret
        exact ⟨rfl, HB1.out.trans ((HBD.out.trans (hb910.mono hnd)).mono HB1.out.size)⟩
      · have hT : setT Tr' a1 a2 = Tr' := by unfold setT; rw [if_neg hE]
        rw [hT] at keyT
        generalize setE Tr' a1 a2 = E at *
        have hEb : (E == 0) = false := by simpa using hE
        go_upto_region 14 with (first | (refine wpList_load_style (by rfl) _ rfl rfl hA7 ?_) | (go_at_call 33; (with_reducible refine keyT.mono ?_); rintro e w7 ⟨rfl, hg7, hgr7, hb7⟩))
        have h14 := HH14.out.grow hgr7
        have hB8 : Below w7.heap.size w7 w7.drew := (Below.refl _ _).drew
        have hg8 := hg7.after hB8
        have h14d := h14.after hB8
        have HBD := Lib.hid (HB6.out.trans (hb7.trans (hB8.mono (Nat.le_trans hn6 hb7.size))))
        have keyW := gstyle_any hg8 hW3
        generalize styOf Tr' a3 = sw at *
        have HSF := Lib.hid hsf
        have hnd := HBD.out.size
        have hRA := Lib.hid fun W (hb : Below w7.drew.heap.size w7.drew W) => (h14d.after hb).at_
        clear h14 hg7 hgr7 hb7 hg8 keyT hold hsf hB8 h14d HH14 HHB6 HG6 hA7
        refine Drawn.wp_region_gen (S := (fun W' => Below w7.drew.heap.size w7.drew W')) 9 (by kernel_rfl) ?_ ?_
        · exact Below.refl _ _
        intro hS1
        (refine Drawn.gen_take (i := 0) rfl (by kernel_rfl) (by kernel_rfl) (by kernel_rfl) (by kernel_rfl) (by omega) (by assumption) (by first | exact .inr ⟨by rfl, rfl⟩ | exact .inl ⟨by rfl, by intro w2 hS; go_simp; first | done | with_reducible rfl | exact ⟨rfl, rfl⟩⟩) ?_; (try simp only [Act.put, List.setIfInBounds_toArray, List.set_cons_zero, List.set_cons_succ]))
        (refine Drawn.gen_take (i := 1) rfl (by kernel_rfl) (by kernel_rfl) (by kernel_rfl) (by kernel_rfl) (by omega) (by assumption) (by first | exact .inr ⟨by rfl, rfl⟩ | exact .inl ⟨by rfl, by intro w2 hS; go_simp; first | done | with_reducible rfl | exact ⟨rfl, rfl⟩⟩) ?_; (try simp only [Act.put, List.setIfInBounds_toArray, List.set_cons_zero, List.set_cons_succ]))
        (refine Drawn.gen_take (i := 2) rfl (by kernel_rfl) (by kernel_rfl) (by kernel_rfl) (by kernel_rfl) (by omega) (by assumption) (by first | exact .inr ⟨by rfl, rfl⟩ | exact .inl ⟨by rfl, by intro w2 hS; go_simp; first | done | with_reducible rfl | exact ⟨rfl, rfl⟩⟩) ?_; (try simp only [Act.put, List.setIfInBounds_toArray, List.set_cons_zero, List.set_cons_succ]))
        (refine Drawn.gen_take (i := 3) rfl (by kernel_rfl) (by kernel_rfl) (by kernel_rfl) (by kernel_rfl) (by omega) (by assumption) (by first | exact .inr ⟨by rfl, rfl⟩ | exact .inl ⟨by rfl, by intro w2 hS; go_simp; first | done | with_reducible rfl | exact ⟨rfl, rfl⟩⟩) ?_; (try simp only [Act.put, List.setIfInBounds_toArray, List.set_cons_zero, List.set_cons_succ]))
        (refine Drawn.gen_take (i := 5) rfl (by kernel_rfl) (by kernel_rfl) (by kernel_rfl) (by kernel_rfl) (by omega) (by assumption) (reads_load_style (by rfl) (.tmp 14) rfl rfl (fun W h => hRA.out W h)) ?_; (try simp only [Act.put, List.setIfInBounds_toArray, List.set_cons_zero, List.set_cons_succ]))
        refine Drawn.gen_one (i := 4) (by kernel_rfl) rfl (by rfl) ?_
        refine Drawn.Step.call (by go_simp; first | done | with_reducible rfl | exact ⟨rfl, rfl⟩) keyW ?_
        rintro e w9 ⟨rfl, hb9⟩
        refine ⟨_, rfl, fun _ => hb9, ?_⟩
        (try simp only [Act.put, List.setIfInBounds_toArray, List.set_cons_zero, List.set_cons_succ])
        clear hS1
        (refine Drawn.gen_take (i := 6) rfl (by kernel_rfl) (by kernel_rfl) (by kernel_rfl) (by kernel_rfl) (by omega) (by assumption) (eqs_sty (by rfl) (.tmp 54) (.tmp 55) rfl rfl rfl HSF.out HSF.out (r := true) (same_self _)) ?_; (try simp only [Act.put, List.setIfInBounds_toArray, List.set_cons_zero, List.set_cons_succ]))
        (refine Drawn.gen_take (i := 7) rfl (by kernel_rfl) (by kernel_rfl) (by kernel_rfl) (by kernel_rfl) (by omega) (by assumption) (by first | exact .inr ⟨by rfl, rfl⟩ | exact .inl ⟨by rfl, by intro w2 hS; go_simp; first | done | with_reducible rfl | exact ⟨rfl, rfl⟩⟩) ?_; (try simp only [Act.put, List.setIfInBounds_toArray, List.set_cons_zero, List.set_cons_succ]))
        (refine Drawn.gen_take (i := 8) rfl (by kernel_rfl) (by kernel_rfl) (by kernel_rfl) (by kernel_rfl) (by omega) (by assumption) (by first | exact .inr ⟨by rfl, rfl⟩ | exact .inl ⟨by rfl, by intro w2 hS; go_simp; first | done | with_reducible rfl | exact ⟨rfl, rfl⟩⟩) ?_; (try simp only [Act.put, List.setIfInBounds_toArray, List.set_cons_zero, List.set_cons_succ]))
        refine Drawn.gen_end (by kernel_rfl) ?_
        go_wp2
        go_ret
        exact ⟨rfl, HB1.out.trans ((HBD.out.trans (hb9.mono hnd)).mono HB1.out.size)⟩

end Go.Proofs.Ytmjnlnnedjmcfaa.Fix
