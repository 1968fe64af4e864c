/- The statement TreeDoes, walked. -/
import Derived.Test.YtbkocceemfhhbaaTrBoth
namespace Go.Proofs.Ytbkocceemfhhbaa.Fix
open Go.ChangeShapes Go.WideShapes Go.ChangeAt Go.RowKit Go.Deep Go.Joins Go.Shelf
set_option linter.unusedVariables false
set_option linter.unusedSimpArgs false
set_option maxRecDepth 100000

/-- what both trees tell of a box -/
structure Sees (W : World) (t r : Nat) (z : Int) (b : Bool) (u d : Int) (s : Re.St) (l : List Int) : Prop where
  has : ∀ w, Below W.heap.size W w → Calls Try.prog 14 #[.pointer (some ⟨t, 0, none⟩), .int .i64 z] w fun e w' => e = .returned (.bool b) ∧ w = w'
  dhas : ∀ w, Below W.heap.size W w → Calls Try.prog 15 #[.pointer (some ⟨r, 0, none⟩), .int .i64 z] w fun e w' => e = .returned (.bool b) ∧ w = w'
  up : ∀ w, Below W.heap.size W w → Calls Try.prog 16 #[.pointer (some ⟨t, 0, none⟩), .int .i64 z] w fun e w' => e = .returned (.int .i64 u) ∧ w = w'
  dup : ∀ w, Below W.heap.size W w → Calls Try.prog 17 #[.pointer (some ⟨r, 0, none⟩), .int .i64 z] w fun e w' => e = .returned (.int .i64 u) ∧ w = w'
  depth : ∀ w, Below W.heap.size W w → Calls Try.prog 18 #[.pointer (some ⟨t, 0, none⟩), .int .i64 z] w fun e w' => e = .returned (.int .i64 d) ∧ w = w'
  ddepth : ∀ w, Below W.heap.size W w → Calls Try.prog 19 #[.pointer (some ⟨r, 0, none⟩), .int .i64 z] w fun e w' => e = .returned (.int .i64 d) ∧ w = w'
  sty : ∀ w, Below W.heap.size W w → Calls Try.prog 20 #[.pointer (some ⟨t, 0, none⟩), .int .i64 z] w fun e w' => e = .returned (.agg (cells s)) ∧ Below w.heap.size w w'
  dsty : ∀ w, Below W.heap.size W w → Calls Try.prog 21 #[.pointer (some ⟨r, 0, none⟩), .int .i64 z] w fun e w' => e = .returned (.agg (cells s)) ∧ Below w.heap.size w w'
  kids : ∀ w, Below W.heap.size W w → Calls Try.prog 23 #[.pointer (some ⟨t, 0, none⟩), .int .i64 z] w fun e w' => (∃ v, e = .returned v ∧ KS w' v l) ∧ Below w.heap.size w w'
  dkids : ∀ w, Below W.heap.size W w → Calls Try.prog 24 #[.pointer (some ⟨r, 0, none⟩), .int .i64 z] w fun e w' => (∃ v, e = .returned v ∧ KS w' v l) ∧ w = w'
  fit : Fits s
  small : l.length ≤ 100000

theorem Two.sees {W : World} {t r g c m n n0 : Nat} {L : Lay} {K : Int → Value} {T : Tr.T} (h : Two W t r g c m n n0 L K T T) {z : Int} (hz : Wf z) : ∃ b u d s l, Sees W t r z b u d s l :=
  ⟨(T z).isSome, upOf T z, Tr.dep T z, styOf T z, kidsOf T z,
   fun w hb => thas_any (h.after hb).good.inv.rep hz,
   fun w hb => dhas_any (h.after hb).doc z,
   fun w hb => tup_any (h.after hb).good.inv.rep hz,
   fun w hb => dup_any (h.after hb).doc z,
   fun w hb => (gdepth_any (h.after hb).good hz).mono fun e w' q => ⟨q.1, q.2.symm⟩,
   fun w hb => (ddepth_any (h.after hb).doc h.good.inv.wf z).mono fun e w' q => ⟨q.1, q.2.symm⟩,
   fun w hb => tstyle_any (h.after hb).good.inv.rep hz,
   fun w hb => dstyle_any (h.after hb).doc z,
   fun w hb => (gkids_any (h.after hb).good hz).mono fun e w' ⟨⟨v, q1, q2⟩, q3⟩ => ⟨⟨v, q1, q2.row⟩, q3⟩,
   fun w hb => dkids_any (h.after hb).doc z,
   style_wf h.good.fit z,
   by have := kidsOf_small h.good.inv.wf z; omega⟩

set_option maxHeartbeats 16000000 in
theorem trdoes_walk (a0 : Option Addr) (len0 cap0 : Nat) (a1 : Int) (w : World) (w0 : ARow w a0 len0 cap0) (w1 : (Lit.int .i64 a1).wf = true) : Calls Try.prog 3 #[.slice a0 len0 cap0, .int .i64 a1] w fun e w' => e = .returned (.bool true) ∧ Below w.heap.size w w' := by
  obtain ⟨l, hA⟩ := w0.acts
  have hW1 : Wf a1 := w1
  clear w0 w1
  go_enter Try.func3, Try.ntmps3
  go_upto_region 4 with (go_at_call 10; (with_reducible refine (trworks_any _).mono ?_); rintro e w1 ⟨rfl, hb1⟩)
  by_cases hbig : (100 : Int) < (len0 : Int)
  · go_wp2
    go_ret
    exact ⟨rfl, hb1⟩
  go_upto_region 8 with (first | (go_at_call 11; (with_reducible refine (gnew_any _).mono ?_); rintro e w2 ⟨⟨tb, rfl, L0, g0⟩, hb2⟩) | (go_at_call 12; (with_reducible refine (dnew_any _).mono ?_); rintro e w3 ⟨⟨rb, rfl, g3, c3, K3, d3, own3⟩, hb3⟩))
  have g1 := (g0.low hb1.size).after hb3
  have hsz := hb1.size
  have hsz2 := hb2.size
  have HTW0 : Hid (Two w3 tb rb g3 c3 1 1 w.heap.size L0 K3 T0 T0) := Lib.hid ⟨g1, d3, fun b hb => by have := own3 b hb; omega, fun b hb hd => by have h1 := own3 b hd; have h2 := g0.inv.rep.lt hb; omega⟩
  have HB3 := Lib.hid ((hb1.trans (hb2.mono hb1.size)).trans (hb3.mono (by omega)))
  have HA := Lib.hid hA
  clear g0 g1 d3 own3 hA hb1 hb2 hb3 hsz hsz2
  go_wp2
  go_loopw [8] (fun i wr => ∃ k Lr g c m K Tr' n, k ≤ len0 ∧ i = .int .i64 (k : Int) ∧ Two wr tb rb g c m n w.heap.size Lr K Tr' Tr' ∧ n ≤ k + 1 ∧ m ≤ k + 1 ∧ Below w.heap.size w wr) (fun i _ => len0 - (intOf i).toNat)
  case atStart => exact ⟨0, L0, g3, c3, 1, K3, T0, 1, by omega, rfl, HTW0.out, by omega, by omega, HB3.out⟩
  case round =>
    clear HTW0 HB3
    obtain ⟨k, Lr, g, c, m, K, Tr', n, hk, rfl, hgr, hnk, hmk, hbr⟩ := hrel
    have HGr := Lib.hid hgr
    have HBr := Lib.hid hbr
    have hnr := hbr.size
    clear hgr
    by_cases hlt : k < len0
    · have hltz : (k : Int) < (len0 : Int) := by omega
      obtain ⟨b, off, rfl, lb, hc⟩ := (HA.out.after hbr) (by omega); obtain ⟨hf, ha⟩ := hc k hlt; have HF := Lib.hid hf; have HACT := Lib.hid ha; clear hf ha hc hbr
      have keyB := both_any HGr.out (by omega) (by omega) hnr HF.out
      go_upto_region 10 with (first | (refine wpList_load_act (by rfl) _ rfl rfl HACT.out ?_) | (go_at_call 13; (with_reducible refine keyB.mono ?_); rintro e w4 ⟨rfl, L4, g4, c4, m4, n4, K4, tw4, hn4, hm4, hb4⟩; have HT4 := Lib.hid tw4; obtain ⟨b4, u4, d4, s4, l4, se4⟩ := tw4.sees hW1; have SE := Lib.hid se4; have HB4 := Lib.hid (HBr.out.trans hb4); have hr4 := Below.refl w4.heap.size w4; clear tw4 se4 hb4 keyB) | (go_at_call 14; (with_reducible refine (SE.out.has _ hr4).mono ?_); rintro e w' ⟨rfl, rfl⟩) | (go_at_call 15; (with_reducible refine (SE.out.dhas _ hr4).mono ?_); rintro e w' ⟨rfl, rfl⟩) | (go_at_call 16; (with_reducible refine (SE.out.up _ hr4).mono ?_); rintro e w' ⟨rfl, rfl⟩) | (go_at_call 17; (with_reducible refine (SE.out.dup _ hr4).mono ?_); rintro e w' ⟨rfl, rfl⟩) | (go_at_call 18; (with_reducible refine (SE.out.depth _ hr4).mono ?_); rintro e w' ⟨rfl, rfl⟩) | (go_at_call 19; (with_reducible refine (SE.out.ddepth _ hr4).mono ?_); rintro e w' ⟨rfl, rfl⟩) | (go_at_call 20; (with_reducible refine (SE.out.sty _ hr4).mono ?_); rintro e w5 ⟨rfl, hb5⟩) | (go_at_call 21; (with_reducible refine (SE.out.dsty _ hb5).mono ?_); rintro e w6 ⟨rfl, hb6⟩; have hc6 := hb5.trans (hb6.mono hb5.size)) | (refine wpList_neq_sty (by rfl) _ _ rfl rfl rfl SE.out.fit SE.out.fit (r := false) (by rw [same_self]; rfl) ?_) | (go_at_call 23; (with_reducible refine (SE.out.kids _ hc6).mono ?_); rintro e w7 ⟨⟨v7, rfl, hk7⟩, hb7⟩; have hc7 := hc6.trans (hb7.mono hc6.size)) | (go_at_call 24; (with_reducible refine (SE.out.dkids _ hc7).mono ?_); rintro e w8 ⟨⟨v8, rfl, hk8⟩, rfl⟩) | (go_at_call 22; (with_reducible refine (krow_any hk7 hk8 SE.out.small).mono ?_); rintro e w9 ⟨rfl, hb9⟩; have hc9 := hc7.trans (hb9.mono hc7.size)))
      go_wp2
      go_roundw
      case rel => exact ⟨k + 1, L4, g4, c4, m4, K4, doT Tr' (l k), n4, by omega, by go_num, HT4.out.after hc9, by omega, by omega, HB4.out.trans (hc9.mono HB4.out.size)⟩
      case measure => simp [intOf]; omega
    · have hltz : ¬ (k : Int) < (len0 : Int) := by omega
      obtain rfl : k = len0 := by omega
      clear hbr HA
      have H := HGr.out.good.inv.wf
      have hol := ord_len HGr.out.good
      have keyI := dinside_any 64 0 HGr.out.doc H.fit0 (by have := H.ord_small; unfold Tr.ord at this; omega)
      change Calls _ _ _ _ (fun e w' => (∃ v, e = .returned v ∧ w'.ownsRow _ _ 1 v (Tr.ord Tr').length ((Tr.ord Tr').map (Value.int .i64))) ∧ _) at keyI
      have HNUM := Lib.hid HGr.out.good.inv.num
      go_upto_region 14 with (go_at_call 25; (with_reducible refine keyI.mono ?_); rintro e w5 ⟨⟨v5, rfl, ho5⟩, hb5⟩; obtain ⟨A5, c5, rfl⟩ := own_sliceR ho5)
      have hk5 := rowBase (base' := 0) ho5 (Nat.zero_le _)
      have HK5 : Hid (KS w5 (.slice A5 (Tr.ord Tr').length c5) (Tr.ord Tr')) := Lib.hid hk5
      have HG5 := Lib.hid (HGr.out.after hb5).good
      have HB5 := Lib.hid (HBr.out.trans (hb5.mono hnr))
      have keyO := gorder_any HG5.out
      clear ho5 hk5 hb5 keyI HGr HBr
      generalize Tr.ord Tr' = o at *
      rw [HNUM.out] at HK5
      rw [HNUM.out]
      go_wp2_with (first | (go_at_call 26; (with_reducible refine keyO.mono ?_); rintro e w6 ⟨⟨v6, rfl, hk6⟩, hb6⟩; have keyR := krow_any hk6.row (HK5.out.after hb6) hol; have HG6 := Lib.hid (HG5.out.after hb6)) | (go_at_call 22; (with_reducible refine keyR.mono ?_); rintro e w7 ⟨rfl, hb7⟩; have keyL := tlen_any (HG6.out.after hb7).inv.rep) | (go_at_call 27; (with_reducible refine keyL.mono ?_); rintro e w' ⟨rfl, rfl⟩))
      go_ret
      exact ⟨rfl, HB5.out.trans ((hb6.trans (hb7.mono hb6.size)).mono HB5.out.size)⟩

end Go.Proofs.Ytbkocceemfhhbaa.Fix
