/- The statement PaintMore, walked. -/
import Derived.Test.YtbmidmpooooheaaPaZ
namespace Go.Proofs.Ytbmidmpooooheaa.Fix
open Go.ChangeShapes Go.WideShapes Go.ChangeAt Go.RowKit Go.Deep Go.Joins
set_option linter.unusedVariables false
set_option linter.unusedSimpArgs false
set_option maxRecDepth 100000

theorem pslice1 (W : World) (a z : Int) (b : Bool) : (Instr.buildSlice 22 1 #[(0, .agg #[.int .i64 a, .bool b, .int .i64 z])]).run Try.prog W = .ok (.slice (some ⟨W.heap.size, 0, none⟩) 1 1) (W.alloc (.cells #[.int .i64 a, .bool b, .int .i64 z] 39)) := by kernel_rfl
theorem flatPN_one (l : Nat → PNd) (n : Nat) : ∀ x ∈ flatPN l n, x.oneCell' = true := by
  induction n with
  | zero => intro x hx; cases hx
  | succ n ih =>
    intro x hx
    simp only [flatPN, List.mem_append] at hx
    rcases hx with hx | hx
    · exact ih x hx
    · simp [encPN] at hx; rcases hx with rfl | rfl | rfl <;> rfl
/-- all of a slice of nodes, in a row of one's own -/
theorem append_pnodes {w0 W : World} {base : Nat} {A : Option Addr} {l : Nat → PNd} {n c : Nat} (h : PSl W A l n c) (h0 : 0 < n) (hn : n ≤ 1000) (hB : Below base w0 W) (hbase : base ≤ W.heap.size) :
    ∃ v' w', (Builtin.append_ #[22, 22] 22 #[.slice none 0 0, .slice A n c]).run Try.prog W = .ok v' w' ∧ w'.ownsRow base 39 3 v' n (flatPN l n) ∧ Below base w0 w' ∧ base ≤ w'.heap.size := by
  obtain ⟨i0, hi0, hz0, hz1, hz2⟩ := info_parts pnodeInfo
  obtain ⟨b, off, rfl, hl, hc⟩ := h.nodes h0
  obtain ⟨v', w', hr, ho, hg, _, _⟩ := run_append_own_at (P := Try.prog) (w := W) base 22 22 39 i0 _ 3 24 Try.underlying22 hi0 hz0 hz1 hz2 rfl (by decide) (.slice none 0 0) 0 [] (World.ownsRow_nil _ _ _ _) ⟨b, off, none⟩ n c (flatPN l n) (flatPN_length l n)
    (by intro j u hj
        have hjl : j < n * 3 := by
          have := (List.getElem?_eq_some_iff.1 hj).1; rw [flatPN_length] at this; exact this
        obtain ⟨k, i, rfl, hi⟩ : ∃ k i, j = k * 3 + i ∧ i < 3 := ⟨j / 3, j % 3, by omega, by omega⟩
        have hk : k < n := by omega
        rw [flatPN_get l hk hi] at hj
        rw [addr_add, ← hj]
        obtain ⟨c0, c1, c2⟩ := hc k hk
        rcases (by omega : i = 0 ∨ i = 1 ∨ i = 2) with rfl | rfl | rfl
        · rw [Nat.add_zero]; exact c0
        · rw [← Nat.add_assoc]; exact c1
        · rw [← Nat.add_assoc]; exact c2)
    (flatPN_one l n) (by simp only [maxLen]; omega) (by omega) hbase
  refine ⟨v', w', hr, by simpa using ho, hB.grown hg hbase (fun g hgg => by simp [Value.ownBlock] at hgg), Nat.le_trans hbase hg.size⟩

theorem psl_own {w : World} {base : Nat} {v : Value} {n : Nat} {l : Nat → PNd} (h0 : 0 < n) (h : w.ownsRow base 39 3 v n (flatPN l n)) : ∃ A c, v = .slice A n c ∧ PSl w A l n c := by
  obtain ⟨A, c, rfl, hN⟩ := pnodes_of_own h
  rcases h.2 with ⟨_, q⟩ | ⟨g, cap, cur, e, _, _, h1, h2, _⟩
  · omega
  · injection e with e1 e2 e3
    subst e1 e3
    exact ⟨_, _, rfl, hN, h1, h2, fun e => by cases e⟩

/-- a row without one number, of its first places -/
def pwo (o : List Nat) (n k : Nat) : List Nat := (o.take k).filter fun x => x != n
theorem pwo_succ {o : List Nat} {n k : Nat} (h : k < o.length) : pwo o n (k + 1) = pwo o n k ++ if o.getD k 0 = n then [] else [o.getD k 0] := by
  unfold pwo
  rw [List.take_succ_eq_append_getElem h, List.filter_append]
  congr 1
  have e : o.getD k 0 = o[k] := by simp [List.getD, List.getElem?_eq_getElem h]
  rw [e]
  by_cases q : o[k] = n
  · rw [if_pos q]; simp [q]
  · rw [if_neg q]; simp [q]
theorem pwo_len (o : List Nat) (n k : Nat) : (pwo o n k).length ≤ k := Nat.le_trans (List.length_filter_le _ _) (by rw [List.length_take]; omega)
theorem PNodes.congr {w : World} {A : Option Addr} {l l' : Nat → PNd} {n : Nat} (h : PNodes w A l n) (e : ∀ k, k < n → l' k = l k) : PNodes w A l' n := fun h0 => by
  obtain ⟨b, off, e1, e2, hc⟩ := h h0
  exact ⟨b, off, e1, e2, fun k hk => by rw [e k hk]; exact hc k hk⟩

set_option maxHeartbeats 8000000 in
theorem pamore_walk (C : PaintCode) (a0 : Option Addr) (len0 cap0 : Nat) (a1 : Int) (w : World) (w0 : PRow w a0 len0 cap0) : Calls Try.prog 8 #[.slice a0 len0 cap0, .int .i64 a1] w fun e w' => e = .returned (.bool true) ∧ Below w.heap.size w w' := by
  obtain ⟨l0, hS0⟩ := w0.sl
  have hn63 := w0.cap
  clear w0
  generalize len0 = n at *
  generalize cap0 = c at *
  obtain ⟨l, hS, hln⟩ : ∃ l, PSl w a0 l n c ∧ l n = ⟨a1, false, 0⟩ := ⟨fun i => if i < n then l0 i else ⟨a1, false, 0⟩, ⟨hS0.nodes.congr fun k hk => if_pos hk, hS0.len, hS0.cap, hS0.none⟩, if_neg (by omega)⟩
  have HS := Lib.hid hS
  have HLN := Lib.hid hln
  clear hS hS0 hln
  by_cases hbig : (40 : Int) < (n : Int)
  · go_enter Try.func8, Try.ntmps8
    go_wp2_with (first | (go_at_call 10; (with_reducible refine (paworks_any C _).mono ?_); rintro e w1 ⟨rfl, hB⟩) | (go_at_call 17; (with_reducible refine (C.valid _ _ l n c (HS.out.after hB) hn50).mono ?_); rintro e w1 ⟨rfl, hb⟩; replace hB := hB.trans (hb.mono hB.size); clear hb))
    go_ret; exact ⟨rfl, hB⟩
  have hn50 : n ≤ 50 := by omega
  cases hv : pvB l n with
  | false =>
    go_enter Try.func8, Try.ntmps8
    go_wp2_with (first | (go_at_call 10; (with_reducible refine (paworks_any C _).mono ?_); rintro e w1 ⟨rfl, hB⟩) | (go_at_call 17; (with_reducible refine (C.valid _ _ l n c (HS.out.after hB) hn50).mono ?_); rintro e w1 ⟨rfl, hb⟩; replace hB := hB.trans (hb.mono hB.size); clear hb))
    go_ret; exact ⟨rfl, hB⟩
  | true =>
  have HV := Lib.hid (pvB_iff.1 hv)
  by_cases h0 : n = 0
  · subst h0
    go_enter Try.func8, Try.ntmps8
    go_wp2_with (first | (go_at_call 10; (with_reducible refine (paworks_any C _).mono ?_); rintro e w1 ⟨rfl, hB⟩) | (go_at_call 17; (with_reducible refine (C.valid _ _ l 0 c (HS.out.after hB) hn50).mono ?_); rintro e w1 ⟨rfl, hb⟩; replace hB := hB.trans (hb.mono hB.size); clear hb))
    go_ret; exact ⟨rfl, hB⟩
  have hnz : ((n : Int) == 0) = false := by simpa using h0
  have hn0 : 0 < n := by omega
  go_enter Try.func8, Try.ntmps8
  go_upto_region 6 with (first | (go_at_call 10; (with_reducible refine (paworks_any C _).mono ?_); rintro e w1 ⟨rfl, hB⟩) | (go_at_call 17; (with_reducible refine (C.valid _ _ l n c (HS.out.after hB) hn50).mono ?_); rintro e w1 ⟨rfl, hb⟩; replace hB := hB.trans (hb.mono hB.size); clear hb))
  obtain ⟨v2, w2, hr2, ho2, hb2, hs2⟩ := append_pnodes (HS.out.after hB) hn0 (by omega) hB hB.size
  obtain ⟨v3, w3, hr3, ho3, hb3, hs3⟩ := append_pnode ho2 hb2 hs2 (by omega)
  rw [HLN.out] at hr3
  obtain ⟨N, hN⟩ : ∃ N, N = n + 1 := ⟨_, rfl⟩
  rw [← hN] at ho3
  obtain ⟨A3, c3, rfl, hs⟩ := psl_own (by omega) ho3
  have HS3 := Lib.hid hs
  have HN := Lib.hid hN
  have HR2 := Lib.hid hr2
  have HR3 := Lib.hid hr3
  have HB3 := Lib.hid hb3
  have hN50 : N ≤ 50 := by omega
  have hnN : (n : Int) < (N : Int) := by omega
  clear hr2 hr3 ho2 ho3 hb2 hb3 hs2 hs3 hs hN hB
  go_upto_region 9 with (first | (refine wpList_pbuild (by rfl) _ rfl _ (by simp only [List.map_toArray, List.map_cons, List.map_nil]; rfl) (pbuild0 _ _) ?_) | (refine wpList_pslice (by rfl) 1 _ rfl _ (by simp only [List.map_toArray, List.map_cons, List.map_nil]; rfl) (pslice1 _ _ _ _) ?_) | (at_builtin; first | (refine wpList_append_run (by rfl) _ _ 22 rfl rfl rfl HR2.out ?_) | (refine wpList_append_run (by rfl) _ _ 22 rfl rfl rfl HR3.out ?_)))
  have hB := HB3.out
  clear HB3 HR2 HR3
  have hM := Below.refl w3.heap.size w3
  have KV := Lib.hid (C.valid _ _ l N c3 HS3.out hN50)
  cases hv2 : pvB l N with
  | false =>
    rw [hv2] at KV
    go_wp2_with (go_at_call 17; (with_reducible refine (KV.out).mono ?_); rintro e w4 ⟨rfl, hb⟩; replace hB := hB.trans (hb.mono hB.size); clear hb)
    go_ret; exact ⟨rfl, hB⟩
  | true =>
    rw [hv2] at KV
    have HV2 := Lib.hid (pvB_iff.1 hv2)
    go_upto_region 11 with (go_at_call 17; (with_reducible refine (KV.out).mono ?_); rintro e w4 ⟨rfl, hb4⟩)
    have hB4 := hB.trans (hb4.mono hB.size)
    have k5 := C.order w4 _ l n c (HS.out.after hB4) hn50
    rw [pord_len HV.out] at k5
    have HB4 := Lib.hid hB4
    have HS4 := Lib.hid (HS3.out.after hb4)
    clear hB hM hB4 hb4 KV
    go_upto_region 12 with (go_at_call 16; (with_reducible refine k5.mono ?_); rintro e w5 ⟨⟨B5, d5, rfl, hI5⟩, hb5⟩)
    have k6 := C.order w5 _ l N c3 (HS4.out.after hb5) hN50
    rw [pord_len HV2.out] at k6
    have HB5 := Lib.hid (HB4.out.trans (hb5.mono HB4.out.size))
    have HI5 := Lib.hid hI5
    clear hI5 hb5 k5 HB4 HS4
    go_upto_region 14 with (go_at_call 16; (with_reducible refine k6.mono ?_); rintro e w6 ⟨⟨B6, d6, rfl, hI6⟩, hb6⟩)
    have HB6 := Lib.hid (HB5.out.trans (hb6.mono HB5.out.size))
    have HI6 := Lib.hid hI6
    have HI5' := Lib.hid (HI5.out.after hb6)
    have hmore : pwo (pord l N) n N = pord l n := by
      unfold pwo
      rw [List.take_of_length_le (by rw [pord_len HV2.out]; omega)]
      have hN := HN.out
      subst hN
      rw [pord_some HV2.out, pord_some HV.out]
      exact Pa.order_more HV.out.ok hn0 (by unfold ply; rw [HLN.out])
    have HM := Lib.hid hmore
    have HLo := Lib.hid (pord_len HV.out)
    have HLN2 := Lib.hid (pord_len HV2.out)
    clear hI6 hb6 k6 HB5 HI5 hmore
    generalize pord l n = o at *
    generalize pord l N = p at *
    go_wp2
    go_loopw [9, 10] (fun rv iv wr => ∃ k : Nat, k ≤ N ∧ iv = .int .i64 (k : Int) ∧ wr.ownsRow w6.heap.size 3 1 rv (pwo p n k).length ((pints (pwo p n k)).map (Value.int .i64)) ∧ Below w6.heap.size w6 wr) (fun _ iv _ => N - (intOf iv).toNat)
    case atStart => exact ⟨0, by omega, rfl, World.ownsRow_nil _ _ _ _, Below.refl _ _⟩
    case round =>
      obtain ⟨k, hk, rfl, hown, hb⟩ := hrel
      by_cases hlt : k < N
      · have hltz : (k : Int) < (N : Int) := by omega
        obtain ⟨b6, o6, rfl, lb6, hcell6⟩ := (HI6.out.after hb).at_ (k := k) (by rw [pints_len, HLN2.out]; exact hlt)
        rw [pints_getD (by rw [HLN2.out]; exact hlt)] at hcell6
        have hstep := pwo_succ (n := n) (k := k) (o := p) (by rw [HLN2.out]; exact hlt)
        have hlw := pwo_len p n k
        generalize p.getD k 0 = y at *
        by_cases hyx : y = n
        · rw [if_pos hyx, List.append_nil] at hstep
          subst hyx
          have HSTEP := Lib.hid hstep
          have HOWN := Lib.hid hown
          have HBW := Lib.hid hb
          clear hstep hown hb
          go_wp2
          go_roundw
          case rel => exact ⟨k + 1, by omega, by go_num, by rw [HSTEP.out]; exact HOWN.out, HBW.out⟩
          case measure => simp [intOf]; omega
        · rw [if_neg hyx] at hstep
          have hyb : ((y : Int) != (n : Int)) = true := by simp; omega
          have hll : Hid ((pwo p n (k + 1)).length = (pwo p n k).length + 1) := Lib.hid (by rw [hstep]; simp)
          have hpi : Hid (pints (pwo p n (k + 1)) = pints (pwo p n k) ++ [(y : Int)]) := Lib.hid (by rw [hstep]; simp [pints])
          obtain ⟨v', w', hr, ho', hb', hs'⟩ := append_int (y : Int) hown hb hb.size (by omega)
          have HR := Lib.hid hr
          have HO := Lib.hid ho'
          have HB' := Lib.hid hb'
          clear hown hb hr ho' hb' hs' hstep
          go_wp2_with (at_builtin; refine wpList_append_run (by rfl) _ _ 26 rfl rfl rfl HR.out ?_)
          go_roundw
          case rel => exact ⟨k + 1, by omega, by go_num, by rw [hll.out, hpi.out]; exact HO.out, HB'.out⟩
          case measure => simp [intOf]; omega
      · have hltz : ¬ (k : Int) < (N : Int) := by omega
        obtain rfl : k = N := by omega
        rw [HM.out, HLo.out] at hown
        obtain ⟨A', c', hv', hI'⟩ := ints_of_own hown (by simp only [maxLen]; omega)
        rw [pints_len, HLo.out] at hv'
        subst hv'
        have hw : IntKind.i64.wrap ((n : Int) + 1) = (k : Int) := by have := HN.out; rw [IntWalk.i64_in _ (by omega)]; omega
        have kR := row_any A' B5 (pints o) n c' d5 _ hI' (HI5'.out.after hb) (by rw [pints_len, HLo.out]) (by omega)
        have HBW := Lib.hid (HB6.out.trans (hb.mono HB6.out.size))
        clear hown hb hI'
        go_wp2_with (go_at_call 15; (with_reducible refine kR.mono ?_); rintro e w9 ⟨rfl, hb9⟩)
        go_ret
        exact ⟨rfl, HBW.out.trans (hb9.mono HBW.out.size)⟩

end Go.Proofs.Ytbmidmpooooheaa.Fix
