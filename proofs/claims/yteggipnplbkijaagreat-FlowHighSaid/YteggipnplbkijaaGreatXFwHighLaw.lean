/- The statement FlowHigh. -/
import Derived.Test.YteggipnplbkijaaGreatW33
import Derived.Test.YteggipnplbkijaaGreatW34
import Derived.Test.YteggipnplbkijaaGreatXFwHighMath
import Derived.Lib.MinMax
namespace Go.Proofs.YteggipnplbkijaaGreat.Fix
open Go.ChangeShapes Go.WideShapes Go.ChangeAt Go.RowKit
set_option linter.unusedVariables false
set_option linter.unusedSimpArgs false
set_option maxRecDepth 100000

theorem ex_f2 : Tr.free A1 = 2 := Tr.free_eq ⟨by decide, isSome_none (by decide +kernel), fun y h0 h1 => by
  obtain rfl | rfl : y = 0 ∨ y = 1 := by omega
  · exact isSome_ne (by decide +kernel)
  · exact isSome_ne (by decide +kernel)⟩
def B2 : Tr.T := Tr.addT A1 2 1 0
theorem b2_e : Tr.addE A1 1 0 = 0 := by decide +kernel
theorem b2_i : Tr.addI A1 1 0 = 2 := by unfold Tr.addI; rw [b2_e, if_pos rfl, ex_f2]
theorem b2_t : Tr.addR A1 1 0 = B2 := by unfold Tr.addR; rw [b2_e, if_pos rfl, ex_f2]; rfl
theorem w_add3 {w : World} {t n n0 : Nat} {L : Lay} (h : Good w t L A1 n n0) (hn : n < 4096) (h0 : n0 ≤ w.heap.size) : Calls Tryz.prog 26 #[.pointer (some ⟨t, 0, none⟩), .int .i64 1, .int .i64 0] w fun e w' => e = .returned (.tuple #[.int .i64 2, .int .i64 0]) ∧ ∃ L' n', Good w' t L' B2 n' n0 ∧ n' ≤ n + 1 ∧ Below n0 w w' := by
  have := gadd_any h hn h0 (u := 1) (a := 0) ((wf_iff _).2 (by omega))
  rw [b2_i, b2_e, b2_t] at this
  exact this.mono fun e w' ⟨h1, L', n', h2, h3, _, h4⟩ => ⟨h1, L', n', h2, h3, h4⟩
/-- three boxes, one in the other -/
def C2 (s : Re.St) : Tr.T := Tr.styT B2 1 s
def T3 (s k : Re.St) : Tr.T := Tr.styT (C2 s) 2 k
theorem T3_0 (s k : Re.St) : T3 s k 0 = some ⟨-1, [1], Re.zero⟩ := rfl
theorem T3_1 (s k : Re.St) : T3 s k 1 = some ⟨0, [2], s⟩ := rfl
theorem T3_2 (s k : Re.St) : T3 s k 2 = some ⟨1, [], k⟩ := rfl
theorem T3_no (s k : Re.St) {z : Int} (h0 : z ≠ 0) (h1 : z ≠ 1) (h2 : z ≠ 2) : T3 s k z = none := by
  have e1 : T3 s k = Tr.set (C2 s) 2 ⟨1, [], k⟩ := rfl
  have e2 : C2 s = Tr.set B2 1 ⟨0, [2], s⟩ := rfl
  rw [e1, Tr.set_other _ _ h2, e2, Tr.set_other _ _ h1]
  have e3 := Tr.add_at (t := A1) (x := 2) (u := 1) (i := 0) (p := ⟨0, [], Re.zero⟩) rfl rfl z
  show Tr.addT A1 2 1 0 z = none
  rw [e3, if_neg h2, if_neg h1]
  have e4 := Tr.add_at (t := T0) (x := 1) (u := 0) (i := 0) (p := ⟨-1, [], Re.zero⟩) rfl rfl z
  show Tr.addT T0 1 0 0 z = none
  rw [e4, if_neg h1, if_neg h0]
  unfold T0
  rw [if_neg h0]
theorem T3_nd {s k : Re.St} {z : Int} {nd : Tr.Nd} (h : T3 s k z = some nd) : nd.kids.length ≤ 64 ∧ (nd.sty = Re.zero ∨ nd.sty = s ∨ nd.sty = k) := by
  by_cases h0 : z = 0
  · subst h0; rw [T3_0] at h; injection h with h; subst h; exact ⟨by simp, .inl rfl⟩
  · by_cases h1 : z = 1
    · subst h1; rw [T3_1] at h; injection h with h; subst h; exact ⟨by simp, .inr (.inl rfl)⟩
    · by_cases h2 : z = 2
      · subst h2; rw [T3_2] at h; injection h with h; subst h; exact ⟨by simp, .inr (.inr rfl)⟩
      · rw [T3_no s k h0 h1 h2] at h; cases h
theorem T3_shn {s k : Re.St} (h3 : s.c 0 ≠ 3) : shn (T3 s k) 2 1 = true := by
  simp only [shn, T3_1, T3_0]
  simp [h3, show Re.zero.c 0 = 0 from rfl]
theorem own_len {W : World} {base : Nat} {e : TypeId} {size : Nat} {v : Value} {n : Nat} {xs : List Value} (h : W.ownsRow base e size v n xs) : ∃ A c, v = .slice A n c := by
  obtain ⟨-, ⟨rfl, rfl⟩ | ⟨g, c, cur, rfl, -⟩⟩ := h
  · exact ⟨_, _, rfl⟩
  · exact ⟨_, _, rfl⟩
/-- what Lay tells of the box in the root -/
theorem T3_look {s k : Re.St} (h3 : s.c 0 ≠ 3) (hp2 : s.c 1 ≠ 2) (hp3 : s.c 1 ≠ 3) {w h : Int} (hw : 0 ≤ w ∧ w ≤ 1048576) : ∃ (q0 q1 q2 x c : Int), (x = Fw.wr ((if Fw.wth s 1 w (-1) (-1) = -1 then Fw.lim s 1 c (-1) else Fw.wth s 1 w (-1) (-1)) + Fw.eds s 1)) ∧ (kfl (T3 s k) [2] = [] → c = s.c 54) ∧
    (tl (bxT (T3 s k)) w h 64 (rootL (T3 s k) w h)).length ≤ 4 ∧ ∀ (X : World) (b nr : Nat), GM 3 X b nr (layG (T3 s k) w h) →
    (Instr.lookup 47 (.map (some b)) (.int .i64 1) false).run Tryz.prog X = .ok (.agg #[.int .i64 q0, .int .i64 q1, .int .i64 q2, .int .i64 (Fx.cut x)]) X := by
  have hm := T3_no s k (z := -1) (by decide) (by decide) (by decide)
  obtain ⟨x0, x1, rest, htl, hl, i0, i1, hr, hrl, ii, hs⟩ := T3_three (T3_0 s k) (T3_1 s k) (T3_2 s k) hm h3 hp2 hp3 (h := h) hw
  obtain ⟨-, a2, -⟩ := T3_b1 (T3_0 s k) (T3_1 s k) (T3_2 s k) hm h3 hp2 hp3
  obtain ⟨a1, -, -⟩ := T3_b1 (T3_0 s k) (T3_1 s k) (T3_2 s k) hm h3 hp2 hp3
  refine ⟨Fx.cut x1.a0, Fx.cut x1.a1, Fx.cut x1.s0, x1.s1, _, hs, fun he => ?_, ?_, fun X b nr hG => ?_⟩
  · rw [cont_leaf (by rw [a2, he]), a1]
  · rw [htl, List.length_cons, List.length_cons]
    omega
  have hq1 : layG (T3 s k) w h (.int .i64 1) = some (rcv x1) := by
    unfold layG
    rw [hl, gputs_cons, gputs_cons, gputs_off rest _ 1 (fun hin => by
      obtain ⟨y, hy, he⟩ := List.mem_map.1 hin
      have h2 : y.id = 2 := hr y hy
      have h1 : y.id = 1 := he
      omega), i1, gset_same]
  have hk1 := hG.look keyLaw Tryz.underlying47 (z := .agg #[.int .i64 0, .int .i64 0, .int .i64 0, .int .i64 0]) (by kernel_rfl) (key_int (show Wf 1 by rw [wf_iff]; omega))
  rw [hq1, Option.getD_some] at hk1
  exact hk1

set_option maxHeartbeats 8000000 in
theorem fhigh_walk (a0 a1 : Re.St) (w : World) (w0 : Fits a0) (w1 : Fits a1) : Calls Tryz.prog 8 #[.agg (cells a0), .agg (cells a1)] w fun e w' => e = .returned (.bool true) ∧ Below w.heap.size w w' := by
  have HF0 := Lib.hid w0
  have HF1 := Lib.hid w1
  clear w0 w1
  go_enter Tryz.func8, Tryz.ntmps8
  go_upto_region 1 with (fail)
  have hx0 : At ((w.alloc (.cells (cells a0) 37)).alloc (.cells (cells a1) 37)) w.heap.size (.cells (cells a0) 37) := At.alloc (At.new _ _) _
  have hy0 : At ((w.alloc (.cells (cells a0) 37)).alloc (.cells (cells a1) 37)) (w.heap.size + 1) (.cells (cells a1) 37) := At.new' _ (by simp)
  have hB0 : Below w.heap.size w ((w.alloc (.cells (cells a0) 37)).alloc (.cells (cells a1) 37)) := Below.alloc' (Below.alloc' (Below.refl _ _) _) _
  generalize (w.alloc (.cells (cells a0) 37)).alloc (.cells (cells a1) 37) = wb at *
  go_upto_region 4 with (go_at_call 11; (with_reducible refine (flworks_any _).mono ?_); rintro e w1 ⟨rfl, hb1⟩)
  have HB1 := hB0.trans (hb1.mono hB0.size)
  have HX1 := hx0.keep hb1
  have HY1 := hy0.keep hb1
  clear hx0 hy0 hB0 hb1
  have kX := fun X => fltame_any a0 X
  have kY := fun X => fltame_any a1 X
  have d1 : ∀ X, Below w1.heap.size w1 X → X.cell? ⟨w.heap.size, 1, none⟩ = some (.int .i64 (a0.c 1)) := fun X h => (HX1.keep h).st 1 (by decide) rfl
  have lb1 := HX1.lt
  have ly1 := HY1.lt
  cases ht : tameB a0
  · rw [ht] at kX
    go_wp2_with (first | (refine wpList_load_style (by rfl) _ rfl rfl HX1 ?_) | (go_at_call 13; (with_reducible refine (kX _).mono ?_); rintro e w2 ⟨rfl, hb2⟩))
    go_ret
    exact ⟨rfl, HB1.trans (hb2.mono HB1.size)⟩
  rw [ht] at kX
  cases hu : tameB a1
  · rw [hu] at kY
    go_wp2_with (first | (refine wpList_load_style (by rfl) _ rfl rfl HX1 ?_) | (refine wpList_load_style (by rfl) _ rfl rfl HY2 ?_) | (go_at_call 13; first | ((with_reducible refine (kX _).mono ?_); rintro e w2 ⟨rfl, hb2⟩; have HY2 := HY1.keep hb2) | ((with_reducible refine (kY _).mono ?_); rintro e w3 ⟨rfl, hb3⟩; have hb13 := hb2.trans (hb3.mono hb2.size))))
    go_ret
    exact ⟨rfl, HB1.trans (hb13.mono HB1.size)⟩
  rw [hu] at kY
  by_cases p2 : a0.c 1 = 2
  · rw [p2] at d1
    go_wp2_with (first | (refine wpList_load_style (by rfl) _ rfl rfl HX1 ?_) | (refine wpList_load_style (by rfl) _ rfl rfl HY2 ?_) | (go_at_call 13; first | ((with_reducible refine (kX _).mono ?_); rintro e w2 ⟨rfl, hb2⟩; have HY2 := HY1.keep hb2) | ((with_reducible refine (kY _).mono ?_); rintro e w3 ⟨rfl, hb3⟩; have hb13 := hb2.trans (hb3.mono hb2.size); have d1 := d1 _ hb13; have lb1 := Nat.lt_of_lt_of_le lb1 hb13.size)))
    go_ret
    exact ⟨rfl, HB1.trans (hb13.mono HB1.size)⟩
  by_cases p3 : a0.c 1 = 3
  · rw [p3] at d1
    go_wp2_with (first | (refine wpList_load_style (by rfl) _ rfl rfl HX1 ?_) | (refine wpList_load_style (by rfl) _ rfl rfl HY2 ?_) | (go_at_call 13; first | ((with_reducible refine (kX _).mono ?_); rintro e w2 ⟨rfl, hb2⟩; have HY2 := HY1.keep hb2) | ((with_reducible refine (kY _).mono ?_); rintro e w3 ⟨rfl, hb3⟩; have hb13 := hb2.trans (hb3.mono hb2.size); have d1 := d1 _ hb13; have lb1 := Nat.lt_of_lt_of_le lb1 hb13.size)))
    go_ret
    exact ⟨rfl, HB1.trans (hb13.mono HB1.size)⟩
  have p2b : (a0.c 1 == 2) = false := by simpa using p2
  have p3b : (a0.c 1 == 3) = false := by simpa using p3
  go_upto_region 6 with (first | (refine wpList_load_style (by rfl) _ rfl rfl HX1 ?_) | (refine wpList_load_style (by rfl) _ rfl rfl HY2 ?_) | (go_at_call 13; first | ((with_reducible refine (kX _).mono ?_); rintro e w2 ⟨rfl, hb2⟩; have HY2 := HY1.keep hb2) | ((with_reducible refine (kY _).mono ?_); rintro e w3 ⟨rfl, hb3⟩; have hb13 := hb2.trans (hb3.mono hb2.size); have d1 := d1 _ hb13; have lb1 := Nat.lt_of_lt_of_le lb1 hb13.size)))
  have HB3 := HB1.trans (hb13.mono HB1.size)
  have HX3 := HX1.keep hb13
  have HY3 := HY1.keep hb13
  clear d1 kX kY HB1 HX1 HY1 HY2 hb2 hb3 hb13
  go_upto_region 7 with (go_at_call 28; (with_reducible refine (gnew_any _).mono ?_); rintro e w4 ⟨⟨t, rfl, L0, g0⟩, hb4⟩)
  have lx3 := HX3.lt
  have ly3 := HY3.lt
  have kA := w_add1 g0 (by omega) hb4.size
  go_upto_region 8 with (go_at_call 26; (with_reducible refine kA.mono ?_); rintro e w5 ⟨rfl, L1, n1, g5, hn1, hb5⟩)
  have hb35 := hb4.trans hb5
  have kA2 := w_add3 g5 (by omega) hb35.size
  clear kA g0 hb4 hb5
  go_upto_region 9 with (go_at_call 26; (with_reducible refine kA2.mono ?_); rintro e w6 ⟨rfl, L2, n2, g6, hn2, hb6⟩)
  have hb36 := hb35.trans hb6
  have HX6 : At w6 w.heap.size _ := atLowR HX3 lx3 hb36
  have HY6 : At w6 (w.heap.size + 1) _ := atLowR HY3 ly3 hb36
  have kS := gset_any g6 hb36.size (x := 1) ((wf_iff _).2 (by omega)) HF0.out
  have HB6 := HB3.trans (hb36.mono HB3.size)
  clear kA2 g5 hb35 hb6 HX3 HY3 HB3
  have d0 : ∀ X, Below w3.heap.size w6 X → X.cell? ⟨w.heap.size, 0, none⟩ = some (.int .i64 (a0.c 0)) := fun X h => (atLowR HX6 lx3 h).st 0 (by decide) rfl
  have lx6 := HX6.lt
  have ly6 := HY6.lt
  have hlow : w.heap.size ≤ w3.heap.size := by omega
  cases hv : Re.valid a0
  · have e1 : setE B2 1 a0 = 1 := by unfold setE; rw [if_neg (by decide +kernel), if_pos hv]
    rw [e1] at kS
    go_wp2_with (first | (refine wpList_load_style (by rfl) _ rfl rfl HX6 ?_) | (go_at_call 27; refine Calls.mono (show _ from kS) ?_; rintro e w7 ⟨rfl, -, -, hb7⟩))
    go_ret
    exact ⟨rfl, HB6.trans (hb7.mono hlow)⟩
  have e1 : setE B2 1 a0 = 0 := by unfold setE; rw [if_neg (by decide +kernel), if_neg (by rw [hv]; decide)]
  have e2 : setT B2 1 a0 = C2 a0 := by unfold setT; rw [e1, if_pos rfl]; rfl
  rw [e1, e2] at kS
  by_cases h3 : a0.c 0 = 3
  · rw [h3] at d0
    go_wp2_with (first | (refine wpList_load_style (by rfl) _ rfl rfl HX6 ?_) | (go_at_call 27; refine Calls.mono (show _ from kS) ?_; rintro e w7 ⟨rfl, -, -, hb7⟩; have d0 := d0 _ hb7; have lx6 := Nat.lt_of_lt_of_le lx3 (Nat.le_trans hb36.size hb7.size)))
    go_ret
    exact ⟨rfl, HB6.trans (hb7.mono hlow)⟩
  have h3b : (a0.c 0 == 3) = false := by simpa using h3
  have kS2 : ∀ (W : World) (L : Lay), Good W t L (C2 a0) n2 w3.heap.size → w3.heap.size ≤ W.heap.size → Calls Tryz.prog 27 #[.pointer (some ⟨t, 0, none⟩), .int .i64 2, .agg (cells a1)] W fun e w' => e = .returned (.int .i64 (if Re.valid a1 = false then 1 else 0)) ∧ (Re.valid a1 = true → Good w' t L (T3 a0 a1) n2 w3.heap.size) ∧ Below w3.heap.size W w' := fun W L g hw => by
    have h := gset_any g hw (x := 2) ((wf_iff _).2 (by omega)) HF1.out
    have hs : (C2 a0 2).isSome = true := rfl
    have e3 : setE (C2 a0) 2 a1 = if Re.valid a1 = false then 1 else 0 := by unfold setE; rw [hs, if_neg (by decide)]
    rw [e3] at h
    exact h.mono fun e w' ⟨h1, h2, _, h4⟩ => ⟨h1, fun hv1 => by
      have e4 : setT (C2 a0) 2 a1 = T3 a0 a1 := by
        unfold setT
        rw [e3, if_pos (show (if Re.valid a1 = false then (1 : Int) else 0) = 0 by rw [hv1]; rfl)]
        rfl
      rw [e4] at h2
      exact h2, h4⟩
  cases hv1 : Re.valid a1
  · simp only [hv1, if_true] at kS2
    go_wp2_with (first | (refine wpList_load_style (by rfl) _ rfl rfl HX6 ?_) | (refine wpList_load_style (by rfl) _ rfl rfl HY7 ?_) | (go_at_call 27; first | (refine Calls.mono (show _ from kT) ?_; rintro e w8 ⟨rfl, -, hb8⟩) | (refine Calls.mono (show _ from kS) ?_; rintro e w7 ⟨rfl, g7, -, hb7⟩; have d0 := d0 _ hb7; have lx6 := Nat.lt_of_lt_of_le lx3 (Nat.le_trans hb36.size hb7.size); have HY7 := atLowR HY6 ly3 hb7; have kT := kS2 w7 _ g7 (Nat.le_trans hb36.size hb7.size))))
    go_ret
    exact ⟨rfl, HB6.trans ((hb7.trans hb8).mono hlow)⟩
  simp only [hv1, Bool.true_eq_false, if_false] at kS2
  go_upto_region 11 with (first | (refine wpList_load_style (by rfl) _ rfl rfl HX6 ?_) | (refine wpList_load_style (by rfl) _ rfl rfl HY7 ?_) | (go_at_call 27; first | (refine Calls.mono (show _ from kT) ?_; rintro e w8 ⟨rfl, g8f, hb8⟩) | (refine Calls.mono (show _ from kS) ?_; rintro e w7 ⟨rfl, g7, -, hb7⟩; have d0 := d0 _ hb7; have lx6 := Nat.lt_of_lt_of_le lx3 (Nat.le_trans hb36.size hb7.size); have HY7 := atLowR HY6 ly3 hb7; have kT := kS2 w7 _ g7 (Nat.le_trans hb36.size hb7.size))))
  have g8 := g8f trivial
  have hb68 := hb7.trans hb8
  have HX8 : At w8 w.heap.size _ := atLowR HX6 lx3 hb68
  have HB8 := HB6.trans (hb68.mono hlow)
  have hs8 : w3.heap.size ≤ w8.heap.size := Nat.le_trans hb36.size hb68.size
  clear d0 kS kS2 kT g7 g8f hb7 hb8 hb68 HY7 HY6 HX6 HB6 g6 e1 e2
  obtain ⟨q0, q1, q2, x, c, hx, hc, htl, keyLk⟩ := T3_look (k := a1) h3 p2 p3 (w := 300) (h := 100) ⟨by omega, by omega⟩
  obtain ⟨e0v, e2v, hh, he0, he2, be0, be2, hhh, bx, hA, hBB, hC⟩ := height_of hv ht hx
  obtain ⟨x3, hx3⟩ : ∃ v, Fx.cut x = v := ⟨_, rfl⟩
  rw [hx3] at keyLk hhh bx
  have hm := T3_no a0 a1 (z := -1) (by decide) (by decide) (by decide)
  have em1 : max (300 : Int) 0 = 300 := by decide
  have em2 : max (100 : Int) 0 = 100 := by decide
  have kL := flay_any g8.inv.rep g8.inv.wf (fun z nd h => (T3_nd h).1) (fun z nd h => by
    rcases (T3_nd h).2 with e | e | e <;> rw [e]
    · exact ⟨by decide, by decide⟩
    · exact valid_kind hv
    · exact valid_kind hv1) 300 100 (by have := T3_cst (T3_0 a0 a1) (T3_1 a0 a1) (T3_2 a0 a1) hm h3 p2 p3; unfold maxLen; omega) (by rw [em1, em2]; unfold maxLen; omega) (by have := T3_shs (T3_0 a0 a1) (T3_1 a0 a1) (T3_2 a0 a1) hm h3 p2 p3; unfold maxLen; omega)
  rw [em1, em2] at kL
  have HLK := Lib.hid keyLk
  have HHC := Lib.hid hc
  have HHA := Lib.hid hA
  have HHB := Lib.hid hBB
  have HHD := Lib.hid hC
  have HG8 := Lib.hid g8
  clear em1 em2 htl keyLk hc hA hBB hC hx hx3 hm g8
  go_upto_region 12 with (go_at_call 18; (with_reducible refine kL.mono ?_); rintro e w9 ⟨⟨b, nr, rfl, gb, hG, -⟩, hb9⟩; have hk1 := HLK.out _ _ _ hG)
  have HR : At (w9.alloc (.cells #[.int .i64 q0, .int .i64 q1, .int .i64 q2, .int .i64 x3] 59)) w9.heap.size (.cells #[.int .i64 q0, .int .i64 q1, .int .i64 q2, .int .i64 x3] 59) := At.new _ _
  have hb10 : Below w8.heap.size w8 (w9.alloc (.cells #[.int .i64 q0, .int .i64 q1, .int .i64 q2, .int .i64 x3] 59)) := Below.alloc hb9 hb9.size _
  generalize w9.alloc (.cells #[.int .i64 q0, .int .i64 q1, .int .i64 q2, .int .i64 x3] 59) = wa at *
  generalize hRR : w9.heap.size = R at *
  clear hRR hk1 hb9 hG gb kL HLK
  have HXa := HX8.keep hb10
  obtain ⟨e1v, he1⟩ : ∃ v, Fw.ed a0 1 = v := ⟨_, rfl⟩
  obtain ⟨e3v, he3⟩ : ∃ v, Fw.ed a0 3 = v := ⟨_, rfl⟩
  have kE := fun X => fedges_any a0 X
  simp only [he0, he1, he2, he3] at kE
  go_upto_region 13 with (first | (refine wpList_load_style (by rfl) _ rfl rfl HXa ?_) | (go_at_call 15; (with_reducible refine (kE _).mono ?_); rintro e w11 ⟨rfl, hb11⟩))
  have HE : At (w11.alloc (.cells #[.int .i64 e0v, .int .i64 e1v, .int .i64 e2v, .int .i64 e3v] 30)) w11.heap.size (.cells #[.int .i64 e0v, .int .i64 e1v, .int .i64 e2v, .int .i64 e3v] 30) := At.new _ _
  have hb12 : Below wa.heap.size wa (w11.alloc (.cells #[.int .i64 e0v, .int .i64 e1v, .int .i64 e2v, .int .i64 e3v] 30)) := Below.alloc hb11 hb11.size _
  generalize w11.alloc (.cells #[.int .i64 e0v, .int .i64 e1v, .int .i64 e2v, .int .i64 e3v] 30) = wc at *
  generalize hEE : w11.heap.size = E at *
  have HR2 := HR.keep hb12
  have hb812 := hb10.trans (hb12.mono hb10.size)
  have HXc := HX8.keep hb812
  have HBc := HB8.trans (hb812.mono HB8.size)
  clear hEE kE hb11 hb10 hb12 HXa HX8 HR HB8
  obtain ⟨lR, -, -, -, cR3⟩ := At.four HR2
  obtain ⟨lE, cE0, -, cE2, -⟩ := At.four HE
  have v1 : IntKind.i64.wrap (x3 - e0v) = x3 - e0v := IntWalk.i64_in _ (by omega)
  have v2 : IntKind.i64.wrap (x3 - e0v - e2v) = x3 - e0v - e2v := IntWalk.i64_in _ (by omega)
  go_upto_region 14 with (fail)
  (try rw [hhh])
  clear v1 v2 cR3 cE0 cE2 lR lE HR2 HE
  have kF := fun X => fixed_any (a0.c 5) (a0.c 6) (-1) X
  have d5 := HXc.st 5 (by decide) rfl
  have d6 := HXc.st 6 (by decide) rfl
  have lxc := HXc.lt
  cases hfx : Fx.fixd (a0.c 5) (-1)
  · simp only [hfx] at kF
    obtain ⟨n, hn⟩ : ∃ n, kfl (T3 a0 a1) [2] = n := ⟨_, rfl⟩
    have hT0 := T3_0 a0 a1
    have hd0 : Tr.Dp (T3 a0 a1) 0 0 := .root hT0
    have hd1 : Tr.Dp (T3 a0 a1) 1 1 := .step (T3_1 a0 a1) (by decide) hd0
    have kW := fun X (h : Below w8.heap.size w8 X) => fflows_some ((HG8.out).after h).inv.rep (fun nd h => by rw [hT0] at h; injection h with h; rw [← h]) hd1 (T3_1 a0 a1) [2] rfl (fun x hx => by
      simp only [List.mem_cons, List.not_mem_nil, or_false] at hx
      subst hx
      exact ⟨_, T3_2 a0 a1⟩) (by decide)
    rw [T3_shn h3] at kW
    simp only [if_true, hn] at kW
    have kW2 : ∀ X, Below w8.heap.size w8 X → Calls Tryz.prog 21 #[.pointer (some ⟨t, 0, none⟩), .int .i64 1] X fun e w' => (∃ A c, e = .returned (.slice A n.length c)) ∧ Below X.heap.size X w' := fun X h => (kW X h).mono fun e w' h => by
      obtain ⟨⟨v, rfl, hown⟩, hb⟩ := h
      obtain ⟨A, c, rfl⟩ := own_len hown
      exact ⟨⟨A, c, rfl⟩, hb⟩
    clear kW hd0 hd1 hT0
    have hnl : n.length ≤ 1 := by
      rw [← hn]
      exact Nat.le_trans (by unfold kfl; exact List.length_filter_le _ _) (by simp)
    cases n with
    | nil =>
      have hcc := HHC.out hn
      have hval := HHB.out hfx hcc
      have kI := fun X => limit_any (a0.c 54) (a0.c 9) (a0.c 10) (a0.c 13) (a0.c 14) (-1) X
      rw [← hval] at kI
      go_upto_region 17 with (first | (go_at_call 30; (with_reducible refine (kF _).mono ?_); rintro e w13 ⟨rfl, hb13⟩; have kV := kW2 _ (hb812.trans (hb13.mono hb812.size))) | (go_at_call 21; (with_reducible refine (kV).mono ?_); rintro e w14 ⟨⟨A, c, rfl⟩, hb14⟩))
      have hb15 := hb13.trans (hb14.mono hb13.size)
      have HXe := HXc.keep hb15
      have HBe := HBc.trans (hb15.mono HBc.size)
      have f9 := HXe.st 9 (by decide) rfl
      have f10 := HXe.st 10 (by decide) rfl
      have f13 := HXe.st 13 (by decide) rfl
      have f14 := HXe.st 14 (by decide) rfl
      have f54 := HXe.st 54 (by decide) rfl
      have lxe := HXe.lt
      clear d5 d6 lxc HXc HBc hb13 hb14 hb15 kF kV kW2
      go_wp2_with (go_at_call 32; (with_reducible refine (kI _).mono ?_); rintro e w15 ⟨rfl, hS⟩)
      go_ret
      exact ⟨rfl, HBe.trans (hS.mono HBe.size)⟩
    | cons k0 l =>
      have hl0 : l = [] := by
        cases l with
        | nil => rfl
        | cons => simp at hnl
      subst hl0
      have hval := HHD.out hfx
      have kI := fun X => limit_any 0 (a0.c 9) (a0.c 10) (a0.c 13) (a0.c 14) (-1) X
      obtain ⟨l0, hl0⟩ : ∃ v, Fx.limit 0 (a0.c 9) (a0.c 10) (a0.c 13) (a0.c 14) (-1) = v := ⟨_, rfl⟩
      rw [hl0] at hval
      simp only [hl0] at kI
      go_upto_region 18 with (first | (go_at_call 30; (with_reducible refine (kF _).mono ?_); rintro e w13 ⟨rfl, hb13⟩; have kV := kW2 _ (hb812.trans (hb13.mono hb812.size))) | (go_at_call 21; (with_reducible refine (kV).mono ?_); rintro e w14 ⟨⟨A, c, rfl⟩, hb14⟩))
      have hb15 := hb13.trans (hb14.mono hb13.size)
      have HXe := HXc.keep hb15
      have HBe := HBc.trans (hb15.mono HBc.size)
      have f9 := HXe.st 9 (by decide) rfl
      have f10 := HXe.st 10 (by decide) rfl
      have f13 := HXe.st 13 (by decide) rfl
      have f14 := HXe.st 14 (by decide) rfl
      have lxe := HXe.lt
      clear d5 d6 lxc HXc HBc hb13 hb14 hb15 kF kV kW2
      go_wp2_with (go_at_call 32; (with_reducible refine (kI _).mono ?_); rintro e w15 ⟨rfl, hS⟩)
      go_ret
      exact ⟨rfl, HBe.trans (hS.mono HBe.size)⟩
  · simp only [hfx] at kF
    have hval := HHA.out hfx
    have kO := fun X => len_any (a0.c 5) (a0.c 6) (-1) 0 X
    obtain ⟨lv, hlv⟩ : ∃ v, Fx.len (a0.c 5) (a0.c 6) (-1) 0 = v := ⟨_, rfl⟩
    rw [hlv] at hval
    simp only [hlv] at kO
    have kI := fun X => limit_any lv (a0.c 9) (a0.c 10) (a0.c 13) (a0.c 14) (-1) X
    rw [← hval] at kI
    go_upto_region 15 with (go_at_call 30; (with_reducible refine (kF _).mono ?_); rintro e w13 ⟨rfl, hb13⟩)
    have HXe := HXc.keep hb13
    have HBe := HBc.trans (hb13.mono HBc.size)
    have f5 := HXe.st 5 (by decide) rfl
    have f6 := HXe.st 6 (by decide) rfl
    have f9 := HXe.st 9 (by decide) rfl
    have f10 := HXe.st 10 (by decide) rfl
    have f13 := HXe.st 13 (by decide) rfl
    have f14 := HXe.st 14 (by decide) rfl
    have lxe := HXe.lt
    clear d5 d6 lxc HXc HBc hb13 kF
    refine sqt ?_
    (repeat (first | refine sqk ?_ | refine sqc ?_ (hc := by intro w2 hS; first | with_reducible exact qaB hS (kO _) | with_reducible exact qaB hS (kI _)) | refine sqv ?_))
    refine Drawn.seq_end ?_; intro w2 hS
    go_wp2
    go_ret
    exact ⟨rfl, HBe.trans (hS.mono HBe.size)⟩

end Go.Proofs.YteggipnplbkijaaGreat.Fix
