/- AnchorSkips: it returns true, and leaves all that was there as it was. Written by wip/tools/genanlaws.py. -/
import Derived.Test.YtnoofdojbgkmkaaAnSkips0
namespace Go.Proofs.Ytnoofdojbgkmkaa.Fix
open Go.ChangeShapes Go.WideShapes Go.ChangeAt Go.RowKit Go.Deep Go.Joins
set_option linter.unusedVariables false
set_option linter.unusedSimpArgs false

theorem anskips_out (A : Option Addr) (n c : Nat) (x y : Int) (w : World) (hx : n ≤ 9223372036854775807) (h : 60 < n) :
    Calls Try.prog 7 #[.slice A n c, .agg #[.int .i64 x, .int .i64 y]] w fun e w' => e = .returned (.bool true) ∧ Below w.heap.size w w' := by
  have e1 : decide (60 < (n : Int)) = true := by simp; omega
  go_enter Try.func7, Try.ntmps7
  go_upto_region 1 with (fail)
  (generalize hW : World.alloc w _ = W0; have A0 : At W0 (w.heap.size) (.cells #[.int .i64 x, .int .i64 y] 24) := (by ((rw [← hW]) <;> exact At.new' _ (by first | done | rfl | simp))); have hB : Below w.heap.size w W0 := (by ((rw [← hW]) <;> exact Below.alloc' (Below.refl _ _) _)); clear hW; obtain ⟨l0, c0_0, c0_1⟩ := At.two A0)
  go_wp2_with ((go_at_call 9; with_reducible refine (anworks_any _).mono ?_; rintro e w' ⟨rfl, hb⟩; (clear l0 c0_0 c0_1); (replace hB := Below.after2 (by first | exact hB | exact Below.alloc' hB _ | exact Below.alloc' (Below.alloc' hB _) _) (Nat.le_refl _) hb); replace A0 := At.keep (by first | exact A0 | exact At.alloc A0 _ | exact At.alloc (At.alloc A0 _) _) hb; clear hb; obtain ⟨l0, c0_0, c0_1⟩ := At.two A0))
  go_ret
  exact ⟨rfl, hB⟩

theorem anskips_bad (A : Option Addr) (l : Nat → An.Nd) (n c : Nat) (x y : Int) (w : World) (hN : Nodes w A l n) (hn : n ≤ 60) (hv : ¬ An.V l n) :
    Calls Try.prog 7 #[.slice A n c, .agg #[.int .i64 x, .int .i64 y]] w fun e w' => e = .returned (.bool true) ∧ Below w.heap.size w w' := by
  have e1 : decide (60 < (n : Int)) = false := by simp; omega
  have hn1 : n ≤ 1000 := by omega
  have HN := Lib.hid hN
  have HV := Lib.hid hv
  clear hN hv
  go_enter Try.func7, Try.ntmps7
  go_upto_region 1 with (fail)
  (generalize hW : World.alloc w _ = W0; have A0 : At W0 (w.heap.size) (.cells #[.int .i64 x, .int .i64 y] 24) := (by ((rw [← hW]) <;> exact At.new' _ (by first | done | rfl | simp))); have hB : Below w.heap.size w W0 := (by ((rw [← hW]) <;> exact Below.alloc' (Below.refl _ _) _)); clear hW; obtain ⟨l0, c0_0, c0_1⟩ := At.two A0)
  go_wp2_with (first | (go_at_call 9; with_reducible refine (anworks_any _).mono ?_; rintro e w' ⟨rfl, hb⟩; (clear l0 c0_0 c0_1); (replace hB := Below.after2 (by first | exact hB | exact Below.alloc' hB _ | exact Below.alloc' (Below.alloc' hB _) _) (Nat.le_refl _) hb); replace A0 := At.keep (by first | exact A0 | exact At.alloc A0 _ | exact At.alloc (At.alloc A0 _) _) hb; clear hb; obtain ⟨l0, c0_0, c0_1⟩ := At.two A0) | (go_at_call 15; with_reducible refine (anvalid_any (v := false) _ (HN.out.after hB) hn1 (.inr ⟨rfl, HV.out⟩)).mono ?_; rintro e w' ⟨rfl, hb⟩; (clear l0 c0_0 c0_1); (replace hB := Below.after2 (by first | exact hB | exact Below.alloc' hB _ | exact Below.alloc' (Below.alloc' hB _) _) (Nat.le_refl _) hb); replace A0 := At.keep (by first | exact A0 | exact At.alloc A0 _ | exact At.alloc (At.alloc A0 _) _) hb; clear hb; obtain ⟨l0, c0_0, c0_1⟩ := At.two A0))
  go_ret
  exact ⟨rfl, hB⟩

def SkR (l : Nat → An.Nd) (n P k q : Nat) (W : World) (A6 A8 : Option Addr) (c6 c8 : Nat) (G : Nat → Int) (j : Nat) : Prop :=
  W.ownsRow (P + 1) 32 4 (.slice A6 q c6) q (flatN (An.sub l n) q) ∧ W.ownsRow (P + 1) 3 1 (.slice A8 j c8) j ((An.backI l k).map (Value.int .i64)) ∧ ApartN (.slice A8 j c8) (.slice A6 q c6) ∧ At W P (.cells (pRow G n) 3) ∧ P + 1 ≤ W.heap.size

theorem SkR.put {l : Nat → An.Nd} {n P k q j : Nat} {W : World} {A6 A8 : Option Addr} {c6 c8 : Nat} {G : Nat → Int} (h : SkR l n P k q W A6 A8 c6 c8 G j) (i : Nat) (v : Int) (H : Nat → Int) (hv : H i = v) (ho : ∀ z, z < n → z ≠ i → H z = G z) : SkR l n P k q (W.setCell ⟨P, i, none⟩ (.int .i64 v)) A6 A8 c6 c8 H j := by
  obtain ⟨h1, h2, h3, h4, h5⟩ := h
  refine ⟨ownsRow_setCell_below h1 (by show P < P + 1; omega) _, ownsRow_setCell_below h2 (by show P < P + 1; omega) _, h3, ?_, ?_⟩
  · rw [← pRow_set G H hv ho]
    exact h4.set i _
  · have := (KeepsWalks.setCell W (⟨P, i, none⟩ : Addr) (.int .i64 v)).size
    omega

set_option maxRecDepth 100000 in
set_option maxHeartbeats 8000000 in
theorem anskips_core (A : Option Addr) (l : Nat → An.Nd) (n c : Nat) (x y : Int) (w : World) (hN : Nodes w A l n) (hn : n ≤ 60) (hv : An.V l n) :
    Calls Try.prog 7 #[.slice A n c, .agg #[.int .i64 x, .int .i64 y]] w fun e w' => e = .returned (.bool true) ∧ Below w.heap.size w w' := by
  obtain ⟨i0, hi0, hz0, hz1, hz2⟩ := info_parts intZero
  have e1 : decide (60 < (n : Int)) = false := by simp; omega
  have hn1 : n ≤ 1000 := by omega
  have HN := Lib.hid hN
  have HV := Lib.hid hv
  clear hN hv
  go_enter Try.func7, Try.ntmps7
  go_upto_region 1 with (fail)
  (generalize hW : World.alloc w _ = W0; have A0 : At W0 (w.heap.size) (.cells #[.int .i64 x, .int .i64 y] 24) := (by ((rw [← hW]) <;> exact At.new' _ (by first | done | rfl | simp))); have hB : Below w.heap.size w W0 := (by ((rw [← hW]) <;> exact Below.alloc' (Below.refl _ _) _)); clear hW; obtain ⟨l0, c0_0, c0_1⟩ := At.two A0)
  go_upto_region 8 with (first | (go_at_call 9; with_reducible refine (anworks_any _).mono ?_; rintro e w' ⟨rfl, hb⟩; (clear l0 c0_0 c0_1); (replace hB := Below.after2 (by first | exact hB | exact Below.alloc' hB _ | exact Below.alloc' (Below.alloc' hB _) _) (Nat.le_refl _) hb); replace A0 := At.keep (by first | exact A0 | exact At.alloc A0 _ | exact At.alloc (At.alloc A0 _) _) hb; clear hb; obtain ⟨l0, c0_0, c0_1⟩ := At.two A0) | (go_at_call 15; with_reducible refine (anvalid_any (v := true) _ (HN.out.after hB) hn1 (.inl ⟨rfl, HV.out⟩)).mono ?_; rintro e w' ⟨rfl, hb⟩; (clear l0 c0_0 c0_1); (replace hB := Below.after2 (by first | exact hB | exact Below.alloc' hB _ | exact Below.alloc' (Below.alloc' hB _) _) (Nat.le_refl _) hb); replace A0 := At.keep (by first | exact A0 | exact At.alloc A0 _ | exact At.alloc (At.alloc A0 _) _) hb; clear hb; obtain ⟨l0, c0_0, c0_1⟩ := At.two A0) | (at_make; refine wpList_make_row _ rfl _ _ 39 rfl 3 i0 (.int .i64 0) Try.underlying39 hi0 hz0 hz1 rfl .i64 .i64 n rfl rfl (by rw [hz2]; omega) (by omega) ?_))
  have hP0 : w.heap.size < w'.heap.size := l0
  have A7 : At (w'.alloc (.cells (madeCells #[.int .i64 0] n) 3)) w'.heap.size (.cells (pRow (An.plF l 0) n) 3) := by rw [show An.plF l 0 = fun _ => 0 from funext fun z => by simp [An.plF], ← pRow_made]; exact At.new _ _
  replace A0 := A0.alloc (.cells (madeCells #[.int .i64 0] n) 3)
  replace hB := Below.alloc' hB (.cells (madeCells #[.int .i64 0] n) 3)
  have hP1 : w'.heap.size + 1 ≤ (w'.alloc (.cells (madeCells #[.int .i64 0] n) 3)).heap.size := by simp
  clear l0 c0_0 c0_1
  generalize w'.alloc (.cells (madeCells #[.int .i64 0] n) 3) = W1 at *
  generalize w'.heap.size = P at *
  have HR0 := Lib.hid (show SkR l n P 0 0 W1 none none 0 0 (An.plF l 0) 0 from ⟨World.ownsRow_nil _ _ _ _, World.ownsRow_nil _ _ _ _, .inl rfl, A7, hP1⟩)
  clear A7 hP1
  go_wp2
  go_loopw [6, 8, 9] (fun v6 v8 i wr => ∃ (k q : Nat) (A6 : Option Addr) (c6 : Nat) (A8 : Option Addr) (c8 : Nat), k ≤ n ∧ i = .int .i64 k ∧ v6 = .slice A6 q c6 ∧ v8 = .slice A8 q c8 ∧ Hid (An.cnt l k = q) ∧ Hid (SkR l n P k q wr A6 A8 c6 c8 (An.plF l k) q) ∧ Hid (At wr w.heap.size (.cells #[.int .i64 x, .int .i64 y] 24)) ∧ Below w.heap.size w wr) (fun _ _ i _ => n - (intOf i).toNat)
  case atStart => exact ⟨0, 0, none, 0, none, 0, by omega, rfl, rfl, rfl, Lib.hid rfl, HR0, Lib.hid A0, hB⟩
  case round =>
    clear hB A0 HR0
    obtain ⟨k, q, A6, c6, A8, c8, hk, rfl, rfl, rfl, HQ, HR, A0, hB⟩ := hrel
    replace A0 := A0.out
    have hqk : q ≤ k := by have := An.cnt_le l k; rw [HQ.out] at this; exact this
    by_cases hlt : k < n
    · have hltz : (k : Int) < (n : Int) := by omega
      obtain ⟨b, off, rfl, hbl, hc⟩ := HN.out (by omega)
      have HC := Lib.hid hc
      have hR := HR.out
      have A7 : At wr P (.cells (pRow (An.plF l k) n) 3) := hR.2.2.2.1
      have z7 := A7.thaw k
      have hlb := A7.lt
      have c7 := A7.cell k
      rw [pRow_get _ hlt] at c7
      have HR2 := hR.put k (-1) (fun z => if z = k then (-1 : Int) else An.plF l k z) (if_pos rfl) (fun z _ hz => if_neg hz)
      have A02 := A0.off (n := P) (by omega) k (.int .i64 (-1))
      have hB2 := Below.setCell (p := ⟨P, k, none⟩) hB (by show w.heap.size ≤ P; omega) (.int .i64 (-1))
      clear hc hR A7 HR A0 hB
      generalize An.plF l k k = y7 at c7
      go_upto_region 13 with (fail)
      generalize World.setCell _ _ _ = W2 at *
      obtain ⟨d0, d1, d2, d3⟩ := (HC.out k hlt).keep hB2 hbl
      have hup := HV.out k hlt
      obtain ⟨u, hu⟩ : ∃ u, (l k).up = u := ⟨_, rfl⟩
      have u1 := hup.1
      have u2 := hup.2.1
      rw [hu] at d0 u1 u2
      have HU := Lib.hid hu
      obtain ⟨x1, hx1⟩ : ∃ x1, (l k).lo = x1 := ⟨_, rfl⟩
      rw [hx1] at d1
      have HX1 := Lib.hid hx1
      obtain ⟨x2, hx2⟩ : ∃ x2, (l k).hi = x2 := ⟨_, rfl⟩
      rw [hx2] at d2
      have HX2 := Lib.hid hx2
      obtain ⟨s, hs⟩ : ∃ s, (l k).skip = s := ⟨_, rfl⟩
      rw [hs] at d3
      have A72 := HR2.2.2.2.1
      have z72 := A72.thaw k
      have hlb2 := A72.lt
      have hsz2 : P + 1 ≤ W2.heap.size := HR2.2.2.2.2
      have c72 : W2.cell? ⟨P, k, none⟩ = some (.int .i64 (-1)) := by rw [A72.cell, pRow_get _ hlt]; simp
      clear hup hu hx1 hx2 c7 z7
      cases s with
      | true =>
        have hgone : An.Gone l k := .skip k hs
        have HE : Hid (SkR l n P (k + 1) q W2 A6 A8 c6 c8 (An.plF l (k + 1)) q) := Lib.hid (by rw [show An.plF l (k + 1) = fun z => if z = k then (-1 : Int) else An.plF l k z from funext fun z => by unfold An.plF; by_cases h : z = k; (rw [if_pos h, if_pos (by omega), h, An.pl_gone hgone]); (rw [if_neg h]; by_cases g : z < k; (rw [if_pos g, if_pos (by omega)]); (rw [if_neg g, if_neg (by omega)]))]; unfold SkR at HR2 ⊢; rw [An.backI_gone hgone]; exact HR2)
        have HCN : Hid (An.cnt l (k + 1) = q) := Lib.hid (by rw [An.cnt_gone hgone, HQ.out])
        clear hgone HR2
        go_wp2
        go_roundw
        case rel => exact ⟨k + 1, q, A6, c6, A8, c8, by omega, by go_num, rfl, rfl, HCN.out, HE.out, Lib.hid A02, hB2⟩
        case measure => simp [intOf]; omega
      | false =>
        by_cases hu1 : u = -1
        · subst hu1
          have HPU : Hid (An.pu l (l k).up = -1) := Lib.hid (by rw [HU.out]; exact An.pu_none)
          have HG : Hid (¬ An.Gone l k) := Lib.hid (fun h => by
            rcases h.out with h | ⟨j, e, _⟩
            · rw [hs] at h; cases h
            · rw [HU.out] at e; omega)
          clear hs A72
          have HSUB : Hid (An.sub l n q = ⟨-1, x1, x2, false⟩) := Lib.hid (by rw [← HQ.out, An.sub_at hlt HG.out, HPU.out, HX1.out, HX2.out])
          go_upto_region 19 with (fail)
          have HR3 := HR2.put k (q : Int) (An.plF l (k + 1)) (by unfold An.plF; rw [if_pos (by omega), An.pl_stay HG.out, HQ.out]) (fun z _ hz => by unfold An.plF; by_cases h : z < k; (rw [if_pos (by omega), if_neg hz, if_pos h]); (rw [if_neg (by omega), if_neg hz, if_neg h]))
          have A03 := A02.off (n := P) (by omega) k (.int .i64 (q : Int))
          have hB3 := Below.setCell (p := ⟨P, k, none⟩) hB2 (by show w.heap.size ≤ P; omega) (.int .i64 (q : Int))
          generalize World.setCell _ _ _ = W3 at *
          obtain ⟨e0, e1', e2', e3'⟩ := (HC.out k hlt).keep hB3 hbl
          rw [HX1.out] at e1'
          rw [HX2.out] at e2'
          clear e0 e3' d0 d1 d2 d3 HR2
          obtain ⟨r1, r2, r3, r4, r5⟩ := HR3
          obtain ⟨A6', c6', W4, hrun1, s1, s2, s3, s4, s5⟩ := append_nodeB HSUB.out r1 r2 r3 r5 (by omega)
          have A04 := atLow A03 (by omega) s4
          have B7 := atLow r4 (by omega) s4
          have hB4 := Below.trans hB3 (s4.mono (by omega))
          obtain ⟨A8', c8', W5, hrun2, t1, t2, t3, t4, t5⟩ := append_intB (k : Int) s2 s1 s3.symm s5 (by omega)
          have A05 := atLow A04 (by omega) t4
          have B75 := atLow B7 (by omega) t4
          have hB5 := Below.trans hB4 (t4.mono (by omega))
          have HRUN1 := Lib.hid hrun1
          have HRUN2 := Lib.hid hrun2
          have HE := Lib.hid (show SkR l n P (k + 1) (q + 1) W5 A6' A8' c6' c8' (An.plF l (k + 1)) (q + 1) from ⟨t2, by rw [An.backI_stay HG.out]; exact t1, t3.symm, B75, t5⟩)
          have HCN : Hid (An.cnt l (k + 1) = q + 1) := Lib.hid (by rw [An.cnt_stay HG.out, HQ.out])
          clear hrun1 hrun2 r1 r2 r3 r4 s1 s2 s3 t1 t2 t3 B7 B75
          go_upto_region 20 with (at_builtin; refine wpList_append_run (by rfl) _ _ 22 rfl rfl rfl HRUN1.out ?_)
          go_wp2_with (at_builtin; refine wpList_append_run (by rfl) _ _ 39 rfl rfl rfl HRUN2.out ?_)
          go_roundw
          case rel => exact ⟨k + 1, q + 1, A6', c6', A8', c8', by omega, by go_num, by go_num, by go_num, HCN.out, HE.out, Lib.hid A05, hB5⟩
          case measure => simp [intOf]; omega
        · obtain ⟨m, rfl⟩ : ∃ m : Nat, u = m := ⟨u.toNat, by omega⟩
          have hmk : m < k := by omega
          have hmn : (m : Int) < (n : Int) := by omega
          have c7m : W2.cell? ⟨P, m, none⟩ = some (.int .i64 (An.pl l m)) := by
            rw [A72.cell, pRow_get _ (by omega)]
            show some (Value.int .i64 (if m = k then (-1 : Int) else An.plF l k m)) = _
            rw [if_neg (by omega)]
            unfold An.plF
            rw [if_pos hmk]
          by_cases hg : An.Gone l m
          · rw [An.pl_gone hg] at c7m
            have hgone : An.Gone l k := .up k m HU.out hg
            have HE : Hid (SkR l n P (k + 1) q W2 A6 A8 c6 c8 (An.plF l (k + 1)) q) := Lib.hid (by rw [show An.plF l (k + 1) = fun z => if z = k then (-1 : Int) else An.plF l k z from funext fun z => by unfold An.plF; by_cases h : z = k; (rw [if_pos h, if_pos (by omega), h, An.pl_gone hgone]); (rw [if_neg h]; by_cases g : z < k; (rw [if_pos g, if_pos (by omega)]); (rw [if_neg g, if_neg (by omega)]))]; unfold SkR at HR2 ⊢; rw [An.backI_gone hgone]; exact HR2)
            have HCN : Hid (An.cnt l (k + 1) = q) := Lib.hid (by rw [An.cnt_gone hgone, HQ.out])
            clear hgone HR2
            go_wp2
            go_roundw
            case rel => exact ⟨k + 1, q, A6, c6, A8, c8, by omega, by go_num, rfl, rfl, HCN.out, HE.out, Lib.hid A02, hB2⟩
            case measure => simp [intOf]; omega
          · have HG : Hid (¬ An.Gone l k) := Lib.hid (fun h => by
              rcases h.out with h | ⟨j, e, h⟩
              · rw [hs] at h; cases h
              · rw [HU.out] at e
                obtain rfl : m = j := by omega
                exact hg h)
            obtain ⟨p, hp⟩ : ∃ p, An.pl l m = p := ⟨_, rfl⟩
            have hp0 : 0 ≤ p := by rw [← hp, An.pl_stay hg]; omega
            rw [hp] at c7m
            have HPU : Hid (An.pu l (l k).up = p) := Lib.hid (by rw [HU.out, An.pu_place, hp])
            clear hs A72 hg hp
            have HSUB : Hid (An.sub l n q = ⟨p, x1, x2, false⟩) := Lib.hid (by rw [← HQ.out, An.sub_at hlt HG.out, HPU.out, HX1.out, HX2.out])
            go_upto_region 19 with (fail)
            have HR3 := HR2.put k (q : Int) (An.plF l (k + 1)) (by unfold An.plF; rw [if_pos (by omega), An.pl_stay HG.out, HQ.out]) (fun z _ hz => by unfold An.plF; by_cases h : z < k; (rw [if_pos (by omega), if_neg hz, if_pos h]); (rw [if_neg (by omega), if_neg hz, if_neg h]))
            have A03 := A02.off (n := P) (by omega) k (.int .i64 (q : Int))
            have hB3 := Below.setCell (p := ⟨P, k, none⟩) hB2 (by show w.heap.size ≤ P; omega) (.int .i64 (q : Int))
            generalize World.setCell _ _ _ = W3 at *
            obtain ⟨e0, e1', e2', e3'⟩ := (HC.out k hlt).keep hB3 hbl
            rw [HX1.out] at e1'
            rw [HX2.out] at e2'
            clear e0 e3' d0 d1 d2 d3 HR2
            obtain ⟨r1, r2, r3, r4, r5⟩ := HR3
            obtain ⟨A6', c6', W4, hrun1, s1, s2, s3, s4, s5⟩ := append_nodeB HSUB.out r1 r2 r3 r5 (by omega)
            have A04 := atLow A03 (by omega) s4
            have B7 := atLow r4 (by omega) s4
            have hB4 := Below.trans hB3 (s4.mono (by omega))
            obtain ⟨A8', c8', W5, hrun2, t1, t2, t3, t4, t5⟩ := append_intB (k : Int) s2 s1 s3.symm s5 (by omega)
            have A05 := atLow A04 (by omega) t4
            have B75 := atLow B7 (by omega) t4
            have hB5 := Below.trans hB4 (t4.mono (by omega))
            have HRUN1 := Lib.hid hrun1
            have HRUN2 := Lib.hid hrun2
            have HE := Lib.hid (show SkR l n P (k + 1) (q + 1) W5 A6' A8' c6' c8' (An.plF l (k + 1)) (q + 1) from ⟨t2, by rw [An.backI_stay HG.out]; exact t1, t3.symm, B75, t5⟩)
            have HCN : Hid (An.cnt l (k + 1) = q + 1) := Lib.hid (by rw [An.cnt_stay HG.out, HQ.out])
            clear hrun1 hrun2 r1 r2 r3 r4 s1 s2 s3 t1 t2 t3 B7 B75
            go_upto_region 20 with (at_builtin; refine wpList_append_run (by rfl) _ _ 22 rfl rfl rfl HRUN1.out ?_)
            go_wp2_with (at_builtin; refine wpList_append_run (by rfl) _ _ 39 rfl rfl rfl HRUN2.out ?_)
            go_roundw
            case rel => exact ⟨k + 1, q + 1, A6', c6', A8', c8', by omega, by go_num, by go_num, by go_num, HCN.out, HE.out, Lib.hid A05, hB5⟩
            case measure => simp [intOf]; omega
    · obtain rfl : k = n := by omega
      have hltz : ¬ (k : Int) < (k : Int) := by omega
      obtain ⟨r1, r2, r3, r4, r5⟩ := HR.out
      obtain ⟨A6', c6', e6, hM⟩ := nodes_of_own r1
      obtain ⟨A8', c8', e8, hI⟩ := ints_of_own r2 (by simp only [maxLen]; omega)
      injection e6 with e61 e62 e63
      injection e8 with e81 e82 e83
      subst e61; subst e63; subst e81; subst e83
      clear e62 e82 r1 r2 r3 r4 HR
      have hq1 : q ≤ 1000 := by omega
      have HSV : Hid (An.V (An.sub l k) q) := Lib.hid (by have := An.sub_valid HV.out; rw [HQ.out] at this; exact this)
      obtain ⟨l0, c0_0, c0_1⟩ := At.two A0
      obtain ⟨r, hr⟩ := An.picked_some HV.out x y
      have hsub := An.picked_sub HV.out hr
      rw [HQ.out] at hsub
      rcases hsub with ⟨rfl, hs⟩ | ⟨j, rfl, hj, hg, hs⟩
      · have HP := Lib.hid hr
        have HS := Lib.hid hs
        clear hr hs
        go_wp2_with (first | (go_at_call 16; with_reducible refine (anpick_any (r := -1) _ (HN.out.after hB) hn1 (.inl ⟨HV.out, HP.out⟩)).mono ?_; rintro e w' ⟨rfl, hS⟩; replace hM := hM.after hS; replace hI := hI.after hS; (clear l0 c0_0 c0_1); (replace hB := Below.after2 (by first | exact hB | exact Below.alloc' hB _ | exact Below.alloc' (Below.alloc' hB _) _) (Nat.le_refl _) hS); replace A0 := At.keep (by first | exact A0 | exact At.alloc A0 _ | exact At.alloc (At.alloc A0 _) _) hS; clear hS; obtain ⟨l0, c0_0, c0_1⟩ := At.two A0) | (go_at_call 16; with_reducible refine (anpick_any (r := -1) _ hM hq1 (.inl ⟨HSV.out, HS.out⟩)).mono ?_; rintro e w' ⟨rfl, hS⟩; replace hM := hM.after hS; replace hI := hI.after hS; (clear l0 c0_0 c0_1); (replace hB := Below.after2 (by first | exact hB | exact Below.alloc' hB _ | exact Below.alloc' (Below.alloc' hB _) _) (Nat.le_refl _) hS); replace A0 := At.keep (by first | exact A0 | exact At.alloc A0 _ | exact At.alloc (At.alloc A0 _) _) hS; clear hS; obtain ⟨l0, c0_0, c0_1⟩ := At.two A0))
        go_ret
        exact ⟨rfl, hB⟩
      · obtain ⟨p, hp⟩ : ∃ p, An.cnt l j = p := ⟨_, rfl⟩
        have ⟨hp1, hp2⟩ := An.kept_at hj hg
        have hp3 := An.backI_at hj hg
        have hlen := An.backI_length l k
        rw [hp] at hp1 hp3 hs
        rw [HQ.out] at hp1 hlen
        have HP := Lib.hid hr
        have HS := Lib.hid hs
        have HB3 := Lib.hid hp3
        have HLEN := Lib.hid hlen
        have hpq : (p : Int) < (q : Int) := by omega
        clear hr hs hp2 hp3 hlen hg hp
        go_upto_region 23 with (first | (go_at_call 16; with_reducible refine (anpick_any (r := (j : Int)) _ (HN.out.after hB) hn1 (.inl ⟨HV.out, HP.out⟩)).mono ?_; rintro e w' ⟨rfl, hS⟩; replace hM := hM.after hS; replace hI := hI.after hS; (clear l0 c0_0 c0_1); (replace hB := Below.after2 (by first | exact hB | exact Below.alloc' hB _ | exact Below.alloc' (Below.alloc' hB _) _) (Nat.le_refl _) hS); replace A0 := At.keep (by first | exact A0 | exact At.alloc A0 _ | exact At.alloc (At.alloc A0 _) _) hS; clear hS; obtain ⟨l0, c0_0, c0_1⟩ := At.two A0) | (go_at_call 16; with_reducible refine (anpick_any (r := (p : Int)) _ hM hq1 (.inl ⟨HSV.out, HS.out⟩)).mono ?_; rintro e w' ⟨rfl, hS⟩; replace hM := hM.after hS; replace hI := hI.after hS; (clear l0 c0_0 c0_1); (replace hB := Below.after2 (by first | exact hB | exact Below.alloc' hB _ | exact Below.alloc' (Below.alloc' hB _) _) (Nat.le_refl _) hS); replace A0 := At.keep (by first | exact A0 | exact At.alloc A0 _ | exact At.alloc (At.alloc A0 _) _) hS; clear hS; obtain ⟨l0, c0_0, c0_1⟩ := At.two A0))
        obtain ⟨b', off', rfl, hcell⟩ := hI.at_ (k := p) (by rw [HLEN.out]; exact hp1)
        rw [HB3.out] at hcell
        go_wp2
        go_ret
        exact ⟨rfl, hB⟩

theorem anskips_walk (A : Option Addr) (n c : Nat) (x y : Int) (w : World) (hI : IRow w A n c) :
    Calls Try.prog 7 #[.slice A n c, .agg #[.int .i64 x, .int .i64 y]] w fun e w' => e = .returned (.bool true) ∧ Below w.heap.size w w' := by
  obtain ⟨l, hA⟩ := hI.nodes
  by_cases h : 60 < n
  · exact anskips_out A n c x y w hI.cap.2 h
  · by_cases hv : An.V l n
    · exact anskips_core A l n c x y w hA (by omega) hv
    · exact anskips_bad A l n c x y w hA (by omega) hv

end Go.Proofs.Ytnoofdojbgkmkaa.Fix
