/- The contracts of Valid and behind of the layer anchor. -/
import Derived.Test.YtnoofdojbgkmkaaAnchor
import Derived.Deep.LoopGhost
import Derived.Deep.Cut
namespace Go.Proofs.Ytnoofdojbgkmkaa.Fix
open Go.ChangeShapes Go.WideShapes Go.ChangeAt Go.RowKit
set_option linter.unusedVariables false

theorem anbehind_any {A : Option Addr} {l : Nat → An.Nd} {n c q r : Nat} (w : World) (hN : Nodes w A l n) (hn : n ≤ 1000) (hB : An.Beh l n q r) :
    Calls Try.prog 26 #[.slice A n c, .int .i64 q] w fun e w' => e = .returned (.int .i64 r) ∧ w = w' := by
  have HN := Lib.hid hN
  clear hN
  obtain ⟨h1, h2, h3, h4⟩ := hB
  go_enter Try.func26, Try.ntmps26
  go_wp2
  go_loopw [5] (fun i wr => ∃ p : Nat, q < p ∧ p ≤ r ∧ i = .int .i64 p ∧ w = wr) (fun i _ => r - (intOf i).toNat)
  case atStart => exact ⟨q + 1, by omega, by omega, by go_num, rfl⟩
  case round =>
    obtain ⟨p, g1, g2, rfl, rfl⟩ := hrel
    by_cases hlt : p < n
    · have hltz : (p : Int) < (n : Int) := by omega
      obtain ⟨b, off, rfl, hbl, c0, c1, c2, c3⟩ := HN.out.at_ hlt
      have HU := Lib.hid (show (p < r → (q : Int) ≤ (l p).up) ∧ (p = r → (l p).up < q) from ⟨fun h => h3 p g1 h, fun h => by subst h; exact h4 hlt⟩)
      clear h3 h4 c1 c2 c3
      generalize (l p).up = u at *
      by_cases hr : p < r
      · have hu : (q : Int) ≤ u := HU.out.1 hr
        go_wp2
        go_roundw
        case rel => exact ⟨p + 1, by omega, by omega, by go_num, trivial⟩
        case measure => simp [intOf]; omega
      · have hu : ¬ (q : Int) ≤ u := by have := HU.out.2 (by omega); omega
        go_wp2
        go_ret
        exact ⟨ret_int (by omega), rfl⟩
    · have hltz : ¬ (p : Int) < (n : Int) := by omega
      go_wp2
      go_ret
      exact ⟨ret_int (by omega), rfl⟩

set_option maxHeartbeats 1000000 in
theorem anvalid_any {A : Option Addr} {l : Nat → An.Nd} {n c : Nat} {v : Bool} (w : World) (hN : Nodes w A l n) (hn : n ≤ 1000) (hv : (v = true ∧ An.V l n) ∨ (v = false ∧ ¬ An.V l n)) :
    Calls Try.prog 15 #[.slice A n c] w fun e w' => e = .returned (.bool v) ∧ Below w.heap.size w w' := by
  have HN := Lib.hid hN
  have HV := Lib.hid hv
  clear hN hv
  go_enter Try.func15, Try.ntmps15
  go_wp2
  go_step3
  go_wp2
  go_step3
  go_wp2
  go_loopg [8] n (fun g i wr => ∃ k : Nat, k + g = n ∧ i = .int .i64 k ∧ Aside (An.V l k) ∧ Below w.heap.size w wr)
  case atStart => exact ⟨0, by omega, rfl, fun k hk => absurd hk (by omega), Below.refl _ _⟩
  case round =>
    obtain ⟨k, hkg, rfl, hV, hB⟩ := hrel
    cases gk with
    | zero =>
      have hkz : ¬ (k : Int) < (n : Int) := by omega
      go_wp2
      try rw [Exit.noGoto_ret]
      go_ret
      obtain rfl : k = n := by omega
      rcases HV.out with ⟨rfl, _⟩ | ⟨_, h⟩
      · exact ⟨rfl, hB⟩
      · exact absurd hV.out h
    | succ g =>
      have hkn : k < n := by omega
      have hkz : (k : Int) < (n : Int) := by omega
      obtain ⟨b, off, rfl, hbl, hc⟩ := HN.out (by omega)
      obtain ⟨c0, c1, c2, c3⟩ := (hc k hkn).keep hB hbl
      have HC := Lib.hid hc
      clear hc
      obtain ⟨u, hu⟩ : ∃ u, (l k).up = u := ⟨_, rfl⟩
      rw [hu] at c0
      have HU := Lib.hid hu
      clear hu
      generalize (l k).lo = x1 at *
      generalize (l k).hi = x2 at *
      generalize (l k).skip = x3 at *
      by_cases hm : u = -1
      · subst hm
        go_wp2
        go_roundg g
        case measure => omega
        case rel => exact ⟨k + 1, by omega, by go_num, An.V.succ hV.out (An.ok_root hV.out HU.out), Below.alloc' hB _⟩
      · go_upto_region 4 with (fail)
        generalize hW : World.alloc _ _ = W1
        have A3 : At W1 wr.heap.size _ := hW ▸ At.new _ _
        have hB1 : Below w.heap.size w W1 := hW ▸ Below.alloc' hB _
        clear hW
        obtain ⟨l3, e0, e1, e2, e3⟩ := At.four A3
        go_wp2
        go_loopg [5] k (fun m a wx => ∃ z : Int, a = .int .i64 z ∧ -1 ≤ z ∧ z + 1 ≤ m ∧ z < k ∧ Aside (An.Path l ((k : Int) - 1) u ↔ An.Path l z u) ∧ W1 = wx)
        case atStart => exact ⟨(k : Int) - 1, rfl, by omega, by omega, by omega, Iff.rfl, rfl⟩
        case round =>
          obtain ⟨z, rfl, z1, z2, z3, HP, rfl⟩ := hrel
          by_cases hz : z = -1
          · subst hz
            go_wp2
            try rw [Exit.noGoto_ret]
            go_ret
            rcases HV.out with ⟨rfl, h⟩ | ⟨rfl, _⟩
            · exfalso
              have h := (h k hkn).2.2
              rw [HU.out] at h
              exact hm (An.path_end (HP.out.1 h))
            · exact ⟨rfl, hB1⟩
          · obtain ⟨j, rfl⟩ : ∃ j : Nat, z = j := ⟨z.toNat, by omega⟩
            obtain ⟨d0, d1, d2, d3⟩ := (HC.out j (by omega)).keep hB1 hbl
            clear d1 d2 d3
            have ho := hV.out j (by omega)
            by_cases he : (j : Int) = u
            · have HK := Lib.hid (An.V.succ hV.out ⟨by rw [HU.out]; omega, by rw [HU.out]; omega, by rw [HU.out]; exact HP.out.2 (by rw [he]; exact .here _)⟩)
              subst he
              go_wp2
              go_roundg g
              case measure => omega
              case rel => exact ⟨k + 1, by omega, by go_num, HK.out, hB1⟩
            · have HQ := Lib.hid (HP.out.trans (An.path_up he))
              have ho1 := ho.1
              have ho2 := ho.2.1
              clear ho HP
              generalize (l j).up = y at *
              go_wp2
              go_roundg (gk - 1)
              case measure => omega
              case rel => exact ⟨y, rfl, by omega, by omega, by omega, HQ.out, rfl⟩

set_option maxHeartbeats 2000000 in
theorem anpick_any {A : Option Addr} {l : Nat → An.Nd} {n c : Nat} {x y r : Int} (w : World) (hN : Nodes w A l n) (hn : n ≤ 1000) (hr : (An.V l n ∧ An.Picked l n x y r) ∨ (¬ An.V l n ∧ r = -1)) :
    Calls Try.prog 16 #[.slice A n c, .agg #[.int .i64 x, .int .i64 y]] w fun e w' => e = .returned (.int .i64 r) ∧ Below w.heap.size w w' := by
  have HN := Lib.hid hN
  clear hN
  rcases hr with ⟨hv, hr⟩ | ⟨hv, rfl⟩
  · have HV := Lib.hid hv
    have HR := Lib.hid hr
    clear hv hr
    go_enter Try.func16, Try.ntmps16
    go_upto_region 1 with (fail)
    (generalize hW : World.alloc w _ = W0; have A0 : At W0 (w.heap.size) (.cells #[.int .i64 x, .int .i64 y] 24) := (by ((rw [← hW]) <;> exact At.new' _ (by first | done | rfl | simp))); have hB : Below w.heap.size w W0 := (by ((rw [← hW]) <;> exact Below.alloc' (Below.refl _ _) _)); clear hW; obtain ⟨l0, c0_0, c0_1⟩ := At.two A0)
    go_step3
    have hBN : Below w.heap.size w W0 := hB
    go_wp2_with (go_at_call 15; with_reducible refine (anvalid_any (v := true) _ (HN.out.after hB) hn (.inl ⟨rfl, HV.out⟩)).mono ?_; rintro e w' ⟨rfl, hb⟩; (clear l0 c0_0 c0_1); (replace hB := Below.after2 (by first | exact hB | exact Below.alloc' hB _ | exact Below.alloc' (Below.alloc' hB _) _) (Nat.le_refl _) hb); replace A0 := At.keep (by first | exact A0 | exact At.alloc A0 _ | exact At.alloc (At.alloc A0 _) _) hb; clear hb; obtain ⟨l0, c0_0, c0_1⟩ := At.two A0)
    go_step3
    go_wp2
    go_loopw [5, 6] (fun t i wr => ∃ (z : Int) (q : Nat), t = .int .i64 z ∧ i = .int .i64 q ∧ Aside (An.Scan l n x y z q) ∧ Hid (At wr w.heap.size (.cells #[.int .i64 x, .int .i64 y] 24)) ∧ Below w.heap.size w wr) (fun _ i _ => n - (intOf i).toNat)
    case atStart => exact ⟨-1, 0, rfl, rfl, An.scan_start HV.out x y, Lib.hid A0, hB⟩
    case round =>
      clear hB A0 l0 c0_0 c0_1
      obtain ⟨z, q, rfl, rfl, HS, A0, hB⟩ := hrel
      replace A0 := A0.out
      obtain ⟨l0, c0_0, c0_1⟩ := At.two A0
      have hz := HS.out.2.2.1
      have hq := HS.out.2.2.2.2.1
      by_cases hlt : q < n
      · have hltz : (q : Int) < (n : Int) := by omega
        obtain ⟨b, off, rfl, hbl, hc⟩ := HN.out (by omega)
        obtain ⟨d0, d1, d2, d3⟩ := (hc q hlt).keep hB hbl
        clear hc
        have hbl2 := Nat.lt_of_lt_of_le hbl hB.size
        obtain ⟨u, hu⟩ : ∃ u, (l q).up = u := ⟨_, rfl⟩
        rw [hu] at d0
        have HU := Lib.hid hu
        clear hu
        by_cases hu : z ≤ u
        · obtain ⟨r0, hsg, hg⟩ := An.sight_of (l q) x y
          rcases hg with ⟨rfl, hg⟩ | ⟨rfl, hg, hg2⟩ | ⟨rfl, hg, hg2⟩
          · obtain ⟨r', hb⟩ := An.beh_some (l := l) hlt
            have HBE := Lib.hid hb
            have HK := Lib.hid (An.scan_skip HV.out HS.out hlt (by rw [HU.out]; exact hu) hg hb)
            have g1 := hb.1
            have g2 := hb.2.1
            clear hb hg
            generalize (l q).lo = x1 at d1 hsg
            generalize (l q).hi = x2 at d2 hsg
            generalize (l q).skip = x3 at d3 hsg
            have HSG := Lib.hid hsg
            clear hsg
            go_upto_region 5 with (fail)
            refine Drawn.wp_region_from (Below.refl _ _) (by kernel_rfl) (by kernel_rfl) (by kernel_rfl) ?_
            (repeat (first | (refine Drawn.seq_skip (by rfl) ?_; (try simp only [Act.put, List.setIfInBounds_toArray, List.set_cons_zero, List.set_cons_succ])) | (refine Drawn.seq_call (o := ⟨_, .call ⟨.value _, _, _⟩, _, _, _, _⟩) (by rfl) (by intro w2 hS; go_simp; first | done | with_reducible rfl | exact ⟨rfl, rfl⟩) (by intro w2 hS; first | ((with_reducible refine (sightof_any _ HSG.out).mono ?_); rintro e w' ⟨rfl, hb⟩; exact ⟨rfl, Below.after hS hb⟩)) ?_; (try simp only [Act.put, List.setIfInBounds_toArray, List.set_cons_zero, List.set_cons_succ])) | (refine Drawn.seq_value (by rfl) (by intro w2 hS; obtain ⟨hc, hf⟩ := bcell hS; go_simp; first | done | with_reducible rfl | exact ⟨rfl, rfl⟩) ?_; (try simp only [Act.put, List.setIfInBounds_toArray, List.set_cons_zero, List.set_cons_succ]))))
            refine Drawn.seq_end ?_; intro w2 hS
            (clear l0 c0_0 c0_1); (replace hB := Below.after2 (by first | exact hB | exact Below.alloc' hB _ | exact Below.alloc' (Below.alloc' hB _) _) (Nat.le_refl _) hS); replace A0 := At.keep (by first | exact A0 | exact At.alloc A0 _ | exact At.alloc (At.alloc A0 _) _) hS; clear hS; obtain ⟨l0, c0_0, c0_1⟩ := At.two A0
            go_wp2_with (go_at_call 26; with_reducible refine (anbehind_any _ (HN.out.after hB) hn HBE.out).mono ?_; rintro e w5 ⟨rfl, rfl⟩)
            go_roundw
            case rel => exact ⟨z, r', rfl, rfl, HK.out, Lib.hid A0, hB⟩
            case measure => simp [intOf]; omega
          · have HK := Lib.hid (An.scan_part HV.out HS.out hlt (by rw [HU.out]; exact hu) hg hg2)
            clear hg hg2
            generalize (l q).lo = x1 at d1 hsg
            generalize (l q).hi = x2 at d2 hsg
            generalize (l q).skip = x3 at d3 hsg
            have HSG := Lib.hid hsg
            clear hsg
            go_upto_region 5 with (fail)
            refine Drawn.wp_region_from (Below.refl _ _) (by kernel_rfl) (by kernel_rfl) (by kernel_rfl) ?_
            (repeat (first | (refine Drawn.seq_skip (by rfl) ?_; (try simp only [Act.put, List.setIfInBounds_toArray, List.set_cons_zero, List.set_cons_succ])) | (refine Drawn.seq_call (o := ⟨_, .call ⟨.value _, _, _⟩, _, _, _, _⟩) (by rfl) (by intro w2 hS; go_simp; first | done | with_reducible rfl | exact ⟨rfl, rfl⟩) (by intro w2 hS; first | ((with_reducible refine (sightof_any _ HSG.out).mono ?_); rintro e w' ⟨rfl, hb⟩; exact ⟨rfl, Below.after hS hb⟩)) ?_; (try simp only [Act.put, List.setIfInBounds_toArray, List.set_cons_zero, List.set_cons_succ])) | (refine Drawn.seq_value (by rfl) (by intro w2 hS; obtain ⟨hc, hf⟩ := bcell hS; go_simp; first | done | with_reducible rfl | exact ⟨rfl, rfl⟩) ?_; (try simp only [Act.put, List.setIfInBounds_toArray, List.set_cons_zero, List.set_cons_succ]))))
            refine Drawn.seq_end ?_; intro w2 hS
            (clear l0 c0_0 c0_1); (replace hB := Below.after2 (by first | exact hB | exact Below.alloc' hB _ | exact Below.alloc' (Below.alloc' hB _) _) (Nat.le_refl _) hS); replace A0 := At.keep (by first | exact A0 | exact At.alloc A0 _ | exact At.alloc (At.alloc A0 _) _) hS; clear hS; obtain ⟨l0, c0_0, c0_1⟩ := At.two A0
            go_wp2
            go_roundw
            case rel => exact ⟨q, q + 1, rfl, by go_num, HK.out, Lib.hid A0, hB⟩
            case measure => simp [intOf]; omega
          · have HK := Lib.hid (An.scan_whole HS.out hlt (by rw [HU.out]; exact hu) hg hg2)
            clear hg hg2
            generalize (l q).lo = x1 at d1 hsg
            generalize (l q).hi = x2 at d2 hsg
            generalize (l q).skip = x3 at d3 hsg
            have HSG := Lib.hid hsg
            clear hsg
            go_upto_region 5 with (fail)
            refine Drawn.wp_region_from (Below.refl _ _) (by kernel_rfl) (by kernel_rfl) (by kernel_rfl) ?_
            (repeat (first | (refine Drawn.seq_skip (by rfl) ?_; (try simp only [Act.put, List.setIfInBounds_toArray, List.set_cons_zero, List.set_cons_succ])) | (refine Drawn.seq_call (o := ⟨_, .call ⟨.value _, _, _⟩, _, _, _, _⟩) (by rfl) (by intro w2 hS; go_simp; first | done | with_reducible rfl | exact ⟨rfl, rfl⟩) (by intro w2 hS; first | ((with_reducible refine (sightof_any _ HSG.out).mono ?_); rintro e w' ⟨rfl, hb⟩; exact ⟨rfl, Below.after hS hb⟩)) ?_; (try simp only [Act.put, List.setIfInBounds_toArray, List.set_cons_zero, List.set_cons_succ])) | (refine Drawn.seq_value (by rfl) (by intro w2 hS; obtain ⟨hc, hf⟩ := bcell hS; go_simp; first | done | with_reducible rfl | exact ⟨rfl, rfl⟩) ?_; (try simp only [Act.put, List.setIfInBounds_toArray, List.set_cons_zero, List.set_cons_succ]))))
            refine Drawn.seq_end ?_; intro w2 hS
            (clear l0 c0_0 c0_1); (replace hB := Below.after2 (by first | exact hB | exact Below.alloc' hB _ | exact Below.alloc' (Below.alloc' hB _) _) (Nat.le_refl _) hS); replace A0 := At.keep (by first | exact A0 | exact At.alloc A0 _ | exact At.alloc (At.alloc A0 _) _) hS; clear hS; obtain ⟨l0, c0_0, c0_1⟩ := At.two A0
            go_wp2
            try rw [Exit.noGoto_ret]
            go_ret
            exact ⟨ret_int (An.picked_det HK.out HR.out), hB⟩
        · have HK := Lib.hid (An.scan_exit HV.out HS.out (fun _ => by rw [HU.out]; omega))
          go_wp2
          try rw [Exit.noGoto_ret]
          go_ret
          exact ⟨ret_int (An.picked_det HK.out HR.out), hB⟩
      · have hltz : ¬ (q : Int) < (n : Int) := by omega
        have HK := Lib.hid (An.scan_exit HV.out HS.out (fun h => absurd h hlt))
        go_wp2
        try rw [Exit.noGoto_ret]
        go_ret
        exact ⟨ret_int (An.picked_det HK.out HR.out), hB⟩
  · have HV := Lib.hid hv
    clear hv
    go_enter Try.func16, Try.ntmps16
    go_upto_region 1 with (fail)
    (generalize hW : World.alloc w _ = W0; have A0 : At W0 (w.heap.size) (.cells #[.int .i64 x, .int .i64 y] 24) := (by ((rw [← hW]) <;> exact At.new' _ (by first | done | rfl | simp))); have hB : Below w.heap.size w W0 := (by ((rw [← hW]) <;> exact Below.alloc' (Below.refl _ _) _)); clear hW; obtain ⟨l0, c0_0, c0_1⟩ := At.two A0)
    go_step3
    go_wp2_with (go_at_call 15; with_reducible refine (anvalid_any (v := false) _ (HN.out.after hB) hn (.inr ⟨rfl, HV.out⟩)).mono ?_; rintro e w' ⟨rfl, hb⟩; (clear l0 c0_0 c0_1); (replace hB := Below.after2 (by first | exact hB | exact Below.alloc' hB _ | exact Below.alloc' (Below.alloc' hB _) _) (Nat.le_refl _) hb); replace A0 := At.keep (by first | exact A0 | exact At.alloc A0 _ | exact At.alloc (At.alloc A0 _) _) hb; clear hb; obtain ⟨l0, c0_0, c0_1⟩ := At.two A0)
    try rw [Exit.noGoto_ret]
    go_ret
    exact ⟨rfl, hB⟩

end Go.Proofs.Ytnoofdojbgkmkaa.Fix
