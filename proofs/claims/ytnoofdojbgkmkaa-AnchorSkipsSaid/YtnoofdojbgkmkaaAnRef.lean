/- The document's own answers for the layer anchor: Valid, first, Pick. -/
import Derived.Test.YtnoofdojbgkmkaaAnchorB
namespace Go.Proofs.Ytnoofdojbgkmkaa.Fix
open Go.ChangeShapes Go.WideShapes Go.ChangeAt Go.RowKit
set_option linter.unusedVariables false

set_option maxHeartbeats 1000000 in
theorem ranvalid_any {A : Option Addr} {l : Nat → An.Nd} {n c : Nat} {v : Bool} (w : World) (hN : Nodes w A l n) (hn : n ≤ 1000) (hv : (v = true ∧ An.V l n) ∨ (v = false ∧ ¬ An.V l n)) :
    Calls Try.prog 11 #[.slice A n c] w fun e w' => e = .returned (.bool v) ∧ w = w' := by
  have HN := Lib.hid hN
  have HV := Lib.hid hv
  clear hN hv
  go_enter Try.func11, Try.ntmps11
  go_wp2
  go_loopw [3] (fun i wr => ∃ k : Nat, k ≤ n ∧ i = .int .i64 k ∧ Aside (An.V l k) ∧ w = wr) (fun i _ => n - (intOf i).toNat)
  case atStart => exact ⟨0, by omega, rfl, fun k hk => absurd hk (by omega), rfl⟩
  case round =>
    obtain ⟨k, hk, rfl, hV, rfl⟩ := hrel
    by_cases hlt : k < n
    · have hkz : (k : Int) < (n : Int) := by omega
      obtain ⟨b, off, rfl, hbl, hc⟩ := HN.out (by omega)
      obtain ⟨c0, c1, c2, c3⟩ := hc k hlt
      clear c1 c2 c3
      have HC := Lib.hid hc
      clear hc
      obtain ⟨u, hu⟩ : ∃ u, (l k).up = u := ⟨_, rfl⟩
      rw [hu] at c0
      have HU := Lib.hid hu
      clear hu
      by_cases h1 : u < -1
      · go_wp2
        go_ret
        rcases HV.out with ⟨rfl, h⟩ | ⟨rfl, _⟩
        · have := (h k hlt).1; rw [HU.out] at this; omega
        · exact ⟨rfl, rfl⟩
      · by_cases h2 : (k : Int) ≤ u
        · go_wp2
          go_ret
          rcases HV.out with ⟨rfl, h⟩ | ⟨rfl, _⟩
          · have := (h k hlt).2.1; rw [HU.out] at this; omega
          · exact ⟨rfl, rfl⟩
        · go_wp2
          rename World => w0
          go_loopw [4] (fun a wx => ∃ z : Int, a = .int .i64 z ∧ -1 ≤ z ∧ z < k ∧ Aside (An.Path l ((k : Int) - 1) u ↔ An.Path l z u) ∧ w0 = wx) (fun a _ => (intOf a + 1).toNat)
          case atStart => exact ⟨(k : Int) - 1, rfl, by omega, by omega, Iff.rfl, rfl⟩
          case round =>
            obtain ⟨z, rfl, z1, z2, HP, rfl⟩ := hrel
            by_cases hz : z = -1
            · subst hz
              by_cases hm : u = -1
              · subst hm
                have HK := Lib.hid (An.V.succ hV.out (An.ok_root hV.out HU.out))
                go_wp2
                go_roundw
                case rel => exact ⟨k + 1, by omega, by go_num, HK.out, trivial⟩
                case measure => simp [intOf]; omega
              · have hm2 : ¬ -1 = u := fun h => hm h.symm
                go_wp2
                go_ret
                rcases HV.out with ⟨rfl, h⟩ | ⟨rfl, _⟩
                · exfalso
                  have h := (h k hlt).2.2
                  rw [HU.out] at h
                  exact hm (An.path_end (HP.out.1 h))
                · exact ⟨rfl, rfl⟩
            · obtain ⟨j, rfl⟩ : ∃ j : Nat, z = j := ⟨z.toNat, by omega⟩
              obtain ⟨d0, d1, d2, d3⟩ := HC.out j (by omega)
              clear d1 d2 d3
              have ho := hV.out j (by omega)
              by_cases he : (j : Int) = u
              · have HK := Lib.hid (An.V.succ hV.out ⟨by rw [HU.out]; omega, by rw [HU.out]; omega, by rw [HU.out]; exact HP.out.2 (by rw [he]; exact .here _)⟩)
                subst he
                clear ho
                go_wp2
                go_roundw
                case rel => exact ⟨k + 1, by omega, by go_num, HK.out, trivial⟩
                case measure => simp [intOf]; omega
              · have HQ := Lib.hid (HP.out.trans (An.path_up he))
                have ho1 := ho.1
                have ho2 := ho.2.1
                clear ho HP
                generalize (l j).up = y at *
                go_wp2
                go_roundw
                case rel => exact ⟨y, rfl, by omega, by omega, HQ.out, trivial⟩
                case measure => simp [intOf]; omega
    · obtain rfl : k = n := by omega
      have hkz : ¬ (k : Int) < (k : Int) := by omega
      go_wp2
      go_ret
      rcases HV.out with ⟨rfl, _⟩ | ⟨_, h⟩
      · exact ⟨rfl, rfl⟩
      · exact absurd hV.out h

set_option maxHeartbeats 2000000 in
theorem ranfirst_any {l : Nat → An.Nd} {n : Nat} {x y u r : Int} (hf : An.First l n x y u r) (hn : n ≤ 1000) : ∀ (A : Option Addr) (c : Nat) (w : World), Nodes w A l n →
    Calls Try.prog 19 #[.slice A n c, .int .i64 u, .agg #[.int .i64 x, .int .i64 y]] w fun e w' => e = .returned (.int .i64 r) ∧ Below w.heap.size w w' := by
  have key : ∀ u r : Int, (∀ (k : Nat), An.Kid l n x y u k → (An.sg (l k) x y = 2 ∧ r = k) ∨ (An.sg (l k) x y = 1 ∧ ∃ r' : Int, (∀ (A : Option Addr) (c : Nat) (w : World), Nodes w A l n →
      Calls Try.prog 19 #[.slice A n c, .int .i64 k, .agg #[.int .i64 x, .int .i64 y]] w fun e w' => e = .returned (.int .i64 r') ∧ Below w.heap.size w w') ∧ ((0 ≤ r' ∧ r = r') ∨ (r' = -1 ∧ r = k)))) → (An.NoKid l n x y u → r = -1) →
      ∀ (A : Option Addr) (c : Nat) (w : World), Nodes w A l n →
      Calls Try.prog 19 #[.slice A n c, .int .i64 u, .agg #[.int .i64 x, .int .i64 y]] w fun e w' => e = .returned (.int .i64 r) ∧ Below w.heap.size w w' := by
    intro u r hk hno A c w hN
    have HN := Lib.hid hN
    have HK := Lib.hid hk
    have HNO := Lib.hid hno
    clear hN hk hno hf
    go_enter Try.func19, Try.ntmps19
    go_upto_region 1 with (fail)
    (generalize hW : World.alloc w _ = W0; have A0 : At W0 (w.heap.size) (.cells #[.int .i64 x, .int .i64 y] 24) := (by ((rw [← hW]) <;> exact At.new' _ (by first | done | rfl | simp))); have hB : Below w.heap.size w W0 := (by ((rw [← hW]) <;> exact Below.alloc' (Below.refl _ _) _)); clear hW; obtain ⟨l0, c0_0, c0_1⟩ := At.two A0)
    go_wp2
    go_loopw [7] (fun i wr => ∃ q : Nat, q ≤ n ∧ i = .int .i64 q ∧ Aside (∀ j, j < q → (l j).up = u → ¬ An.seen (l j) x y) ∧ Hid (At wr w.heap.size (.cells #[.int .i64 x, .int .i64 y] 24)) ∧ Below w.heap.size w wr) (fun i _ => n - (intOf i).toNat)
    case atStart => exact ⟨0, by omega, rfl, fun j hj => absurd hj (by omega), Lib.hid A0, hB⟩
    case round =>
      clear hB A0 l0 c0_0 c0_1
      obtain ⟨q, hq, rfl, HS, A0, hB⟩ := hrel
      replace A0 := A0.out
      obtain ⟨l0, c0_0, c0_1⟩ := At.two A0
      by_cases hlt : q < n
      · have hltz : (q : Int) < (n : Int) := by omega
        have next : ¬ ((l q).up = u ∧ An.seen (l q) x y) → ∀ j, j < q + 1 → (l j).up = u → ¬ An.seen (l j) x y := fun h j hj e => by
          by_cases g : j < q
          · exact HS.out j g e
          · obtain rfl : j = q := by omega
            exact fun g => h ⟨e, g⟩
        have HX := Lib.hid next
        clear next
        obtain ⟨b, off, rfl, hbl, hc⟩ := HN.out (by omega)
        obtain ⟨d0, d1, d2, d3⟩ := (hc q hlt).keep hB hbl
        clear hc
        have hbl2 := Nat.lt_of_lt_of_le hbl hB.size
        obtain ⟨z, hz⟩ : ∃ z, (l q).up = z := ⟨_, rfl⟩
        rw [hz] at d0
        have HU := Lib.hid hz
        clear hz
        by_cases hu : z = u
        · subst hu
          obtain ⟨s, hs⟩ : ∃ s, (l q).skip = s := ⟨_, rfl⟩
          rw [hs] at d3
          cases s with
          | true =>
            have HY := Lib.hid (HX.out (fun h => by have := h.2.1; rw [hs] at this; cases this))
            clear hs
            go_wp2
            go_roundw
            case rel => exact ⟨q + 1, by omega, by go_num, HY.out, Lib.hid A0, hB⟩
            case measure => simp [intOf]; omega
          | false =>
            obtain ⟨r0, hsg, hg⟩ := An.sight_of (l q) x y
            replace hsg : An.sight (l q).lo (l q).hi x y = r0 := by
              rcases hsg with ⟨h, _⟩ | ⟨_, h⟩
              · rw [hs] at h; cases h
              · exact h
            rcases hg with ⟨rfl, hg⟩ | ⟨rfl, hg, hg2⟩ | ⟨rfl, hg, hg2⟩
            · have HY := Lib.hid (HX.out (fun h => hg h.2))
              clear hg hs
              generalize (l q).lo = x1 at d1 hsg
              generalize (l q).hi = x2 at d2 hsg
              have HSG := Lib.hid hsg
              clear hsg
              go_upto_region 5 with (fail)
              refine Drawn.wp_region_from (Below.refl _ _) (by kernel_rfl) (by kernel_rfl) (by kernel_rfl) ?_
              (repeat (first | (refine Drawn.seq_skip (by rfl) ?_; (try simp only [Act.put, List.setIfInBounds_toArray, List.set_cons_zero, List.set_cons_succ])) | (refine Drawn.seq_call (o := ⟨_, .call ⟨.value _, _, _⟩, _, _, _, _⟩) (by rfl) (by intro w2 hS; go_simp; first | done | with_reducible rfl | exact ⟨rfl, rfl⟩) (by intro w2 hS; first | ((with_reducible refine (ransight_any _ HSG.out).mono ?_); rintro e w' ⟨rfl, hb⟩; exact ⟨rfl, Below.after hS hb⟩)) ?_; (try simp only [Act.put, List.setIfInBounds_toArray, List.set_cons_zero, List.set_cons_succ])) | (refine Drawn.seq_value (by rfl) (by intro w2 hS; obtain ⟨hc, hf⟩ := bcell hS; go_simp; first | done | with_reducible rfl | exact ⟨rfl, rfl⟩) ?_; (try simp only [Act.put, List.setIfInBounds_toArray, List.set_cons_zero, List.set_cons_succ]))))
              refine Drawn.seq_end ?_; intro w2 hS
              (clear l0 c0_0 c0_1); (replace hB := Below.after2 (by first | exact hB | exact Below.alloc' hB _ | exact Below.alloc' (Below.alloc' hB _) _) (Nat.le_refl _) hS); replace A0 := At.keep (by first | exact A0 | exact At.alloc A0 _ | exact At.alloc (At.alloc A0 _) _) hS; clear hS; obtain ⟨l0, c0_0, c0_1⟩ := At.two A0
              go_wp2
              go_roundw
              case rel => exact ⟨q + 1, by omega, by go_num, HY.out, Lib.hid A0, hB⟩
              case measure => simp [intOf]; omega
            · have kid : An.Kid l n x y z q := ⟨hlt, HU.out, ⟨hg, by omega⟩, HS.out⟩
              obtain ⟨r', hcall, hrr⟩ : ∃ r' : Int, (∀ (A : Option Addr) (c : Nat) (w : World), Nodes w A l n →
                  Calls Try.prog 19 #[.slice A n c, .int .i64 q, .agg #[.int .i64 x, .int .i64 y]] w fun e w' => e = .returned (.int .i64 r') ∧ Below w.heap.size w w') ∧ ((0 ≤ r' ∧ r = r') ∨ (r' = -1 ∧ r = q)) := by
                rcases HK.out q kid with ⟨h, _⟩ | ⟨_, h⟩
                · omega
                · exact h
              have HF := Lib.hid hcall
              clear kid hg hg2 hs hcall
              generalize (l q).lo = x1 at d1 hsg
              generalize (l q).hi = x2 at d2 hsg
              have HSG := Lib.hid hsg
              clear hsg
              rcases hrr with ⟨h0, rfl⟩ | ⟨rfl, rfl⟩
              all_goals
                go_upto_region 5 with (fail)
                refine Drawn.wp_region_from (Below.refl _ _) (by kernel_rfl) (by kernel_rfl) (by kernel_rfl) ?_
                (repeat (first | (refine Drawn.seq_skip (by rfl) ?_; (try simp only [Act.put, List.setIfInBounds_toArray, List.set_cons_zero, List.set_cons_succ])) | (refine Drawn.seq_call (o := ⟨_, .call ⟨.value _, _, _⟩, _, _, _, _⟩) (by rfl) (by intro w2 hS; go_simp; first | done | with_reducible rfl | exact ⟨rfl, rfl⟩) (by intro w2 hS; first | ((with_reducible refine (ransight_any _ HSG.out).mono ?_); rintro e w' ⟨rfl, hb⟩; exact ⟨rfl, Below.after hS hb⟩)) ?_; (try simp only [Act.put, List.setIfInBounds_toArray, List.set_cons_zero, List.set_cons_succ])) | (refine Drawn.seq_value (by rfl) (by intro w2 hS; obtain ⟨hc, hf⟩ := bcell hS; go_simp; first | done | with_reducible rfl | exact ⟨rfl, rfl⟩) ?_; (try simp only [Act.put, List.setIfInBounds_toArray, List.set_cons_zero, List.set_cons_succ]))))
                refine Drawn.seq_end ?_; intro w2 hS
                (clear l0 c0_0 c0_1); (replace hB := Below.after2 (by first | exact hB | exact Below.alloc' hB _ | exact Below.alloc' (Below.alloc' hB _) _) (Nat.le_refl _) hS); replace A0 := At.keep (by first | exact A0 | exact At.alloc A0 _ | exact At.alloc (At.alloc A0 _) _) hS; clear hS; obtain ⟨l0, c0_0, c0_1⟩ := At.two A0
                go_wp2_with (go_at_call 19; with_reducible refine (HF.out _ _ _ (HN.out.after hB)).mono ?_; rintro e w' ⟨rfl, hb⟩; (clear l0 c0_0 c0_1); (replace hB := Below.after2 (by first | exact hB | exact Below.alloc' hB _ | exact Below.alloc' (Below.alloc' hB _) _) (Nat.le_refl _) hb); replace A0 := At.keep (by first | exact A0 | exact At.alloc A0 _ | exact At.alloc (At.alloc A0 _) _) hb; clear hb; obtain ⟨l0, c0_0, c0_1⟩ := At.two A0)
                go_ret
                exact ⟨rfl, hB⟩
            · have kid : An.Kid l n x y z q := ⟨hlt, HU.out, ⟨hg, by omega⟩, HS.out⟩
              have hr : r = q := by
                rcases HK.out q kid with ⟨_, h⟩ | ⟨h, _⟩
                · exact h
                · omega
              subst hr
              clear kid hg hg2 hs
              generalize (l q).lo = x1 at d1 hsg
              generalize (l q).hi = x2 at d2 hsg
              have HSG := Lib.hid hsg
              clear hsg
              go_upto_region 5 with (fail)
              refine Drawn.wp_region_from (Below.refl _ _) (by kernel_rfl) (by kernel_rfl) (by kernel_rfl) ?_
              (repeat (first | (refine Drawn.seq_skip (by rfl) ?_; (try simp only [Act.put, List.setIfInBounds_toArray, List.set_cons_zero, List.set_cons_succ])) | (refine Drawn.seq_call (o := ⟨_, .call ⟨.value _, _, _⟩, _, _, _, _⟩) (by rfl) (by intro w2 hS; go_simp; first | done | with_reducible rfl | exact ⟨rfl, rfl⟩) (by intro w2 hS; first | ((with_reducible refine (ransight_any _ HSG.out).mono ?_); rintro e w' ⟨rfl, hb⟩; exact ⟨rfl, Below.after hS hb⟩)) ?_; (try simp only [Act.put, List.setIfInBounds_toArray, List.set_cons_zero, List.set_cons_succ])) | (refine Drawn.seq_value (by rfl) (by intro w2 hS; obtain ⟨hc, hf⟩ := bcell hS; go_simp; first | done | with_reducible rfl | exact ⟨rfl, rfl⟩) ?_; (try simp only [Act.put, List.setIfInBounds_toArray, List.set_cons_zero, List.set_cons_succ]))))
              refine Drawn.seq_end ?_; intro w2 hS
              (clear l0 c0_0 c0_1); (replace hB := Below.after2 (by first | exact hB | exact Below.alloc' hB _ | exact Below.alloc' (Below.alloc' hB _) _) (Nat.le_refl _) hS); replace A0 := At.keep (by first | exact A0 | exact At.alloc A0 _ | exact At.alloc (At.alloc A0 _) _) hS; clear hS; obtain ⟨l0, c0_0, c0_1⟩ := At.two A0
              go_wp2
              go_ret
              exact ⟨rfl, hB⟩
        · have HY := Lib.hid (HX.out (fun h => hu (HU.out.symm.trans h.1)))
          go_wp2
          go_roundw
          case rel => exact ⟨q + 1, by omega, by go_num, HY.out, Lib.hid A0, hB⟩
          case measure => simp [intOf]; omega
      · obtain rfl : q = n := by omega
        have hltz : ¬ (q : Int) < (q : Int) := by omega
        have HR := Lib.hid (HNO.out HS.out)
        go_wp2
        go_ret
        exact ⟨ret_int HR.out.symm, hB⟩
  induction hf with
  | none u h => exact key u _ (fun k hk => (An.no_kid h hk).elim) (fun _ => rfl)
  | whole u k h1 h2 => exact key u _ (fun m hm => by obtain rfl := An.kid_eq h1 hm; exact .inl ⟨h2, rfl⟩) (fun h => (An.no_kid h h1).elim)
  | inn u k r h1 h2 _ h4 ih => exact key u _ (fun m hm => by obtain rfl := An.kid_eq h1 hm; exact .inr ⟨h2, r, ih, .inl ⟨h4, rfl⟩⟩) (fun h => (An.no_kid h h1).elim)
  | self u k h1 h2 _ ih => exact key u _ (fun m hm => by obtain rfl := An.kid_eq h1 hm; exact .inr ⟨h2, -1, ih, .inr ⟨rfl, rfl⟩⟩) (fun h => (An.no_kid h h1).elim)

theorem ranpick_any {A : Option Addr} {l : Nat → An.Nd} {n c : Nat} {x y r : Int} (w : World) (hN : Nodes w A l n) (hn : n ≤ 1000) (hr : (An.V l n ∧ An.Picked l n x y r) ∨ (¬ An.V l n ∧ r = -1)) :
    Calls Try.prog 12 #[.slice A n c, .agg #[.int .i64 x, .int .i64 y]] w fun e w' => e = .returned (.int .i64 r) ∧ Below w.heap.size w w' := by
  have HN := Lib.hid hN
  clear hN
  rcases hr with ⟨hv, hr⟩ | ⟨hv, rfl⟩
  · have HV := Lib.hid hv
    have HR := Lib.hid (ranfirst_any (An.picked_first hr) hn)
    clear hv hr
    go_enter Try.func12, Try.ntmps12
    go_upto_region 1 with (fail)
    (generalize hW : World.alloc w _ = W0; have A0 : At W0 (w.heap.size) (.cells #[.int .i64 x, .int .i64 y] 24) := (by ((rw [← hW]) <;> exact At.new' _ (by first | done | rfl | simp))); have hB : Below w.heap.size w W0 := (by ((rw [← hW]) <;> exact Below.alloc' (Below.refl _ _) _)); clear hW; obtain ⟨l0, c0_0, c0_1⟩ := At.two A0)
    go_wp2_with (first
      | (go_at_call 11; with_reducible refine (ranvalid_any (v := true) _ (HN.out.after hB) hn (.inl ⟨rfl, HV.out⟩)).mono ?_; rintro e w5 ⟨rfl, rfl⟩)
      | (go_at_call 19; with_reducible refine (HR.out _ _ _ (HN.out.after hB)).mono ?_; rintro e w' ⟨rfl, hb⟩; (clear l0 c0_0 c0_1); (replace hB := Below.after2 (by first | exact hB | exact Below.alloc' hB _ | exact Below.alloc' (Below.alloc' hB _) _) (Nat.le_refl _) hb); replace A0 := At.keep (by first | exact A0 | exact At.alloc A0 _ | exact At.alloc (At.alloc A0 _) _) hb; clear hb; obtain ⟨l0, c0_0, c0_1⟩ := At.two A0))
    go_ret
    exact ⟨rfl, hB⟩
  · have HV := Lib.hid hv
    clear hv
    go_enter Try.func12, Try.ntmps12
    go_upto_region 1 with (fail)
    (generalize hW : World.alloc w _ = W0; have A0 : At W0 (w.heap.size) (.cells #[.int .i64 x, .int .i64 y] 24) := (by ((rw [← hW]) <;> exact At.new' _ (by first | done | rfl | simp))); have hB : Below w.heap.size w W0 := (by ((rw [← hW]) <;> exact Below.alloc' (Below.refl _ _) _)); clear hW; obtain ⟨l0, c0_0, c0_1⟩ := At.two A0)
    go_wp2_with (go_at_call 11; with_reducible refine (ranvalid_any (v := false) _ (HN.out.after hB) hn (.inr ⟨rfl, HV.out⟩)).mono ?_; rintro e w5 ⟨rfl, rfl⟩)
    go_ret
    exact ⟨rfl, hB⟩

end Go.Proofs.Ytnoofdojbgkmkaa.Fix
