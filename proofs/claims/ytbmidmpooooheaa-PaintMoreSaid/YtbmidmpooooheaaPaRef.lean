/- The document's own answers of painting: Valid, Layer, Find. -/
import Derived.Test.YtbmidmpooooheaaPaWorks
namespace Go.Proofs.Ytbmidmpooooheaa.Fix
open Go.ChangeShapes Go.WideShapes Go.ChangeAt Go.RowKit Go.Deep Go.Joins
set_option linter.unusedVariables false
set_option linter.unusedSimpArgs false
set_option maxRecDepth 100000

theorem pv_more {l : Nat → PNd} {k : Nat} (h : PV l k) (h0 : k = 0 → (l k).up = -1) (h1 : 0 < k → 0 ≤ (l k).up ∧ (l k).up < k ∧ PCh l (l k).up ((k : Int) - 1)) : PV l (k + 1) := fun i hi => by
  rcases (by omega : i < k ∨ i = k) with q | rfl
  · exact h i q
  · exact ⟨h0, h1⟩
theorem pch_low {l : Nat → PNd} {u : Int} (hu : 0 ≤ u) : ¬ PCh l u (-1) := fun h => by
  cases h with
  | refl => omega
  | step h _ => omega

set_option maxHeartbeats 4000000 in
theorem rpvalid_any {w : World} {A : Option Addr} {l : Nat → PNd} {n c : Nat} (h : PSl w A l n c) (hn : n ≤ 1000) : Calls Try.prog 14 #[.slice A n c] w fun e w' => e = .returned (.bool (pvB l n)) ∧ w = w' := by
  obtain ⟨r, hr⟩ : ∃ r, pvB l n = r := ⟨_, rfl⟩
  have hr2 : r = true ↔ PV l n := by rw [← hr]; exact pvB_iff
  rw [hr]
  have HR := Lib.hid hr2
  have HN := Lib.hid h.nodes
  clear hr hr2 h
  go_enter Try.func14, Try.ntmps14
  go_wp2
  go_loop [3, 4] (fun iv av => ∃ k : Nat, k ≤ n ∧ iv = .int .i64 (k : Int) ∧ PV l k) (fun iv _ => n - (intOf iv).toNat)
  case atStart => exact ⟨0, by omega, rfl, fun i hi => absurd hi (by omega)⟩
  case round =>
    obtain ⟨k, hk, rfl, hpk⟩ := hrel
    by_cases hlt : k < n
    · have hltz : (k : Int) < (n : Int) := by omega
      obtain ⟨b, o, rfl, hc⟩ := HN.out.some (by omega)
      have HC := Lib.hid (hc w (Below.refl _ _))
      obtain ⟨ck, _, _⟩ := HC.out k hlt
      have HP := Lib.hid hpk
      clear hc hpk
      have no : Hid (((k = 0 → (l k).up = -1) ∧ (0 < k → 0 ≤ (l k).up ∧ (l k).up < k ∧ PCh l (l k).up ((k : Int) - 1))) ∨ r = false) := Lib.hid (by
        cases hb : r with
        | false => exact .inr rfl
        | true => exact .inl ((HR.out.1 hb) k hlt))
      have yes : Hid ((k = 0 → (l k).up = -1) → (0 < k → 0 ≤ (l k).up ∧ (l k).up < k ∧ PCh l (l k).up ((k : Int) - 1)) → PV l (k + 1)) := Lib.hid fun a b => pv_more HP.out a b
      obtain ⟨u, hu⟩ : ∃ u, (l k).up = u := ⟨_, rfl⟩
      rw [hu] at ck no yes
      clear hu
      by_cases hk0 : k = 0
      · have hkz : ¬ (0 : Int) < (k : Int) := by omega
        have hkb : ((k : Int) == 0) = true := by simp; omega
        by_cases hu1 : u = -1
        · subst hu1
          have hpv := Lib.hid (yes.out (fun _ => rfl) (fun q => absurd q (by omega)))
          subst hk0
          simp only [Nat.zero_mul, Nat.add_zero] at ck
          clear no yes HP
          go_wp2
          refine wp_loop_rounds 1 ?_
          rw [rounds_succ]
          go_wp2
          go_round
          case rel => exact ⟨1, by omega, by go_num, hpv.out⟩
          case measure => simp [intOf]; omega
        · have hub : (u != -1) = true := by simpa using hu1
          have hrf : r = false := no.out.resolve_left fun q => hu1 (q.1 hk0)
          subst hrf
          subst hk0
          simp only [Nat.zero_mul, Nat.add_zero] at ck
          clear no yes HP
          go_wp2
          go_ret
          exact ⟨rfl, rfl⟩
      · have hkz : (0 : Int) < (k : Int) := by omega
        have hkb : ((k : Int) == 0) = false := by simp; omega
        by_cases hu0 : u < 0
        · have hrf : r = false := no.out.resolve_left fun q => by have := (q.2 (by omega)).1; omega
          subst hrf
          clear no yes HP
          go_wp2
          go_ret
          exact ⟨rfl, rfl⟩
        by_cases huk : (k : Int) ≤ u
        · have hrf : r = false := no.out.resolve_left fun q => by have := (q.2 (by omega)).2.1; omega
          subst hrf
          clear no yes HP
          go_wp2
          go_ret
          exact ⟨rfl, rfl⟩
        have hw : IntKind.i64.wrap ((k : Int) - 1) = (k : Int) - 1 := IntWalk.i64_in _ (by omega)
        have HK0 := Lib.hid hk0
        clear hk0
        go_upto_region 7 with (fail)
        go_loop [4] (fun av => ∃ a : Int, av = .int .i64 a ∧ ((∃ y : Nat, a = y ∧ y < k ∧ (PCh l u ((k : Int) - 1) ↔ PCh l u y)) ∨ (a = -1 ∧ ¬ PCh l u ((k : Int) - 1)))) (fun av => (intOf av + 1).toNat)
        case atStart => exact ⟨(k : Int) - 1, rfl, .inl ⟨k - 1, by omega, by omega, by rw [show ((k - 1 : Nat) : Int) = (k : Int) - 1 by omega]⟩⟩
        case round =>
          obtain ⟨a, rfl, hrel⟩ := hrel
          rcases hrel with ⟨y, rfl, hy, hyp⟩ | ⟨rfl, hnp⟩
          · have hy0 : (0 : Int) ≤ (y : Int) := by omega
            by_cases e : (y : Int) = u
            · have hpv := Lib.hid (yes.out (fun q => absurd q HK0.out) (fun _ => ⟨by omega, by omega, hyp.2 (by rw [e]; exact .refl)⟩))
              subst e
              clear no yes HP hyp
              go_wp2
              go_round
              case rel => exact ⟨k + 1, by omega, by go_num, hpv.out⟩
              case measure => simp [intOf]; omega
            · have hyb : ((y : Int) != u) = true := by simpa using e
              obtain ⟨cy, _, _⟩ := HC.out y (by omega)
              have hvy := HP.out y hy
              have hnext : Hid ((PCh l u ((k : Int) - 1) ↔ PCh l u (l y).up)) := Lib.hid (hyp.trans ⟨fun q => by
                cases q with
                | refl => exact absurd rfl e
                | step _ q => exact q, fun q => .step hy0 q⟩)
              clear hyp
              by_cases hy1 : y = 0
              · have := hvy.1 hy1
                rw [this] at cy hnext
                subst hy1
                simp only [Nat.zero_mul, Nat.add_zero] at cy
                clear hvy this
                go_wp2
                go_round
                case rel => exact ⟨-1, rfl, .inr ⟨rfl, fun q => pch_low (by omega) (hnext.out.1 q)⟩⟩
                case measure => simp [intOf]
              · have hv2 := hvy.2 (by omega)
                obtain ⟨v, hv⟩ : ∃ v : Nat, (l y).up = v := ⟨(l y).up.toNat, by omega⟩
                have hvy2 : v < y := by omega
                rw [hv] at cy hnext
                clear hvy hv2 hv
                go_wp2
                go_round
                case rel => exact ⟨v, rfl, .inl ⟨v, rfl, by omega, hnext.out⟩⟩
                case measure => simp [intOf]; omega
          · have hrf : r = false := no.out.resolve_left fun q => hnp (q.2 (by omega)).2.2
            have hub : ((-1 : Int) != u) = true := by simp; omega
            subst hrf
            clear no yes HP hnp
            go_wp2
            go_ret
            exact ⟨rfl, rfl⟩
    · obtain rfl : k = n := by omega
      have hrt : r = true := HR.out.2 hpk
      subst hrt
      go_wp2
      go_ret
      exact ⟨rfl, rfl⟩

/-- the layer from a node on -/
def pfrom (l : Nat → PNd) (y : Nat) : Nat := if y = 0 ∨ ply l y = true then y else pla l y
theorem pfrom_eq {l : Nat → PNd} {n : Nat} (h : PV l n) {y : Nat} (h0 : 0 < y) (hy : y < n) : pla l y = pfrom l (ppu l y) := Pa.lay_eq h.pu h0 hy

set_option maxHeartbeats 4000000 in
theorem rplayer_any {w : World} {A : Option Addr} {l : Nat → PNd} {n c : Nat} (h : PSl w A l n c) (hn : n ≤ 1000) (a : Int) : Calls Try.prog 19 #[.slice A n c, .int .i64 a] w fun e w' => e = .returned (.int .i64 (playI l n a)) ∧ w = w' := by
  have HS := Lib.hid h
  clear h
  by_cases h1 : a ≤ 0
  · have e : playI l n a = -1 := by unfold playI; rw [if_neg (fun q => by omega)]
    rw [e]
    go_enter Try.func19, Try.ntmps19
    go_wp2
    go_ret
    exact ⟨rfl, rfl⟩
  by_cases h2 : (n : Int) ≤ a
  · have e : playI l n a = -1 := by unfold playI; rw [if_neg (fun q => by omega)]
    rw [e]
    go_enter Try.func19, Try.ntmps19
    go_wp2
    go_ret
    exact ⟨rfl, rfl⟩
  cases hv : pvB l n with
  | false =>
    have e : playI l n a = -1 := by unfold playI; rw [if_neg (fun q => by rw [hv] at q; exact absurd q.1 (by simp))]
    rw [e]
    go_enter Try.func19, Try.ntmps19
    go_wp2_with (go_at_call 14; (with_reducible refine (rpvalid_any HS.out hn).mono ?_); rintro e w' ⟨rfl, rfl⟩)
    go_ret
    exact ⟨rfl, rfl⟩
  | true =>
    have HV := Lib.hid (pvB_iff.1 hv)
    obtain ⟨x, rfl⟩ : ∃ x : Nat, a = x := ⟨a.toNat, by omega⟩
    have hx : x < n := by omega
    rw [playI_some HV.out (by omega) hx, pfrom_eq HV.out (by omega) hx]
    have hup := (HV.out x hx).2 (by omega)
    obtain ⟨u, hu⟩ : ∃ u : Nat, (l x).up = u := ⟨(l x).up.toNat, by omega⟩
    have hpu : ppu l x = u := by unfold ppu; rw [hu]; rfl
    have hux : u < x := by omega
    rw [hpu]
    obtain ⟨r, hr⟩ : ∃ r, pfrom l u = r := ⟨_, rfl⟩
    rw [hr]
    have HR := Lib.hid hr
    obtain ⟨b, o, rfl, hc⟩ := HS.out.nodes.some (by omega)
    have HC := Lib.hid (hc w (Below.refl _ _))
    obtain ⟨cx, _, _⟩ := HC.out x hx
    rw [hu] at cx
    clear hc hr hup hu hpu
    go_enter Try.func19, Try.ntmps19
    go_upto_region 4 with (go_at_call 14; (with_reducible refine (rpvalid_any HS.out hn).mono ?_); rintro e w' ⟨rfl, rfl⟩)
    clear cx
    go_loop [5] (fun v => ∃ y : Nat, v = .int .i64 (y : Int) ∧ y < n ∧ pfrom l y = r) (fun v => (intOf v).toNat)
    case atStart => exact ⟨u, rfl, by omega, HR.out⟩
    case round =>
      obtain ⟨y, rfl, hy, hyr⟩ := hrel
      by_cases hy0 : 0 < y
      · have hyz : (0 : Int) < (y : Int) := by omega
        obtain ⟨cy0, cy1, _⟩ := HC.out y hy
        cases hly : (l y).ly with
        | true =>
          have e : y = r := by rw [← hyr]; unfold pfrom; rw [if_pos (.inr hly)]
          rw [hly] at cy1
          subst e
          clear hyr HR cy0
          go_wp2
          go_ret
          exact ⟨rfl, rfl⟩
        | false =>
          have e : pfrom l (ppu l y) = r := by
            rw [← pfrom_eq HV.out hy0 hy, ← hyr]
            unfold pfrom
            rw [if_neg]
            rintro (q | q)
            · omega
            · unfold ply at q; rw [hly] at q; cases q
          have hv2 := (HV.out y hy).2 hy0
          obtain ⟨v, hv3⟩ : ∃ v : Nat, (l y).up = v := ⟨(l y).up.toNat, by omega⟩
          have hpv : ppu l y = v := by unfold ppu; rw [hv3]; rfl
          rw [hpv] at e
          rw [hv3] at cy0
          rw [hly] at cy1
          have hvy : v < y := by omega
          have HE := Lib.hid e
          clear hyr e hv2 hv3 hpv
          go_wp2
          go_round
          case rel => exact ⟨v, rfl, by omega, HE.out⟩
          case measure => simp [intOf]; omega
      · have hyz : ¬ (0 : Int) < (y : Int) := by omega
        have e : y = r := by rw [← hyr]; unfold pfrom; rw [if_pos (.inl (by omega))]
        subst e
        clear hyr HR
        go_wp2
        go_ret
        exact ⟨rfl, rfl⟩

/-- the place of a number in a row -/
theorem rpfind_any {w : World} {A : Option Addr} {o : List Nat} {n c : Nat} (hI : Ints w A (pints o)) (hn : o.length = n) (hn2 : n ≤ 1000) (x r : Int) (hr : (∃ i : Nat, r = i ∧ i < n ∧ ((o.getD i 0 : Nat) : Int) = x ∧ ∀ j, j < i → ((o.getD j 0 : Nat) : Int) ≠ x) ∨ (r = -1 ∧ ∀ j, j < n → ((o.getD j 0 : Nat) : Int) ≠ x)) : Calls Try.prog 13 #[.slice A n c, .int .i64 x] w fun e w' => e = .returned (.int .i64 r) ∧ w = w' := by
  have HI := Lib.hid hI
  have HR := Lib.hid hr
  have HN := Lib.hid hn
  clear hI hr hn
  go_enter Try.func13, Try.ntmps13
  go_wp2
  go_loop [5] (fun iv => ∃ k : Nat, k ≤ n ∧ iv = .int .i64 (k : Int) ∧ ∀ j, j < k → ((o.getD j 0 : Nat) : Int) ≠ x) (fun iv => n - (intOf iv).toNat)
  case atStart => exact ⟨0, by omega, rfl, fun j hj => absurd hj (by omega)⟩
  case round =>
    obtain ⟨k, hk, rfl, hno⟩ := hrel
    by_cases hlt : k < n
    · have hltz : (k : Int) < (n : Int) := by omega
      obtain ⟨b6, o6, rfl, lb6, hcell6⟩ := HI.out.at_ (k := k) (by rw [pints_len, HN.out]; exact hlt)
      rw [pints_getD (by rw [HN.out]; exact hlt)] at hcell6
      by_cases e : ((o.getD k 0 : Nat) : Int) = x
      · have hrk : r = (k : Int) := by
          rcases HR.out with ⟨i, rfl, h1, h2, h3⟩ | ⟨_, h3⟩
          · rcases Nat.lt_trichotomy i k with q | q | q
            · exact absurd h2 (hno i q)
            · omega
            · exact absurd e (h3 k q)
          · exact absurd e (h3 k hlt)
        subst hrk
        rw [e] at hcell6
        clear hno e HR
        go_wp2
        go_ret
        exact ⟨rfl, rfl⟩
      · have hnext : Hid (∀ j, j < k + 1 → ((o.getD j 0 : Nat) : Int) ≠ x) := Lib.hid fun j hj => by
          rcases (by omega : j < k ∨ j = k) with q | rfl
          · exact hno j q
          · exact e
        have heb : (((o.getD k 0 : Nat) : Int) == x) = false := by simpa using e
        generalize o.getD k 0 = y at *
        clear hno e
        go_wp2
        go_round
        case rel => exact ⟨k + 1, by omega, by go_num, hnext.out⟩
        case measure => simp [intOf]; omega
    · obtain rfl : k = n := by omega
      have hr1 : r = -1 := by
        rcases HR.out with ⟨i, _, h1, h2, _⟩ | ⟨q, _⟩
        · exact absurd h2 (hno i h1)
        · exact q
      subst hr1
      clear hno HR
      go_wp2
      go_ret
      exact ⟨rfl, rfl⟩

end Go.Proofs.Ytbmidmpooooheaa.Fix
