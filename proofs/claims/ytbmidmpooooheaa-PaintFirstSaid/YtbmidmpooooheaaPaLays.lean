/- The program's Valid, has, layers, Layer. -/
import Derived.Test.YtbmidmpooooheaaPaRef
namespace Go.Proofs.Ytbmidmpooooheaa.Fix
open Go.ChangeShapes Go.WideShapes Go.ChangeAt Go.RowKit Go.Deep Go.Joins
set_option linter.unusedVariables false
set_option linter.unusedSimpArgs false
set_option maxRecDepth 100000

set_option maxHeartbeats 4000000 in
theorem pvalid_any {w : World} {A : Option Addr} {l : Nat → PNd} {n c : Nat} (h : PSl w A l n c) (hn : n ≤ 1000) : Calls Try.prog 17 #[.slice A n c] w fun e w' => e = .returned (.bool (pvB l n)) ∧ w = w' := by
  obtain ⟨r, hr⟩ : ∃ r, pvB l n = r := ⟨_, rfl⟩
  have hr2 : r = true ↔ PV l n := by rw [← hr]; exact pvB_iff
  rw [hr]
  have HR := Lib.hid hr2
  have HN := Lib.hid h.nodes
  clear hr hr2 h
  by_cases hn0 : n = 0
  · subst hn0
    have hrt : r = true := HR.out.2 fun i hi => absurd hi (by omega)
    subst hrt
    clear HR
    go_enter Try.func17, Try.ntmps17
    go_wp2
    refine wp_loop_rounds 1 ?_
    rw [rounds_succ]
    go_wp2
    go_ret
    exact ⟨rfl, rfl⟩
  obtain ⟨b, o, rfl, hc⟩ := HN.out.some (by omega)
  have HC := Lib.hid (hc w (Below.refl _ _))
  have hnp : (0 : Int) < (n : Int) := by omega
  obtain ⟨c0, _, _⟩ := HC.out 0 (by omega)
  simp only [Nat.zero_mul, Nat.add_zero] at c0
  have no0 : r = true → (l 0).up = -1 := fun q => (HR.out.1 q 0 (by omega)).1 rfl
  obtain ⟨u0, hu0⟩ : ∃ u, (l 0).up = u := ⟨_, rfl⟩
  rw [hu0] at c0 no0
  have HU0 := Lib.hid hu0
  clear hc hu0
  by_cases hu1 : ¬ u0 = -1
  · have hub : (u0 != -1) = true := by simpa using hu1
    have hrf : r = false := by cases r; rfl; exact absurd (no0 rfl) hu1
    subst hrf
    clear no0 HR
    go_enter Try.func17, Try.ntmps17
    go_wp2
    go_ret
    exact ⟨rfl, rfl⟩
  have hu2 : u0 = -1 := by omega
  subst hu2
  clear no0 hu1
  go_enter Try.func17, Try.ntmps17
  go_wp2
  clear c0 hnp
  go_loop [3, 4] (fun iv _ => ∃ k : Nat, 1 ≤ k ∧ k ≤ n ∧ iv = .int .i64 (k : Int) ∧ Hid (PV l k)) (fun iv _ => n - (intOf iv).toNat)
  case atStart => exact ⟨1, by omega, by omega, rfl, Lib.hid fun i hi => ⟨fun q => by subst q; exact HU0.out, fun q => absurd q (by omega)⟩⟩
  case round =>
    obtain ⟨k, hk1, hk, rfl, HP⟩ := hrel
    by_cases hlt : k < n
    · have hltz : (k : Int) < (n : Int) := by omega
      obtain ⟨ck, _, _⟩ := HC.out k hlt
      have no : Hid (0 ≤ (l k).up ∧ (l k).up < k ∧ PCh l (l k).up ((k : Int) - 1) ∨ r = false) := Lib.hid (by
        cases hb : r with
        | false => exact .inr rfl
        | true => exact .inl (((HR.out.1 hb) k hlt).2 (by omega)))
      have yes : Hid (0 ≤ (l k).up ∧ (l k).up < k ∧ PCh l (l k).up ((k : Int) - 1) → PV l (k + 1)) := Lib.hid fun a => pv_more HP.out (fun q => by omega) (fun _ => a)
      obtain ⟨u, hu⟩ : ∃ u, (l k).up = u := ⟨_, rfl⟩
      rw [hu] at ck no yes
      clear hu
      have hw : IntKind.i64.wrap ((k : Int) - 1) = ((k - 1 : Nat) : Int) := by rw [IntWalk.i64_in _ (by omega)]; omega
      obtain ⟨k1, q1, q2⟩ : ∃ k1, k1 + 1 ≤ k ∧ k ≤ k1 + 1 := ⟨k - 1, by omega, by omega⟩
      have HK1 : Hid (k - 1 = k1) := Lib.hid (by omega)
      rw [HK1.out] at hw
      go_upto_region 7 with (fail)
      go_loop [4] (fun av => ∃ y : Nat, av = .int .i64 (y : Int) ∧ y ≤ k1 ∧ Hid (PCh l u ((k : Int) - 1) ↔ PCh l u y)) (fun av => (intOf av).toNat)
      case atStart => exact ⟨k1, rfl, Nat.le_refl _, Lib.hid (by rw [show ((k1 : Nat) : Int) = (k : Int) - 1 by omega])⟩
      case round =>
        obtain ⟨y, rfl, hy, hyp⟩ := hrel
        have hyn : y < n := by omega
        have hy0 : (0 : Int) ≤ (y : Int) := by omega
        by_cases e : (y : Int) = u
        · have hpv := Lib.hid (yes.out ⟨by omega, by omega, hyp.out.2 (by rw [e]; exact .refl)⟩)
          have hyb : ((y : Int) != u) = false := by simpa using e
          subst e
          clear no yes HP hyp
          go_wp2
          go_round
          case rel => exact ⟨k + 1, by omega, by omega, by go_num, hpv⟩
          case measure => simp [intOf]; omega
        · have hyb : ((y : Int) != u) = true := by simpa using e
          obtain ⟨cy, _, _⟩ := HC.out y hyn
          have hvy := HP.out y (by omega)
          have hnext : Hid ((PCh l u ((k : Int) - 1) ↔ PCh l u (l y).up)) := Lib.hid (hyp.out.trans ⟨fun q => by
            cases q with
            | refl => exact absurd rfl e
            | step _ q => exact q, fun q => .step hy0 q⟩)
          clear hyp
          by_cases hy1 : y = 0
          · have := hvy.1 hy1
            rw [this] at cy hnext
            have hrf : r = false := no.out.resolve_left fun q => pch_low q.1 (hnext.out.1 q.2.2)
            subst hrf
            subst hy1
            clear no yes HP hnext hvy this
            go_wp2
            go_ret
            exact ⟨rfl, rfl⟩
          · have hv2 := hvy.2 (by omega)
            have hyz : ((y : Int) == 0) = false := by simp; omega
            obtain ⟨v, hv⟩ : ∃ v : Nat, (l y).up = v := ⟨(l y).up.toNat, by omega⟩
            have hvy2 : v < y := by omega
            rw [hv] at cy hnext
            clear hvy hv2 hv
            go_wp2
            go_round
            case rel => exact ⟨v, rfl, by omega, hnext⟩
            case measure => simp [intOf]; omega
    · obtain rfl : k = n := by omega
      have hrt : r = true := HR.out.2 HP.out
      subst hrt
      go_wp2
      go_ret
      exact ⟨rfl, rfl⟩

noncomputable def phasB (l : Nat → PNd) (n : Nat) (a : Int) : Bool := decide (0 ≤ a) && (decide (a < n) && pvB l n)

theorem phas_any {w : World} {A : Option Addr} {l : Nat → PNd} {n c : Nat} (h : PSl w A l n c) (hn : n ≤ 1000) (a : Int) : Calls Try.prog 23 #[.slice A n c, .int .i64 a] w fun e w' => e = .returned (.bool (phasB l n a)) ∧ w = w' := by
  have HS := Lib.hid h
  clear h
  unfold phasB
  generalize hv : pvB l n = r at *
  have HV := Lib.hid hv
  clear hv
  by_cases h1 : 0 ≤ a
  · by_cases h2 : a < (n : Int)
    · have e : (decide (0 ≤ a) && (decide (a < n) && r)) = r := by simp [h1, h2]
      rw [e]
      clear e
      go_enter Try.func23, Try.ntmps23
      go_wp2_with (go_at_call 17; (with_reducible refine (pvalid_any HS.out hn).mono ?_); rintro e w' ⟨rfl, rfl⟩; rw [HV.out])
      go_ret
      exact ⟨rfl, rfl⟩
    · have e : (decide (0 ≤ a) && (decide (a < n) && r)) = false := by simp [h2]
      rw [e]
      clear e
      go_enter Try.func23, Try.ntmps23
      go_wp2
      go_ret
      exact ⟨rfl, rfl⟩
  · have e : (decide (0 ≤ a) && (decide (a < n) && r)) = false := by simp [h1]
    rw [e]
    clear e
    go_enter Try.func23, Try.ntmps23
    go_wp2
    go_ret
    exact ⟨rfl, rfl⟩

/-- the layers as the program keeps them -/
def laI (l : Nat → PNd) (i : Nat) : Int := if i = 0 then -1 else pla l i

set_option maxHeartbeats 4000000 in
theorem players_any {w : World} {A : Option Addr} {l : Nat → PNd} {n c : Nat} (h : PSl w A l n c) (hv : PV l n) (hn : n ≤ 1000) : Calls Try.prog 27 #[.slice A n c] w fun e w' => (∃ b, e = .returned (.slice (some ⟨b, 0, none⟩) n n) ∧ w.heap.size ≤ b ∧ At w' b (.cells (stRow (laI l) n n) 3)) ∧ Below w.heap.size w w' := by
  obtain ⟨i0, hi0, hz0, hz1, hz2⟩ := info_parts intZero
  have HN := Lib.hid h.nodes
  have HV := Lib.hid hv
  clear h hv
  go_enter Try.func27, Try.ntmps27
  go_wp2_with (at_make; refine wpList_make_row _ rfl _ _ 26 rfl 3 i0 (.int .i64 0) Try.underlying26 hi0 hz0 hz1 rfl .i64 .i64 n rfl rfl (by rw [hz2]; omega) (by omega) ?_)
  obtain ⟨b, hsz⟩ : ∃ b, w.heap.size = b := ⟨_, rfl⟩
  have hB1 : Below w.heap.size w (w.alloc (.cells (stRow (laI l) n 0) 3)) := Below.alloc' (Below.refl _ _) _
  have A1 : At (w.alloc (.cells (stRow (laI l) n 0) 3)) b (.cells (stRow (laI l) n 0) 3) := At.new' _ hsz.symm
  rw [hsz, stRow_made (laI l)]
  generalize w.alloc (.cells (stRow (laI l) n 0) 3) = W2 at *
  go_loopw [4, 11] (fun _ vi wr => ∃ k : Nat, k ≤ n ∧ vi = .int .i64 k ∧ At wr b (.cells (stRow (laI l) n k) 3) ∧ Below w.heap.size w wr) (fun _ vi _ => n - (intOf vi).toNat)
  case atStart => exact ⟨0, by omega, rfl, A1, hB1⟩
  case round =>
    clear A1 hB1
    obtain ⟨k, hk, rfl, A1, hB⟩ := hrel
    by_cases hlt : k < n
    · have hltz : (k : Int) < (n : Int) := by omega
      obtain ⟨ba, oa, rfl, lba, c0, c1, c2⟩ := (HN.out.after hB).at_ hlt
      have hvk := HV.out k hlt
      have HP : Hid (0 < k → pla l k = pfrom l (ppu l k)) := Lib.hid fun q => pfrom_eq HV.out q hlt
      unfold ppu at HP
      obtain ⟨u, hu⟩ : ∃ u, (l k).up = u := ⟨_, rfl⟩
      rw [hu] at c0 hvk HP
      clear hu
      generalize (l k).ly = lyk at *
      generalize (l k).z = zk at *
      go_upto_region 5 with (fail)
      generalize hW : World.alloc _ _ = W1
      obtain ⟨nb, hnb⟩ : ∃ nb, wr.heap.size = nb := ⟨_, rfl⟩
      have B0 : At W1 nb (.cells #[.int .i64 u, .bool lyk, .int .i64 zk] 39) := hW ▸ At.new' _ hnb.symm
      rw [hnb]
      have A2 : At W1 b (.cells (stRow (laI l) n k) 3) := hW ▸ A1.alloc _
      have hB2 : Below w.heap.size w W1 := hW ▸ Below.alloc' hB _
      have hne : nb ≠ b := by have := A1.lt; omega
      clear hW A1 hB c0 c1 c2 lba hnb
      have b0 := B0.cell 0
      simp only [List.getElem?_toArray, List.getElem?_cons_zero] at b0
      have lnb := B0.lt
      have lb := A2.lt
      have zb := A2.thaw k
      have cb := A2.cell k
      rw [stRow_get _ hlt] at cb
      go_upto_region 6 with (fail)
      generalize hW5 : World.setCell _ _ _ = W5
      have A3 : At W5 b (.cells ((stRow (laI l) n k).setIfInBounds k (.int .i64 u)) 3) := hW5 ▸ A2.set k _
      have B1 : At W5 nb (.cells #[.int .i64 u, .bool lyk, .int .i64 zk] 39) := hW5 ▸ B0.off hne _ _
      have hB3 : Below w.heap.size w W5 := hW5 ▸ Below.setCell hB2 (Nat.le_of_eq hsz) _
      clear hW5 A2 B0 hB2 b0 lnb lb zb cb
      have b0 := B1.cell 0
      simp only [List.getElem?_toArray, List.getElem?_cons_zero] at b0
      have lnb := B1.lt
      have lb := A3.lt
      by_cases hu0 : 0 < u
      · have hk0 : 0 < k := by
          rcases Nat.eq_zero_or_pos k with e | e
          · have := hvk.1 e; omega
          · exact e
        have hv2 := hvk.2 hk0
        obtain ⟨y, rfl⟩ : ∃ y : Nat, u = y := ⟨u.toNat, by omega⟩
        have hyk : y < k := by omega
        have hyn : y < n := by omega
        have hyp := HP.out hk0
        rw [Int.toNat_natCast] at hyp
        obtain ⟨ba', oa', ea, lba, c0, c1, c2⟩ := (HN.out.after hB3).at_ hyn
        injection ea with ea
        injection ea with ea1 ea2
        subst ea1 ea2
        cases hly : (l y).ly with
        | true =>
          rw [hly] at c1
          have HL : Hid (laI l k = y) := Lib.hid (by unfold laI; rw [if_neg (by omega), hyp]; unfold pfrom ply; rw [if_pos (.inr hly)])
          clear hyp hv2 hvk HP
          go_wp2
          go_roundw
          case rel => exact ⟨k + 1, by omega, by go_num, by rw [← stRow_set _ hlt, HL.out]; exact A3, hB3⟩
          case measure => simp [intOf]; omega
        | false =>
          rw [hly] at c1
          have HL : Hid (laI l k = laI l y) := Lib.hid (by unfold laI; rw [if_neg (by omega), if_neg (by omega), hyp]; unfold pfrom ply; rw [if_neg (fun q => by rcases q with q | q; omega; rw [hly] at q; cases q)])
          clear hyp hv2 hvk HP
          have cy := A3.cell y
          rw [Array.getElem?_setIfInBounds_ne (by omega), stRow_get _ hyn, if_pos hyk] at cy
          have zb := A3.thaw k
          have cb := A3.cell k
          rw [Array.getElem?_setIfInBounds_self_of_lt (by rw [stRow_size]; exact hlt)] at cb
          obtain ⟨q, hq⟩ : ∃ q, laI l y = q := ⟨_, rfl⟩
          rw [hq] at cy HL
          clear hq
          go_upto_region 8 with (fail)
          generalize hW6 : World.setCell _ _ _ = W6
          have A4 : At W6 b (.cells (((stRow (laI l) n k).setIfInBounds k (.int .i64 (y : Int))).setIfInBounds k (.int .i64 q)) 3) := hW6 ▸ A3.set k _
          have hB4 : Below w.heap.size w W6 := hW6 ▸ Below.setCell hB3 (Nat.le_of_eq hsz) _
          rw [Array.setIfInBounds_setIfInBounds] at A4
          clear hW6 A3 B1 hB3 b0 lnb lb zb cb cy c0 c1 c2 lba
          go_wp2
          go_roundw
          case rel => exact ⟨k + 1, by omega, by go_num, by rw [← stRow_set _ hlt, HL.out]; exact A4, hB4⟩
          case measure => simp [intOf]; omega
      · have HL : Hid (laI l k = u) := Lib.hid (by
          unfold laI
          split
          · rename_i e; exact (hvk.1 e).symm
          · rename_i e
            have h2 := hvk.2 (by omega)
            obtain rfl : u = 0 := by omega
            rw [HP.out (by omega)]
            rfl)
        clear hvk HP
        go_wp2
        go_roundw
        case rel => exact ⟨k + 1, by omega, by go_num, by rw [← stRow_set _ hlt, HL.out]; exact A3, hB3⟩
        case measure => simp [intOf]; omega
    · obtain rfl : k = n := by omega
      go_wp2
      go_ret
      exact ⟨⟨b, rfl, Nat.le_of_eq hsz, A1⟩, hB⟩

theorem player_any {w : World} {A : Option Addr} {l : Nat → PNd} {n c : Nat} (h : PSl w A l n c) (hn : n ≤ 1000) (a : Int) : Calls Try.prog 18 #[.slice A n c, .int .i64 a] w fun e w' => e = .returned (.int .i64 (playI l n a)) ∧ Below w.heap.size w w' := by
  have HS := Lib.hid h
  clear h
  obtain ⟨r, hr⟩ : ∃ r, phasB l n a = r := ⟨_, rfl⟩
  cases r with
  | false =>
    have e : playI l n a = -1 := by
      unfold playI
      rw [if_neg]
      rintro ⟨h1, h2, h3⟩
      unfold phasB at hr
      rw [h1] at hr
      simp at hr
      omega
    rw [e]
    clear e
    have HR := Lib.hid hr
    clear hr
    go_enter Try.func18, Try.ntmps18
    go_wp2_with (go_at_call 23; (with_reducible refine (phas_any HS.out hn a).mono ?_); rintro e w' ⟨rfl, rfl⟩; rw [HR.out])
    go_ret
    exact ⟨rfl, Below.refl _ _⟩
  | true =>
    have h1 : 0 ≤ a ∧ a < n ∧ pvB l n = true := by
      unfold phasB at hr
      simp at hr
      exact hr
    obtain ⟨i, rfl⟩ : ∃ i : Nat, a = i := ⟨a.toNat, by omega⟩
    have hi : i < n := by omega
    have HV := Lib.hid (pvB_iff.1 h1.2.2)
    have e : playI l n i = laI l i := by
      unfold playI laI
      by_cases h0 : i = 0
      · rw [if_pos h0, if_neg (by omega)]
      · rw [if_neg h0, if_pos ⟨h1.2.2, by omega, by omega⟩, Int.toNat_natCast]
    rw [e]
    obtain ⟨q, hq⟩ : ∃ q, laI l i = q := ⟨_, rfl⟩
    rw [hq]
    have HQ := Lib.hid hq
    have HR := Lib.hid hr
    clear hr e h1 hq
    go_enter Try.func18, Try.ntmps18
    go_upto_region 3 with (go_at_call 23; (with_reducible refine (phas_any HS.out hn _).mono ?_); rintro e w' ⟨rfl, rfl⟩; rw [HR.out])
    go_wp2_with (go_at_call 27; (with_reducible refine (players_any HS.out HV.out hn).mono ?_); rintro e w' ⟨⟨b, rfl, hbl, hA⟩, hB⟩; have cb := hA.cell i; rw [stRow_get _ hi, if_pos hi] at cb; have lb := hA.lt; rw [HQ.out] at cb)
    go_ret
    exact ⟨rfl, hB⟩

end Go.Proofs.Ytbmidmpooooheaa.Fix
