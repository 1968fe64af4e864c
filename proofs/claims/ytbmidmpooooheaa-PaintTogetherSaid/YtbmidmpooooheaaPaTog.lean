/- The statement PaintTogether, walked. -/
import Derived.Test.YtbmidmpooooheaaPaZ
namespace Go.Proofs.Ytbmidmpooooheaa.Fix
open Go.ChangeShapes Go.WideShapes Go.ChangeAt Go.RowKit Go.Deep Go.Joins
set_option linter.unusedVariables false
set_option linter.unusedSimpArgs false
set_option maxRecDepth 100000

theorem painside_any {w : World} {A : Option Addr} {l : Nat → PNd} {n c : Nat} (h : PSl w A l n c) (H : PV l n) (hn : n ≤ 50) {a x : Nat} (ha : a < n) (hx : x < n) (r : Bool) (hr : r = true ↔ Pa.R (ppu l) a x) : Calls Try.prog 21 #[.slice A n c, .int .i64 (a : Int), .int .i64 (x : Int)] w fun e w' => e = .returned (.bool r) ∧ w = w' := by
  obtain ⟨b, o, rfl, hc⟩ := h.nodes.some (by omega)
  have HC := Lib.hid (hc w (Below.refl _ _))
  have HR := Lib.hid hr
  have HV := Lib.hid H
  clear h hc hr H
  go_enter Try.func21, Try.ntmps21
  go_wp2
  go_loop [2] (fun v => (∃ y : Nat, v = .int .i64 (y : Int) ∧ y < n ∧ (r = true ↔ Pa.R (ppu l) a y)) ∨ (v = .int .i64 (-1) ∧ r = false)) (fun v => (intOf v + 1).toNat)
  case atStart => exact .inl ⟨x, rfl, hx, HR.out⟩
  case round =>
    rcases hrel with ⟨y, rfl, hy, hyr⟩ | ⟨rfl, rfl⟩
    · have hy0 : (0 : Int) ≤ (y : Int) := by omega
      by_cases e : y = a
      · subst e
        have : r = true := hyr.2 .refl
        subst this
        go_wp2
        go_ret
        exact ⟨rfl, rfl⟩
      · have hyb : ((y : Int) != (a : Int)) = true := by simp; omega
        obtain ⟨c0, c1, c2⟩ := HC.out y hy
        by_cases h0 : y = 0
        · have hup := (HV.out y hy).1 h0
          have hrf : r = false := by
            cases hb : r with
            | false => rfl
            | true =>
              have := hyr.1 hb
              cases this with
              | refl => exact absurd rfl e
              | step q _ => omega
          rw [hup] at c0
          clear c1 c2 hyr hup h0
          go_wp2
          go_round
          case rel => exact .inr ⟨rfl, hrf⟩
          case measure => simp [intOf] <;> omega
        · have hup := (HV.out y hy).2 (by omega)
          obtain ⟨u, hu⟩ : ∃ u : Nat, (l y).up = u := ⟨(l y).up.toNat, by omega⟩
          have huy : u < y := by omega
          have hpu : ppu l y = u := by unfold ppu; rw [hu]; rfl
          have hnext : Hid (r = true ↔ Pa.R (ppu l) a u) := Lib.hid (hyr.trans ⟨fun q => by
            cases q with
            | refl => exact absurd rfl e
            | step _ q => rw [hpu] at q; exact q, fun q => .step (by omega) (by rw [hpu]; exact q)⟩)
          rw [hu] at c0
          clear c1 c2 hyr hup hpu hu
          go_wp2
          go_round
          case rel => exact .inl ⟨u, rfl, by omega, hnext.out⟩
          case measure => simp [intOf]; omega
    · have hab : ((-1 : Int) == (a : Int)) = false := by simp <;> omega
      go_wp2
      go_ret
      exact ⟨rfl, rfl⟩

set_option maxHeartbeats 8000000 in
theorem patog_core (C : PaintCode) (A : Option Addr) (n c : Nat) (l : Nat → PNd) (a : Nat) (w : World) (hS : PSl w A l n c) (hbig : ¬ (40 : Int) < (n : Int)) (hv : pvB l n = true) (ha : a < n) (hl : Pa.Lay (ply l) a) : Calls Try.prog 5 #[.slice A n c, .int .i64 (a : Int)] w fun e w' => e = .returned (.bool true) ∧ Below w.heap.size w w' := by
  have hn50 : n ≤ 50 := by omega
  have HV := Lib.hid (pvB_iff.1 hv)
  have h1 : ¬ (a : Int) < 0 := by omega
  have h3 : ¬ (n : Int) ≤ (a : Int) := by omega
  obtain ⟨b, o, rfl, hc⟩ := hS.nodes.some (by omega)
  have HC := Lib.hid hc
  have HS := Lib.hid hS
  clear hc hS
  obtain ⟨p, m, hm, hpm, hat, hR⟩ := Pa.together (z := pz l) HV.out.ok ha hl
  have HR : Hid (∀ i x, (pord l n)[i]? = some x → (Pa.R (ppu l) a x ↔ p ≤ i ∧ i < p + m)) := Lib.hid fun i x hi => by
    rw [pord_some HV.out] at hi
    have hxn : x < n := (Pa.mem_order HV.out.ok).1 (List.mem_of_getElem? hi)
    rw [← hR i x hi]
    exact (Pa.r_lay HV.out.pu hxn hl).symm
  rw [← pord_some HV.out] at hat
  have HAT := Lib.hid hat
  have HL := Lib.hid (pord_len HV.out)
  have HMEM : Hid (∀ x, x ∈ pord l n → x < n) := Lib.hid fun x hx => (pord_mem HV.out).1 hx
  have KO := Lib.hid fun W (hb : Below w.heap.size w W) => C.order W _ l n c (HS.out.after hb) hn50
  rw [HL.out] at KO
  clear hR hat
  have hlz : Hid (0 < a → (l a).ly = true) := Lib.hid fun q => hl.resolve_left (by omega)
  clear hl
  go_enter Try.func5, Try.ntmps5
  by_cases h0 : 0 < a
  · have h0z : (0 : Int) < (a : Int) := by omega
    have hly := hlz.out h0
    go_upto_region 7 with (first | (go_at_call 10; (with_reducible refine (paworks_any C _).mono ?_); rintro e w1 ⟨rfl, hB⟩) | (go_at_call 17; (with_reducible refine (C.valid _ _ l n c (HS.out.after hB) hn50).mono ?_); rintro e w1 ⟨rfl, hb⟩; replace hB := hB.trans (hb.mono hB.size); clear hb; obtain ⟨cx0, cx1, cx2⟩ := HC.out _ hB a ha; rw [hly] at cx1; clear cx0 cx2) | (go_at_call 16; (with_reducible refine (KO.out _ hB).mono ?_); rintro e w1 ⟨⟨B, d, rfl, hI⟩, hb⟩; replace hB := hB.trans (hb.mono hB.size); clear hb))
    have HI := Lib.hid hI
    have HSB := Lib.hid (HS.out.after hB)
    clear hI KO
    generalize pord l n = od at *
    go_wp2
    go_loop [7, 8, 9, 10] (fun fv gv nv iv => ∃ (k : Nat) (f g cn : Int), k ≤ n ∧ iv = .int .i64 (k : Int) ∧ fv = .int .i64 f ∧ gv = .int .i64 g ∧ nv = .int .i64 cn ∧ ((k ≤ p ∧ f = -1 ∧ g = -1 ∧ cn = 0) ∨ (p < k ∧ k ≤ p + m ∧ f = p ∧ g = (k : Int) - 1 ∧ cn = (k : Int) - p) ∨ (p + m < k ∧ f = p ∧ g = (p : Int) + m - 1 ∧ cn = m))) (fun _ _ _ iv => n - (intOf iv).toNat)
    case atStart => exact ⟨0, -1, -1, 0, by omega, rfl, rfl, rfl, rfl, .inl ⟨by omega, rfl, rfl, rfl⟩⟩
    case round =>
      obtain ⟨k, f, g, cn, hk, rfl, rfl, rfl, rfl, hrel⟩ := hrel
      by_cases hlt : k < n
      · have hltz : (k : Int) < (n : Int) := by omega
        obtain ⟨b6, o6, rfl, lb6, hcell6⟩ := HI.out.at_ (k := k) (by rw [pints_len, HL.out]; exact hlt)
        rw [pints_getD (by rw [HL.out]; exact hlt)] at hcell6
        have hx : od[k]? = some (od.getD k 0) := by rw [List.getD, List.getElem?_eq_getElem (by rw [HL.out]; exact hlt)]; rfl
        generalize od.getD k 0 = x at *
        have hrk := HR.out k x hx
        have hxn : x < n := HMEM.out x (List.mem_of_getElem? hx)
        by_cases hin : p ≤ k ∧ k < p + m
        · have kin := painside_any HSB.out HV.out hn50 ha hxn true ⟨fun _ => hrk.2 hin, fun _ => rfl⟩
          clear hrk hx
          have hwc : IntKind.i64.wrap (cn + 1) = cn + 1 := IntWalk.i64_in _ (by omega)
          by_cases hf : f < 0
          · have HREL := Lib.hid hrel
            clear hrel
            go_wp2_with (go_at_call 21; (with_reducible refine kin.mono ?_); rintro e w' ⟨rfl, rfl⟩)
            go_round
            case rel => have hrel := HREL.out; exact ⟨k + 1, k, k, cn + 1, by omega, by go_num, rfl, rfl, rfl, by omega⟩
            case measure => simp [intOf]; omega
          · have HREL := Lib.hid hrel
            clear hrel
            go_wp2_with (go_at_call 21; (with_reducible refine kin.mono ?_); rintro e w' ⟨rfl, rfl⟩)
            go_round
            case rel => have hrel := HREL.out; exact ⟨k + 1, f, k, cn + 1, by omega, by go_num, rfl, rfl, rfl, by omega⟩
            case measure => simp [intOf]; omega
        · have kin := painside_any HSB.out HV.out hn50 ha hxn false ⟨fun q => (by cases q), fun q => absurd (hrk.1 q) hin⟩
          have HREL := Lib.hid hrel
          clear hrk hx hrel
          go_wp2_with (go_at_call 21; (with_reducible refine kin.mono ?_); rintro e w' ⟨rfl, rfl⟩)
          go_round
          case rel => have hrel := HREL.out; exact ⟨k + 1, f, g, cn, by omega, by go_num, rfl, rfl, rfl, by omega⟩
          case measure => simp [intOf]; omega
      · obtain rfl : k = n := by omega
        obtain ⟨e1, e2, e3⟩ : f = (p : Int) ∧ g = (p : Int) + m - 1 ∧ cn = (m : Int) := by omega
        obtain ⟨b6, o6, rfl, lb6, hcell6⟩ := HI.out.at_ (k := p) (by rw [pints_len, HL.out]; omega)
        rw [pints_getD (by rw [HL.out]; omega)] at hcell6
        have hx : od[p]? = some (od.getD p 0) := by rw [List.getD, List.getElem?_eq_getElem (by rw [HL.out]; omega)]; rfl
        rw [HAT.out] at hx
        injection hx with hx
        rw [← hx] at hcell6
        clear hrel hx
        subst e1 e2 e3
        have hmz : (0 : Int) < (m : Int) := by omega
        have hw1 : IntKind.i64.wrap ((p : Int) + m - 1 - p) = (m : Int) - 1 := by rw [IntWalk.i64_in _ (by omega)]; omega
        have hw2 : IntKind.i64.wrap ((m : Int) - 1 + 1) = (m : Int) := by rw [IntWalk.i64_in _ (by omega)]; omega
        have hpk : (p : Int) < (k : Int) := by omega
        have hpk2 : p < k := by omega
        go_wp2
        go_ret; exact ⟨rfl, hB⟩
  · have h0z : ¬ (0 : Int) < (a : Int) := by omega
    go_upto_region 7 with (first | (go_at_call 10; (with_reducible refine (paworks_any C _).mono ?_); rintro e w1 ⟨rfl, hB⟩) | (go_at_call 17; (with_reducible refine (C.valid _ _ l n c (HS.out.after hB) hn50).mono ?_); rintro e w1 ⟨rfl, hb⟩; replace hB := hB.trans (hb.mono hB.size); clear hb) | (go_at_call 16; (with_reducible refine (KO.out _ hB).mono ?_); rintro e w1 ⟨⟨B, d, rfl, hI⟩, hb⟩; replace hB := hB.trans (hb.mono hB.size); clear hb))
    have HI := Lib.hid hI
    have HSB := Lib.hid (HS.out.after hB)
    clear hI KO
    generalize pord l n = od at *
    go_wp2
    go_loop [7, 8, 9, 10] (fun fv gv nv iv => ∃ (k : Nat) (f g cn : Int), k ≤ n ∧ iv = .int .i64 (k : Int) ∧ fv = .int .i64 f ∧ gv = .int .i64 g ∧ nv = .int .i64 cn ∧ ((k ≤ p ∧ f = -1 ∧ g = -1 ∧ cn = 0) ∨ (p < k ∧ k ≤ p + m ∧ f = p ∧ g = (k : Int) - 1 ∧ cn = (k : Int) - p) ∨ (p + m < k ∧ f = p ∧ g = (p : Int) + m - 1 ∧ cn = m))) (fun _ _ _ iv => n - (intOf iv).toNat)
    case atStart => exact ⟨0, -1, -1, 0, by omega, rfl, rfl, rfl, rfl, .inl ⟨by omega, rfl, rfl, rfl⟩⟩
    case round =>
      obtain ⟨k, f, g, cn, hk, rfl, rfl, rfl, rfl, hrel⟩ := hrel
      by_cases hlt : k < n
      · have hltz : (k : Int) < (n : Int) := by omega
        obtain ⟨b6, o6, rfl, lb6, hcell6⟩ := HI.out.at_ (k := k) (by rw [pints_len, HL.out]; exact hlt)
        rw [pints_getD (by rw [HL.out]; exact hlt)] at hcell6
        have hx : od[k]? = some (od.getD k 0) := by rw [List.getD, List.getElem?_eq_getElem (by rw [HL.out]; exact hlt)]; rfl
        generalize od.getD k 0 = x at *
        have hrk := HR.out k x hx
        have hxn : x < n := HMEM.out x (List.mem_of_getElem? hx)
        by_cases hin : p ≤ k ∧ k < p + m
        · have kin := painside_any HSB.out HV.out hn50 ha hxn true ⟨fun _ => hrk.2 hin, fun _ => rfl⟩
          clear hrk hx
          have hwc : IntKind.i64.wrap (cn + 1) = cn + 1 := IntWalk.i64_in _ (by omega)
          by_cases hf : f < 0
          · have HREL := Lib.hid hrel
            clear hrel
            go_wp2_with (go_at_call 21; (with_reducible refine kin.mono ?_); rintro e w' ⟨rfl, rfl⟩)
            go_round
            case rel => have hrel := HREL.out; exact ⟨k + 1, k, k, cn + 1, by omega, by go_num, rfl, rfl, rfl, by omega⟩
            case measure => simp [intOf]; omega
          · have HREL := Lib.hid hrel
            clear hrel
            go_wp2_with (go_at_call 21; (with_reducible refine kin.mono ?_); rintro e w' ⟨rfl, rfl⟩)
            go_round
            case rel => have hrel := HREL.out; exact ⟨k + 1, f, k, cn + 1, by omega, by go_num, rfl, rfl, rfl, by omega⟩
            case measure => simp [intOf]; omega
        · have kin := painside_any HSB.out HV.out hn50 ha hxn false ⟨fun q => (by cases q), fun q => absurd (hrk.1 q) hin⟩
          have HREL := Lib.hid hrel
          clear hrk hx hrel
          go_wp2_with (go_at_call 21; (with_reducible refine kin.mono ?_); rintro e w' ⟨rfl, rfl⟩)
          go_round
          case rel => have hrel := HREL.out; exact ⟨k + 1, f, g, cn, by omega, by go_num, rfl, rfl, rfl, by omega⟩
          case measure => simp [intOf]; omega
      · obtain rfl : k = n := by omega
        obtain ⟨e1, e2, e3⟩ : f = (p : Int) ∧ g = (p : Int) + m - 1 ∧ cn = (m : Int) := by omega
        obtain ⟨b6, o6, rfl, lb6, hcell6⟩ := HI.out.at_ (k := p) (by rw [pints_len, HL.out]; omega)
        rw [pints_getD (by rw [HL.out]; omega)] at hcell6
        have hx : od[p]? = some (od.getD p 0) := by rw [List.getD, List.getElem?_eq_getElem (by rw [HL.out]; omega)]; rfl
        rw [HAT.out] at hx
        injection hx with hx
        rw [← hx] at hcell6
        clear hrel hx
        subst e1 e2 e3
        have hmz : (0 : Int) < (m : Int) := by omega
        have hw1 : IntKind.i64.wrap ((p : Int) + m - 1 - p) = (m : Int) - 1 := by rw [IntWalk.i64_in _ (by omega)]; omega
        have hw2 : IntKind.i64.wrap ((m : Int) - 1 + 1) = (m : Int) := by rw [IntWalk.i64_in _ (by omega)]; omega
        have hpk : (p : Int) < (k : Int) := by omega
        have hpk2 : p < k := by omega
        go_wp2
        go_ret; exact ⟨rfl, hB⟩

set_option maxHeartbeats 8000000 in
theorem patog_walk (C : PaintCode) (a0 : Option Addr) (len0 cap0 : Nat) (a1 : Int) (w : World) (w0 : PRow w a0 len0 cap0) : Calls Try.prog 5 #[.slice a0 len0 cap0, .int .i64 a1] w fun e w' => e = .returned (.bool true) ∧ Below w.heap.size w w' := by
  obtain ⟨l, hS⟩ := w0.sl
  have hn63 := w0.cap
  clear w0
  generalize len0 = n at *
  generalize cap0 = c at *
  have HS := Lib.hid hS
  by_cases hbig : (40 : Int) < (n : Int)
  · clear hS
    go_enter Try.func5, Try.ntmps5
    go_wp2_with (first | (go_at_call 10; (with_reducible refine (paworks_any C _).mono ?_); rintro e w1 ⟨rfl, hB⟩) | (go_at_call 17; (with_reducible refine (C.valid _ _ l n c (HS.out.after hB) hn50).mono ?_); rintro e w1 ⟨rfl, hb⟩; replace hB := hB.trans (hb.mono hB.size); clear hb))
    go_ret; exact ⟨rfl, hB⟩
  have hn50 : n ≤ 50 := by omega
  cases hv : pvB l n with
  | false =>
    clear hS
    go_enter Try.func5, Try.ntmps5
    go_wp2_with (first | (go_at_call 10; (with_reducible refine (paworks_any C _).mono ?_); rintro e w1 ⟨rfl, hB⟩) | (go_at_call 17; (with_reducible refine (C.valid _ _ l n c (HS.out.after hB) hn50).mono ?_); rintro e w1 ⟨rfl, hb⟩; replace hB := hB.trans (hb.mono hB.size); clear hb))
    go_ret; exact ⟨rfl, hB⟩
  | true =>
  by_cases h1 : a1 < 0
  · clear hS
    go_enter Try.func5, Try.ntmps5
    go_wp2_with (first | (go_at_call 10; (with_reducible refine (paworks_any C _).mono ?_); rintro e w1 ⟨rfl, hB⟩) | (go_at_call 17; (with_reducible refine (C.valid _ _ l n c (HS.out.after hB) hn50).mono ?_); rintro e w1 ⟨rfl, hb⟩; replace hB := hB.trans (hb.mono hB.size); clear hb))
    go_ret; exact ⟨rfl, hB⟩
  by_cases h3 : (n : Int) ≤ a1
  · clear hS
    go_enter Try.func5, Try.ntmps5
    go_wp2_with (first | (go_at_call 10; (with_reducible refine (paworks_any C _).mono ?_); rintro e w1 ⟨rfl, hB⟩) | (go_at_call 17; (with_reducible refine (C.valid _ _ l n c (HS.out.after hB) hn50).mono ?_); rintro e w1 ⟨rfl, hb⟩; replace hB := hB.trans (hb.mono hB.size); clear hb))
    go_ret; exact ⟨rfl, hB⟩
  obtain ⟨x, rfl⟩ : ∃ x : Nat, a1 = x := ⟨a1.toNat, by omega⟩
  have hx : x < n := by omega
  by_cases hl : Pa.Lay (ply l) x
  · exact patog_core C a0 n c l x w hS hbig hv hx hl
  · have hx0 : (0 : Int) < (x : Int) := by
      rcases Nat.eq_zero_or_pos x with q | q
      · exact absurd (.inl q) hl
      · omega
    have hlx : (l x).ly = false := by
      cases e : (l x).ly with
      | false => rfl
      | true => exact absurd (.inr e) hl
    clear hl
    obtain ⟨b, o, rfl, hc⟩ := HS.out.nodes.some (by omega)
    have HC := Lib.hid hc
    clear hc hS
    go_enter Try.func5, Try.ntmps5
    go_wp2_with (first | (go_at_call 10; (with_reducible refine (paworks_any C _).mono ?_); rintro e w1 ⟨rfl, hB⟩) | (go_at_call 17; (with_reducible refine (C.valid _ _ l n c (HS.out.after hB) hn50).mono ?_); rintro e w1 ⟨rfl, hb⟩; replace hB := hB.trans (hb.mono hB.size); clear hb; obtain ⟨cx0, cx1, cx2⟩ := HC.out _ hB x hx; rw [hlx] at cx1; clear cx0 cx2))
    go_ret; exact ⟨rfl, hB⟩

end Go.Proofs.Ytbmidmpooooheaa.Fix
