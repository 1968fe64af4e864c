/- The statement PaintFirst, walked. -/
import Derived.Test.YtbmidmpooooheaaPaZ
namespace Go.Proofs.Ytbmidmpooooheaa.Fix
open Go.ChangeShapes Go.WideShapes Go.ChangeAt Go.RowKit Go.Deep Go.Joins
set_option linter.unusedVariables false
set_option linter.unusedSimpArgs false
set_option maxRecDepth 100000

set_option maxHeartbeats 8000000 in
theorem pafirst_walk (C : PaintCode) (a0 : Option Addr) (len0 cap0 : Nat) (w : World) (w0 : PRow w a0 len0 cap0) : Calls Try.prog 7 #[.slice a0 len0 cap0] w fun e w' => e = .returned (.bool true) ∧ Below w.heap.size w w' := by
  obtain ⟨l, hS⟩ := w0.sl
  have hn63 := w0.cap
  clear w0
  generalize len0 = n at *
  generalize cap0 = c at *
  have HS := Lib.hid hS
  clear hS
  by_cases hbig : (40 : Int) < (n : Int)
  · go_enter Try.func7, Try.ntmps7
    go_wp2_with (first | (go_at_call 10; (with_reducible refine (paworks_any C _).mono ?_); rintro e w1 ⟨rfl, hB⟩) | (go_at_call 17; (with_reducible refine (C.valid _ _ l n c (HS.out.after hB) hn50).mono ?_); rintro e w1 ⟨rfl, hb⟩; replace hB := hB.trans (hb.mono hB.size); clear hb))
    go_ret; exact ⟨rfl, hB⟩
  have hn50 : n ≤ 50 := by omega
  cases hv : pvB l n with
  | false =>
    go_enter Try.func7, Try.ntmps7
    go_wp2_with (first | (go_at_call 10; (with_reducible refine (paworks_any C _).mono ?_); rintro e w1 ⟨rfl, hB⟩) | (go_at_call 17; (with_reducible refine (C.valid _ _ l n c (HS.out.after hB) hn50).mono ?_); rintro e w1 ⟨rfl, hb⟩; replace hB := hB.trans (hb.mono hB.size); clear hb))
    go_ret; exact ⟨rfl, hB⟩
  | true =>
  have HV := Lib.hid (pvB_iff.1 hv)
  by_cases h0 : n = 0
  · subst h0
    go_enter Try.func7, Try.ntmps7
    go_wp2_with (first | (go_at_call 10; (with_reducible refine (paworks_any C _).mono ?_); rintro e w1 ⟨rfl, hB⟩) | (go_at_call 17; (with_reducible refine (C.valid _ _ l 0 c (HS.out.after hB) hn50).mono ?_); rintro e w1 ⟨rfl, hb⟩; replace hB := hB.trans (hb.mono hB.size); clear hb))
    go_ret; exact ⟨rfl, hB⟩
  have hnz : ((n : Int) == 0) = false := by simpa using h0
  obtain ⟨b, o, rfl, hc⟩ := HS.out.nodes.some (by omega)
  have HC := Lib.hid hc
  clear hc
  have KO := Lib.hid fun W (hb : Below w.heap.size w W) => C.order W _ l n c (HS.out.after hb) hn50
  have hlen := pord_len HV.out
  have HL := Lib.hid hlen
  obtain ⟨t, ht⟩ : ∃ t, pord l n = 0 :: t := by rw [pord_some HV.out]; exact Pa.order_head HV.out.ok (by omega)
  have HT := Lib.hid ht
  rw [hlen] at KO
  clear hlen ht
  go_enter Try.func7, Try.ntmps7
  go_upto_region 7 with (first | (go_at_call 10; (with_reducible refine (paworks_any C _).mono ?_); rintro e w1 ⟨rfl, hB⟩) | (go_at_call 17; (with_reducible refine (C.valid _ _ l n c (HS.out.after hB) hn50).mono ?_); rintro e w1 ⟨rfl, hb⟩; replace hB := hB.trans (hb.mono hB.size); clear hb) | (go_at_call 16; (with_reducible refine (KO.out _ hB).mono ?_); rintro e w1 ⟨⟨B, d, rfl, hI⟩, hb⟩; replace hB := hB.trans (hb.mono hB.size); clear hb))
  obtain ⟨bo, oo, rfl, hco⟩ := hI.2 (by rw [pints_len, HL.out]; omega)
  have d0 : w1.cell? ⟨bo, oo, none⟩ = some (.int .i64 0) := by
    have := hco 0 (by rw [pints_len, HL.out]; omega)
    rw [HT.out] at this
    simpa [pints] using this
  have HB := Lib.hid hB
  clear hI hco KO HL HT hB
  go_wp2
  go_loopw [5] (fun iv wr => ∃ k : Nat, 0 < k ∧ k ≤ n ∧ iv = .int .i64 (k : Int) ∧ Below w.heap.size w wr) (fun iv _ => n - (intOf iv).toNat)
  case atStart => exact ⟨1, by omega, by omega, rfl, HB.out⟩
  case round =>
    clear HB d0
    obtain ⟨k, hk0, hk, rfl, hB⟩ := hrel
    by_cases hlt : k < n
    · have hltz : (k : Int) < (n : Int) := by omega
      have pk := playI_some HV.out hk0 hlt
      have hml := HV.out.ok.lt k hk0 hlt
      have hmy := HV.out.ok.ly k hk0 hlt
      have e2 : pbef l n (pla l k : Nat) k = true := pbef_iff.2 (by rw [pord_some HV.out]; exact Pa.ah_layer HV.out.ok hk0 hlt)
      have hup := (HV.out k hlt).2 hk0
      obtain ⟨u, hu⟩ : ∃ u : Nat, (l k).up = u := ⟨(l k).up.toNat, by omega⟩
      have huk : u < k := by omega
      have hpu : ppu l k = u := by unfold ppu; rw [hu]; rfl
      have e3 : (l k).ly = false → 0 < u → (l u).ly = false → pbef l n (u : Int) k = true := fun h1 h2 h3 => pbef_iff.2 (by
        rw [pord_some HV.out]
        refine Pa.ah_plain HV.out.ok h2 hlt huk ?_ h3 h1
        have := Pa.lay_eq (ly := ply l) HV.out.pu hk0 hlt
        rw [hpu, if_neg (by rintro (q | q); · omega
                            · unfold ply at q; rw [h3] at q; cases q)] at this
        exact this.symm)
      have E3 := Lib.hid e3
      have HMY := Lib.hid hmy
      clear e3 hmy hup hpu
      generalize pla l k = m at *
      have hmn : m < n := by omega
      have hun : u < n := by omega
      have hm0 : ¬ (m : Int) < 0 := by omega
      have hmk : ¬ (k : Int) ≤ (m : Int) := by omega
      have hu0 : ¬ (u : Int) < 0 := by omega
      go_upto_region 13 with (first | (go_at_call 18; (with_reducible refine (C.layer _ _ l n c _ (HS.out.after hB) hn50).mono ?_); rintro e w1 ⟨rfl, hb⟩; replace hB := hB.trans (hb.mono hB.size); clear hb))
      by_cases hm : 0 < m
      · have hly : (l m).ly = true := HMY.out.resolve_left (by omega)
        have hmz : (0 : Int) < (m : Int) := by omega
        obtain ⟨cx0, cx1, cx2⟩ := HC.out _ hB m hmn
        rw [hly] at cx1
        clear cx0 cx2
        go_upto_region 15 with (first | (go_at_call 20; (with_reducible refine (C.before _ _ l n c _ _ (HS.out.after hB) hn50).mono ?_); rintro e w1 ⟨rfl, hb⟩; replace hB := hB.trans (hb.mono hB.size); clear hb))
        clear cx1
        obtain ⟨ck0, ck1, ck2⟩ := HC.out _ hB k hlt
        rw [hu] at ck0
        obtain ⟨cu0, cu1, cu2⟩ := HC.out _ hB u hun
        clear ck2 cu0 cu2
        cases hlk : (l k).ly with
        | true =>
          rw [hlk] at ck1
          go_wp2
          go_roundw
          case rel => exact ⟨k + 1, by omega, by omega, by go_num, hB⟩
          case measure => simp [intOf]; omega
        | false =>
          rw [hlk] at ck1
          by_cases hu1 : u = 0
          · have hu2 : ¬ (0 : Int) < (u : Int) := by omega
            go_wp2
            go_roundw
            case rel => exact ⟨k + 1, by omega, by omega, by go_num, hB⟩
            case measure => simp [intOf]; omega
          · have hu2 : (0 : Int) < (u : Int) := by omega
            cases hlu : (l u).ly with
            | true =>
              rw [hlu] at cu1
              go_wp2
              go_roundw
              case rel => exact ⟨k + 1, by omega, by omega, by go_num, hB⟩
              case measure => simp [intOf]; omega
            | false =>
              rw [hlu] at cu1
              have e4 := E3.out hlk (by omega) hlu
              go_wp2_with (first | (go_at_call 20; (with_reducible refine (C.before _ _ l n c _ _ (HS.out.after hB) hn50).mono ?_); rintro e w1 ⟨rfl, hb⟩; replace hB := hB.trans (hb.mono hB.size); clear hb))
              go_roundw
              case rel => exact ⟨k + 1, by omega, by omega, by go_num, hB⟩
              case measure => simp [intOf]; omega
      · have hmz : ¬ (0 : Int) < (m : Int) := by omega
        go_upto_region 15 with (first | (go_at_call 20; (with_reducible refine (C.before _ _ l n c _ _ (HS.out.after hB) hn50).mono ?_); rintro e w1 ⟨rfl, hb⟩; replace hB := hB.trans (hb.mono hB.size); clear hb))
        obtain ⟨ck0, ck1, ck2⟩ := HC.out _ hB k hlt
        rw [hu] at ck0
        obtain ⟨cu0, cu1, cu2⟩ := HC.out _ hB u hun
        clear ck2 cu0 cu2
        cases hlk : (l k).ly with
        | true =>
          rw [hlk] at ck1
          go_wp2
          go_roundw
          case rel => exact ⟨k + 1, by omega, by omega, by go_num, hB⟩
          case measure => simp [intOf]; omega
        | false =>
          rw [hlk] at ck1
          by_cases hu1 : u = 0
          · have hu2 : ¬ (0 : Int) < (u : Int) := by omega
            go_wp2
            go_roundw
            case rel => exact ⟨k + 1, by omega, by omega, by go_num, hB⟩
            case measure => simp [intOf]; omega
          · have hu2 : (0 : Int) < (u : Int) := by omega
            cases hlu : (l u).ly with
            | true =>
              rw [hlu] at cu1
              go_wp2
              go_roundw
              case rel => exact ⟨k + 1, by omega, by omega, by go_num, hB⟩
              case measure => simp [intOf]; omega
            | false =>
              rw [hlu] at cu1
              have e4 := E3.out hlk (by omega) hlu
              go_wp2_with (first | (go_at_call 20; (with_reducible refine (C.before _ _ l n c _ _ (HS.out.after hB) hn50).mono ?_); rintro e w1 ⟨rfl, hb⟩; replace hB := hB.trans (hb.mono hB.size); clear hb))
              go_roundw
              case rel => exact ⟨k + 1, by omega, by omega, by go_num, hB⟩
              case measure => simp [intOf]; omega
    · obtain rfl : k = n := by omega
      go_wp2
      go_ret; exact ⟨rfl, hB⟩

end Go.Proofs.Ytbmidmpooooheaa.Fix
