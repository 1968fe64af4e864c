/- The contracts of Depth and height of a tree. -/
import Derived.Test.YtmjnlnnedjmcfaaTrRead
import Derived.Lib.MinMax
namespace Go.Proofs.Ytmjnlnnedjmcfaa.Fix
open Go.ChangeShapes Go.WideShapes Go.ChangeAt Go.RowKit
set_option linter.unusedVariables false
set_option linter.unusedSimpArgs false
set_option maxRecDepth 100000

section
variable {w : World} {t n : Nat} {L : Lay} {T : Tr.T}

theorem tdepth_none (h : Rep w t L T n) {z : Int} (hz : Wf z) (hn : T z = none) : Calls Try.prog 18 #[.pointer (some ⟨t, 0, none⟩), .int .i64 z] w fun e w' => e = .returned (.int .i64 (-1)) ∧ w' = w := by
  have key := thas_any h hz
  rw [hn] at key
  clear h
  go_enter Try.func18, Try.ntmps18
  go_wp2
  refine wp_loop_rounds 1 ?_
  rw [rounds_succ]
  go_wp2_with (go_at_call 14; (with_reducible refine key.mono ?_); rintro e w' ⟨rfl, rfl⟩)
  go_ret
  exact ⟨rfl, rfl⟩

theorem tdepth_some (h : Rep w t L T n) (hr : ∀ nd, T 0 = some nd → nd.up = -1) {z : Int} {d : Nat} (hd : Tr.Dp T z d) (hd63 : d ≤ 1000) : Calls Try.prog 18 #[.pointer (some ⟨t, 0, none⟩), .int .i64 z] w fun e w' => e = .returned (.int .i64 (d : Int)) ∧ w' = w := by
  have hm : T (-1) = none := by
    cases e : T (-1) with
    | none => rfl
    | some nd => have := (h.small _ nd e).1; omega
  have HR := Lib.hid h
  have HROOT := Lib.hid hr
  have HD := Lib.hid hd
  clear h hr hd
  go_enter Try.func18, Try.ntmps18
  go_wp2
  go_loop [1, 5] (fun i p => (∃ (y : Int) (m : Nat) (k : Int), i = .int .i64 y ∧ p = .int .i64 k ∧ m ≤ d ∧ k = (d : Int) - m - 1 ∧ Tr.Dp T y m) ∨ (i = .int .i64 (-1) ∧ p = .int .i64 (d : Int))) (fun _ p => (d - intOf p).toNat)
  case atStart => exact .inl ⟨z, d, -1, rfl, rfl, Nat.le_refl _, by omega, HD.out⟩
  case round =>
    rcases hrel with ⟨y, m, k, rfl, rfl, hmd, hk, hD⟩ | ⟨rfl, rfl⟩
    · obtain ⟨nd, hT⟩ := hD.live
      have key := thas_any HR.out (HR.out.wf hT)
      have key2 := tup_any HR.out (HR.out.wf hT)
      rw [hT] at key
      have hu : Hid (upOf T y = nd.up) := Lib.hid (by unfold upOf; rw [hT])
      generalize upOf T y = u at *
      have hw : IntKind.i64.wrap (k + 1) = k + 1 := by rw [IntWalk.i64_in _ (by omega)]
      have HK := Lib.hid hk
      have HDD := Lib.hid hD
      clear hk hD
      go_wp2_with (first | (go_at_call 14; (with_reducible refine key.mono ?_); rintro e w' ⟨rfl, rfl⟩) | (go_at_call 16; (with_reducible refine key2.mono ?_); rintro e w' ⟨rfl, rfl⟩))
      go_round
      case rel =>
        have hk := HK.out
        rw [hu.out]
        cases HDD.out with
        | root h0 => rw [HROOT.out nd hT]; exact .inr ⟨rfl, by rw [hk]; congr 1; omega⟩
        | step h1 h0 h2 =>
          rw [hT] at h1; cases h1
          exact .inl ⟨nd.up, _, k + 1, rfl, rfl, by omega, by omega, h2⟩
      case measure => have hk := HK.out; simp [intOf]; omega
    · have key := thas_any HR.out (z := -1) (by rw [wf_iff]; omega)
      rw [hm] at key
      go_wp2_with (go_at_call 14; (with_reducible refine key.mono ?_); rintro e w' ⟨rfl, rfl⟩)
      go_ret
      exact ⟨rfl, rfl⟩

theorem hgt_lt {T : Tr.T} {f : Nat} {x : Int} (h : Tr.Fit T f x) : Tr.hgt T f x < f := by
  induction f generalizing x with
  | zero => exact h.elim
  | succ f ih =>
    obtain ⟨nd, h1, hk⟩ := h
    rw [Tr.hgt_some h1]
    have := (Tr.foldl_max_le (f := Tr.hgt T f) (ks := nd.kids) (m := 0) (B := f)).2 ⟨Nat.zero_le _, fun k hkm => by have := ih (hk k hkm); omega⟩
    omega

/-- the first j kids -/
def hpart (T : Tr.T) (f : Nat) (l : List Int) (j : Nat) : Nat := (l.take j).foldl (fun m k => max m (1 + Tr.hgt T f k)) 0

theorem theight_any (f : Nat) : ∀ {w : World} {t n : Nat} {L : Lay} {T : Tr.T} (x : Int), f ≤ 100 → Rep w t L T n → Tr.Fit T f x → Calls Try.prog 45 #[.pointer (some ⟨t, 0, none⟩), .int .i64 x] w fun e w' => e = .returned (.int .i64 (Tr.hgt T f x : Int)) ∧ w' = w := by
  induction f with
  | zero => intro _ _ _ _ _ _ _ _ h; exact h.elim
  | succ f ih =>
    intro w t n L T x hf h hfit
    obtain ⟨nd, hT, hk⟩ := hfit
    have hl := h.look_some hT
    have c0 := h.cT
    have c1 := h.cKids hT
    obtain ⟨A, c, hs, hI, _⟩ := (h.row x nd hT).ints
    rw [hs] at c1
    rw [Tr.hgt_some hT]
    have hp : Hid (nd.kids.foldl (fun m k => max m (1 + Tr.hgt T f k)) 0 = hpart T f nd.kids nd.kids.length) := Lib.hid (by unfold hpart; rw [List.take_length])
    rw [hp.out]
    have hlen := (h.small x nd hT).2.2.2.2
    generalize hls : nd.kids = l at *
    generalize hm : l.length = m at *
    have HM := Lib.hid hm
    have HR := Lib.hid h
    have HI := Lib.hid hI
    have HK := Lib.hid hk
    clear h hI hk hm hs hls hp
    go_enter Try.func45, Try.ntmps45
    go_wp2
    go_loop [5, 18] (fun p i => ∃ k q : Nat, k ≤ m ∧ i = .int .i64 k ∧ p = .int .i64 q ∧ q = hpart T f l k) (fun _ i => m - (intOf i).toNat)
    case atStart => exact ⟨0, 0, by omega, rfl, rfl, rfl⟩
    case round =>
      obtain ⟨k, q, hkm, rfl, rfl, hq⟩ := hrel
      have HQ := Lib.hid hq
      clear hq
      by_cases hlt : k < m
      · obtain ⟨b, o, rfl, lb, hcell⟩ := HI.out.at_ (k := k) (by rw [HM.out]; exact hlt)
        have hmem : l.getD k 0 ∈ l := by
          rw [List.getD, List.getElem?_eq_getElem (by rw [HM.out]; exact hlt)]; exact List.getElem_mem _
        have hfk := HK.out _ hmem
        have key := ih _ (by omega) HR.out hfk
        have hh := hgt_lt hfk
        have hstep : Hid (hpart T f l (k + 1) = max (hpart T f l k) (1 + Tr.hgt T f (l.getD k 0))) := Lib.hid (by
          unfold hpart
          rw [take_snoc_int l k (by rw [HM.out]; exact hlt), List.foldl_append]; rfl)
        generalize l.getD k 0 = z at *
        generalize Tr.hgt T f z = hz at *
        have hw : IntKind.i64.wrap (1 + (hz : Int)) = 1 + (hz : Int) := by rw [IntWalk.i64_in _ (by omega)]
        clear hfk hmem
        go_wp2_with (go_at_call 45; (with_reducible refine key.mono ?_); rintro e w' ⟨rfl, rfl⟩)
        go_round
        case rel => exact ⟨k + 1, max q (1 + hz), by omega, by go_num, by congr 1; omega, by rw [hstep.out, HQ.out]⟩
        case measure => simp [intOf]; omega
      · obtain rfl : k = m := by omega
        go_wp2
        go_ret
        exact ⟨by rw [HQ.out]; rfl, rfl⟩
end

end Go.Proofs.Ytmjnlnnedjmcfaa.Fix
