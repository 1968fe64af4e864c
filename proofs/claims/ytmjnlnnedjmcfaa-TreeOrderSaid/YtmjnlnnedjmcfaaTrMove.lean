/- The contract of Move of a tree. -/
import Derived.Test.YtmjnlnnedjmcfaaTrAdd
namespace Go.Proofs.Ytmjnlnnedjmcfaa.Fix
open Go.ChangeShapes Go.WideShapes Go.ChangeAt Go.RowKit Go.Shelf
set_option linter.unusedVariables false
set_option linter.unusedSectionVars false
set_option linter.unusedSimpArgs false
set_option maxRecDepth 100000

section
variable {T : Tr.T} (H : Tr.WF T) {x u : Int} {nd p : Tr.Nd} (hx : T x = some nd) (h0 : x ≠ 0) (hu : T u = some p) (hun : u ∉ Tr.sub T 64 x)
include H hx h0 hu hun
theorem left_u : Tr.leave T x u = some { p with kids := Tr.wo p.kids x } := by
  obtain ⟨q, hq, hm⟩ := H.up x nd hx h0
  rw [Tr.leave_at hx hq]
  by_cases e : u = nd.up
  · rw [if_pos e]; rw [← e, hu] at hq; cases hq; rfl
  · rw [if_neg e, hu, Tr.wo_not (fun hm => e (H.x_kid hx h0 hu hm))]
theorem left_x : Tr.leave T x x = some nd := by
  obtain ⟨q, hq, hm⟩ := H.up x nd hx h0
  rw [Tr.leave_at hx hq, if_neg (fun e : x = nd.up => H.up_out hx h0 (H.is_in hx h0 e.symm)), hx]
theorem left_len : (Tr.wo p.kids x).length + 1 ≤ (Tr.ord T).length := by
  have hn : (x :: Tr.wo p.kids x).Nodup := List.nodup_cons.2 ⟨fun hm => (Tr.mem_wo.1 hm).2 rfl, Tr.nodup_wo (H.nodup u p hu) x⟩
  have := hn.length_le_of_subset (l₂ := Tr.ord T) fun y hy => by
    rcases List.mem_cons.1 hy with rfl | hy
    · exact H.mem_ord.2 ⟨nd, hx⟩
    · obtain ⟨_, q, h2, _⟩ := H.kid u p y hu (Tr.mem_wo.1 hy).1
      exact H.mem_ord.2 ⟨q, h2⟩
  simpa using this
end

set_option maxHeartbeats 4000000 in
theorem tmove_any {w : World} {t n : Nat} {L : Lay} {T : Tr.T} (h : Inv w t L T n) {x u a : Int} (hxw : Wf x) (hu : Wf u) : Calls Try.prog 31 #[.pointer (some ⟨t, 0, none⟩), .int .i64 x, .int .i64 u, .int .i64 a] w fun e w' => e = .returned (.int .i64 (Tr.movE T x u a)) ∧ ∃ L', Inv w' t L' (Tr.movR T x u a) n ∧ Grow t L L' T (Tr.movR T x u a) w w' := by
  have key := thas_any h.rep hxw
  have keyu := thas_any h.rep hu
  have same : ∀ e, Tr.movE T x u a = e → e ≠ 0 → Tr.movR T x u a = T := fun e he hne => by unfold Tr.movR; rw [he, if_neg hne]
  cases hX : T x with
  | none =>
    have hE : Tr.movE T x u a = 2 := by unfold Tr.movE; rw [hX]
    rw [hE, same _ hE (by decide)]
    rw [hX] at key
    have HR := Lib.hid h
    clear h keyu same hE
    go_enter Try.func31, Try.ntmps31
    go_wp2_with (go_at_call 14; first | ((with_reducible refine key.mono ?_); rintro e w' ⟨rfl, rfl⟩) | ((with_reducible refine keyu.mono ?_); rintro e w' ⟨rfl, rfl⟩))
    go_ret
    exact ⟨rfl, L, HR.out, Grow.refl _ _ _ _⟩
  | some nd =>
  rw [hX] at key
  cases hU : T u with
  | none =>
    have hE : Tr.movE T x u a = 2 := by unfold Tr.movE; rw [hX, hU]
    rw [hE, same _ hE (by decide)]
    rw [hU] at keyu
    have HR := Lib.hid h
    clear h same hE
    go_enter Try.func31, Try.ntmps31
    go_wp2_with (go_at_call 14; first | ((with_reducible refine key.mono ?_); rintro e w' ⟨rfl, rfl⟩) | ((with_reducible refine keyu.mono ?_); rintro e w' ⟨rfl, rfl⟩))
    go_ret
    exact ⟨rfl, L, HR.out, Grow.refl _ _ _ _⟩
  | some p =>
  rw [hU] at keyu
  have hE0 : Tr.movE T x u a = if x = 0 then 1 else if u ∈ Tr.sub T 64 x then 3 else if a < 0 ∨ ((Tr.wo p.kids x).length : Int) < a then 1 else if 63 < Tr.dep T u + 1 + Tr.hgt T 64 x then 5 else 0 := by unfold Tr.movE; rw [hX, hU]
  by_cases h0 : x = 0
  · have hE : Tr.movE T x u a = 1 := by rw [hE0, if_pos h0]
    rw [hE, same _ hE (by decide)]
    have HR := Lib.hid h
    clear h same hE hE0
    subst h0
    go_enter Try.func31, Try.ntmps31
    go_wp2_with (go_at_call 14; first | ((with_reducible refine key.mono ?_); rintro e w' ⟨rfl, rfl⟩) | ((with_reducible refine keyu.mono ?_); rintro e w' ⟨rfl, rfl⟩))
    go_ret
    exact ⟨rfl, L, HR.out, Grow.refl _ _ _ _⟩
  rw [if_neg h0] at hE0
  have h0b : (x == 0) = false := by simpa using h0
  have keyC := tholds_any (y := u) h.rep (h.wf.fit64 hX)
  by_cases hm : u ∈ Tr.sub T 64 x
  · have hE : Tr.movE T x u a = 3 := by rw [hE0, if_pos hm]
    rw [hE, same _ hE (by decide)]
    have hd : decide (u ∈ Tr.sub T 64 x) = true := by simpa using hm
    rw [hd] at keyC
    have HR := Lib.hid h
    clear h same hE hE0 hm hd
    go_enter Try.func31, Try.ntmps31
    go_wp2_with (first | (go_at_call 14; first | ((with_reducible refine key.mono ?_); rintro e w' ⟨rfl, rfl⟩) | ((with_reducible refine keyu.mono ?_); rintro e w' ⟨rfl, rfl⟩)) | (go_at_call 43; (with_reducible refine keyC.mono ?_); rintro e w1 ⟨rfl, hb1⟩))
    go_ret
    exact ⟨rfl, L, ⟨HR.out.rep.after hb1, HR.out.wf, HR.out.num⟩, Grow.of_below hb1⟩
  rw [if_neg hm] at hE0
  have hd : decide (u ∈ Tr.sub T 64 x) = false := by simpa using hm
  rw [hd] at keyC
  have KO := Lib.hid fun W (hb : Below w.heap.size w W) => tothers_any (h.rep.after hb) hU hxw
  have hup : upOf T x = nd.up := by unfold upOf; rw [hX]
  rw [hup, ← h.wf.others hX hU h0] at KO
  by_cases hr : a < 0 ∨ ((Tr.wo p.kids x).length : Int) < a
  · have hE : Tr.movE T x u a = 1 := by rw [hE0, if_pos hr]
    rw [hE, same _ hE (by decide)]
    have HR := Lib.hid h
    clear h same hE hE0 hm hd hup
    generalize (Tr.wo p.kids x).length = m at *
    rcases hr with hr | hr
    · go_enter Try.func31, Try.ntmps31
      go_wp2_with (first | (go_at_call 14; first | ((with_reducible refine key.mono ?_); rintro e w' ⟨rfl, rfl⟩) | ((with_reducible refine keyu.mono ?_); rintro e w' ⟨rfl, rfl⟩)) | (go_at_call 43; (with_reducible refine keyC.mono ?_); rintro e w1 ⟨rfl, hb1⟩))
      go_ret
      exact ⟨rfl, L, ⟨HR.out.rep.after hb1, HR.out.wf, HR.out.num⟩, Grow.of_below hb1⟩
    · have hr0 : ¬ a < 0 := by omega
      go_enter Try.func31, Try.ntmps31
      go_wp2_with (first | (go_at_call 14; first | ((with_reducible refine key.mono ?_); rintro e w' ⟨rfl, rfl⟩) | ((with_reducible refine keyu.mono ?_); rintro e w' ⟨rfl, rfl⟩)) | (go_at_call 43; (with_reducible refine keyC.mono ?_); rintro e w1 ⟨rfl, hb1⟩) | (go_at_call 44; (with_reducible refine (KO.out _ hb1).mono ?_); rintro e w' ⟨rfl, rfl⟩))
      go_ret
      exact ⟨rfl, L, ⟨HR.out.rep.after hb1, HR.out.wf, HR.out.num⟩, Grow.of_below hb1⟩
  rw [if_neg hr] at hE0
  have hr0 : ¬ a < 0 := fun e => hr (.inl e)
  have hr1 : ¬ ((Tr.wo p.kids x).length : Int) < a := fun e => hr (.inr e)
  obtain ⟨d, hd1, hd2, hd3⟩ := h.wf.dep_some hU
  have KD := Lib.hid fun W (hb : Below w.heap.size w W) => tdepth_some (h.rep.after hb) (fun _ q => h.wf.root_up q) hd2 (by omega)
  have KH := Lib.hid fun W (hb : Below w.heap.size w W) => theight_any 64 x (by omega) (h.rep.after hb) (h.wf.fit64 hX)
  have hg64 := hgt_lt (h.wf.fit64 hX)
  rw [hd3] at hE0
  have hw1 : IntKind.i64.wrap ((d : Int) + 1) = (d : Int) + 1 := by rw [IntWalk.i64_in _ (by omega)]
  have hw2 : IntKind.i64.wrap ((d : Int) + 1 + (Tr.hgt T 64 x : Int)) = (d : Int) + 1 + (Tr.hgt T 64 x : Int) := by rw [IntWalk.i64_in _ (by omega)]
  by_cases hdd : 63 < (d : Int) + 1 + (Tr.hgt T 64 x : Int)
  · have hE : Tr.movE T x u a = 5 := by rw [hE0, if_pos hdd]
    rw [hE, same _ hE (by decide)]
    have HR := Lib.hid h
    clear h same hE hE0 hm hd hup hd2 hd3 hr
    generalize (Tr.wo p.kids x).length = m at *
    generalize Tr.hgt T 64 x = g at *
    go_enter Try.func31, Try.ntmps31
    go_wp2_with (first | (go_at_call 14; first | ((with_reducible refine key.mono ?_); rintro e w' ⟨rfl, rfl⟩) | ((with_reducible refine keyu.mono ?_); rintro e w' ⟨rfl, rfl⟩)) | (go_at_call 43; (with_reducible refine keyC.mono ?_); rintro e w1 ⟨rfl, hb1⟩) | (go_at_call 44; (with_reducible refine (KO.out _ hb1).mono ?_); rintro e w' ⟨rfl, rfl⟩) | (go_at_call 18; (with_reducible refine (KD.out _ hb1).mono ?_); rintro e w' ⟨rfl, rfl⟩) | (go_at_call 45; (with_reducible refine (KH.out _ hb1).mono ?_); rintro e w' ⟨rfl, rfl⟩))
    go_ret
    exact ⟨rfl, L, ⟨HR.out.rep.after hb1, HR.out.wf, HR.out.num⟩, Grow.of_below hb1⟩
  · rw [if_neg hdd] at hE0
    have hR : Tr.movR T x u a = Tr.movT T x u a.toNat := by unfold Tr.movR; rw [hE0, if_pos rfl]
    have HWR := h.wf.movR x u a
    rw [hE0, hR]
    rw [hR] at HWR
    obtain ⟨q, hq, hqm⟩ := h.wf.up x nd hX h0
    obtain ⟨i, hi⟩ := List.mem_iff_getElem?.1 hqm
    have hxu : u ≠ x := fun e => hm (h.wf.is_in hX h0 e)
    have KL := Lib.hid fun W (hb : Below w.heap.size w W) => tleave_any (h.rep.after hb) hX hq hi (h.wf.nodup _ _ hq)
    have hll := left_len h.wf hX h0 hU hm
    have hos := h.wf.ord_small
    have KE := Lib.hid fun W L' (hb : Rep W t L' (Tr.leave T x) n) => tenter_any hb (left_x h.wf hX h0 hU hm) (left_u h.wf hX h0 hU hm) hxu (i := a.toNat) (by simp only; omega) (by simp only; omega)
    rw [Int.toNat_of_nonneg (by omega)] at KE
    have HWR2 := Lib.hid HWR
    have HN := Lib.hid h.num
    clear h same hE0 hm hd hup hd2 hd3 hr hR HWR hq hqm hi hll hos hX hU
    unfold Tr.movT
    generalize (Tr.wo p.kids x).length = m at *
    generalize Tr.hgt T 64 x = g at *
    go_enter Try.func31, Try.ntmps31
    go_wp2_with (first | (go_at_call 14; first | ((with_reducible refine key.mono ?_); rintro e w' ⟨rfl, rfl⟩) | ((with_reducible refine keyu.mono ?_); rintro e w' ⟨rfl, rfl⟩)) | (go_at_call 43; (with_reducible refine keyC.mono ?_); rintro e w1 ⟨rfl, hb1⟩) | (go_at_call 44; (with_reducible refine (KO.out _ hb1).mono ?_); rintro e w' ⟨rfl, rfl⟩) | (go_at_call 18; (with_reducible refine (KD.out _ hb1).mono ?_); rintro e w' ⟨rfl, rfl⟩) | (go_at_call 45; (with_reducible refine (KH.out _ hb1).mono ?_); rintro e w' ⟨rfl, rfl⟩) | (go_at_call 42; (with_reducible refine (KL.out _ hb1).mono ?_); rintro e w2 ⟨⟨v, rfl⟩, L2, hr2, hg2⟩) | (go_at_call 46; (with_reducible refine (KE.out _ _ hr2).mono ?_); rintro e w3 ⟨⟨v, rfl⟩, L3, hr3, hg3⟩))
    go_ret
    exact ⟨rfl, L3, ⟨hr3, HWR2.out.1, HWR2.out.2.trans HN.out⟩, (Grow.of_below hb1).trans (hg2.trans hg3)⟩

end Go.Proofs.Ytmjnlnnedjmcfaa.Fix
