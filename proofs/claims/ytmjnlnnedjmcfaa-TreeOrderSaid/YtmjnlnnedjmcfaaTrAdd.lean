/- The contract of Add of a tree. -/
import Derived.Test.YtmjnlnnedjmcfaaTrEnter
import Derived.Test.YtmjnlnnedjmcfaaTrActs
namespace Go.Proofs.Ytmjnlnnedjmcfaa.Fix
open Go.ChangeShapes Go.WideShapes Go.ChangeAt Go.RowKit Go.Shelf
set_option linter.unusedVariables false
set_option linter.unusedSimpArgs false
set_option maxRecDepth 100000

/-- a tree that stands as it should -/
structure Inv (W : World) (t : Nat) (L : Lay) (T : Tr.T) (n : Nat) : Prop where
  rep : Rep W t L T n
  wf : Tr.WF T
  num : (Tr.ord T).length = n

set_option maxHeartbeats 4000000 in
theorem tadd_any {w : World} {t n : Nat} {L : Lay} {T : Tr.T} (h : Inv w t L T n) (hn : n < 4096) {u a : Int} (hu : Wf u) : Calls Try.prog 32 #[.pointer (some ⟨t, 0, none⟩), .int .i64 u, .int .i64 a] w fun e w' => e = .returned (.tuple #[.int .i64 (Tr.addI T u a), .int .i64 (Tr.addE T u a)]) ∧ ∃ L' n', Inv w' t L' (Tr.addR T u a) n' ∧ n' ≤ n + 1 ∧ Grow t L L' T (Tr.addR T u a) w w' := by
  obtain ⟨h, HW, hnum⟩ := h
  have HWR := HW.addR u a (by omega)
  have key := thas_any h hu
  cases hT : T u with
  | none =>
    have hE : Tr.addE T u a = 2 := by unfold Tr.addE; rw [hT]
    have hI : Tr.addI T u a = -1 := by unfold Tr.addI; rw [hE]; rfl
    have hR : Tr.addR T u a = T := by unfold Tr.addR; rw [hE]; rfl
    rw [hE, hI, hR]
    rw [hT] at key
    have HR := Lib.hid (Inv.mk h HW hnum)
    clear h HW hnum HWR hE hI hR
    go_enter Try.func32, Try.ntmps32
    go_wp2_with (go_at_call 14; (with_reducible refine key.mono ?_); rintro e w' ⟨rfl, rfl⟩)
    go_ret2
    exact ⟨rfl, L, n, HR.out, by omega, Grow.refl _ _ _ _⟩
  | some p =>
    rw [hT] at key
    have hl := h.look_some hT
    have c0 := h.cT
    have c1 := h.cKids hT
    have hs := (h.small u p hT).2.2.2.2
    obtain ⟨A, c, hv, _⟩ := (h.row u p hT).ints
    by_cases hr : a < 0 ∨ (p.kids.length : Int) < a
    · have hE : Tr.addE T u a = 1 := by unfold Tr.addE; rw [hT]; dsimp only; rw [if_pos hr]
      have hI : Tr.addI T u a = -1 := by unfold Tr.addI; rw [hE]; rfl
      have hR : Tr.addR T u a = T := by unfold Tr.addR; rw [hE]; rfl
      rw [hE, hI, hR]
      have HR := Lib.hid (Inv.mk h HW hnum)
      rw [hv] at c1
      clear h HW hnum HWR hE hI hR hv
      generalize p.kids.length = m at *
      rcases hr with hr | hr
      · go_enter Try.func32, Try.ntmps32
        go_wp2_with (go_at_call 14; (with_reducible refine key.mono ?_); rintro e w' ⟨rfl, rfl⟩)
        go_ret2
        exact ⟨rfl, L, n, HR.out, by omega, Grow.refl _ _ _ _⟩
      · have hr0 : ¬ a < 0 := by omega
        go_enter Try.func32, Try.ntmps32
        go_wp2_with (go_at_call 14; (with_reducible refine key.mono ?_); rintro e w' ⟨rfl, rfl⟩)
        go_ret2
        exact ⟨rfl, L, n, HR.out, by omega, Grow.refl _ _ _ _⟩
    · have hr0 : ¬ a < 0 := fun e => hr (.inl e)
      have hr1 : ¬ (p.kids.length : Int) < a := fun e => hr (.inr e)
      have keyL := tlen_any h
      obtain ⟨d, hd1, hd2, hd3⟩ := HW.dep_some hT
      have keyD := tdepth_some h (fun _ h => HW.root_up h) hd2 (by omega)
      have hnn : ¬ (4096 : Int) ≤ (n : Int) := by omega
      by_cases hdd : 63 ≤ d
      · have hdd2 : (63 : Int) ≤ (d : Int) := by omega
        have hE : Tr.addE T u a = 5 := by unfold Tr.addE; rw [hT]; dsimp only; rw [if_neg hr, hd3, if_pos hdd2]
        have hI : Tr.addI T u a = -1 := by unfold Tr.addI; rw [hE]; rfl
        have hR : Tr.addR T u a = T := by unfold Tr.addR; rw [hE]; rfl
        rw [hE, hI, hR]
        have HR := Lib.hid (Inv.mk h HW hnum)
        rw [hv] at c1
        clear h HW hnum HWR hE hI hR hv hd2 hd3 hr
        generalize p.kids.length = m at *
        go_enter Try.func32, Try.ntmps32
        go_wp2_with (first | (go_at_call 14; (with_reducible refine key.mono ?_); rintro e w' ⟨rfl, rfl⟩) | (go_at_call 27; (with_reducible refine keyL.mono ?_); rintro e w' ⟨rfl, rfl⟩) | (go_at_call 18; (with_reducible refine keyD.mono ?_); rintro e w' ⟨rfl, rfl⟩))
        go_ret2
        exact ⟨rfl, L, n, HR.out, by omega, Grow.refl _ _ _ _⟩
      · have hdd2 : ¬ (63 : Int) ≤ (d : Int) := by omega
        have hE : Tr.addE T u a = 0 := by unfold Tr.addE; rw [hT]; dsimp only; rw [if_neg hr, hd3, if_neg hdd2]
        have hI : Tr.addI T u a = Tr.free T := by unfold Tr.addI; rw [hE]; rfl
        have hR : Tr.addR T u a = Tr.addT T (Tr.free T) u a.toNat := by unfold Tr.addR; rw [hE]; rfl
        rw [hE, hR, if_pos rfl] at HWR
        rw [hE, hI, hR]
        obtain ⟨hfree, hfl⟩ := HW.free_is
        have keyF := tfree_any h
        have hB : Below w.heap.size w (w.alloc (.cells (bcells 0 (.slice none 0 0) Re.zero) 69)) := Below.alloc' (Below.refl _ _) _
        have h1 := h.after hB
        have hA : At (w.alloc (.cells (bcells 0 (.slice none 0 0) Re.zero) 69)) w.heap.size (.cells (bcells 0 (.slice none 0 0) Re.zero) 69) := At.new _ _
        have hfw : Wf (Tr.free T) := by rw [wf_iff]; have := hfree.1; omega
        obtain ⟨W2, hmu, p2, ho⟩ := h1.map.store (by simp [maxLen]; omega) (z := Tr.free T) hfw (by rw [hfree.2.1]; rfl) w.heap.size
        have hnw : ¬ owned t L T w.heap.size := fun e => absurd (h.lt e) (by omega)
        obtain ⟨r2, o2, g2⟩ := h1.add hfree.2.1 ⟨hfree.1, by omega⟩ (by omega) hA hnw ho p2
        have hne : u ≠ Tr.free T := fun e => by rw [e, hfree.2.1] at hT; cases hT
        have G2 : Grow t L _ T _ w W2 := ⟨((Out.of_below hB).trans ⟨o2.1, o2.2⟩), fun b hb => (g2 b hb).imp id fun e => by omega⟩
        have hkl := HW.kids_le hT
        have keyE := tenter_any r2 (Tr.set_same _ _ _) ((Tr.set_other _ _ hne).trans hT) hne (i := a.toNat) (by omega) (by omega)
        rw [Int.toNat_of_nonneg (by omega)] at keyE
        have HG2 := Lib.hid G2
        have HI := Lib.hid HWR
        have HN := Lib.hid hnum
        have HF := Lib.hid hfree
        rw [hv] at c1
        clear h HW hnum HWR hE hI hR hv hd2 hd3 hr hfree hfl hB h1 hA p2 ho hnw r2 o2 g2 G2 hT hkl
        unfold Tr.addT
        generalize p.kids.length = m at *
        generalize Tr.free T = z at *
        go_enter Try.func32, Try.ntmps32
        go_wp2_with (first | (go_at_call 14; (with_reducible refine key.mono ?_); rintro e w' ⟨rfl, rfl⟩) | (go_at_call 27; (with_reducible refine keyL.mono ?_); rintro e w' ⟨rfl, rfl⟩) | (go_at_call 18; (with_reducible refine keyD.mono ?_); rintro e w' ⟨rfl, rfl⟩) | (go_at_call 47; (with_reducible refine keyF.mono ?_); rintro e w' ⟨⟨y, rfl, hy⟩, rfl⟩; obtain rfl : y = z := (Tr.free_eq hy).symm.trans (Tr.free_eq HF.out)) | (refine wpList_build (by rfl) 69 _ rfl #[] (by simp) (build_box_zero _) ?_) | (go_at_call 46; (with_reducible refine keyE.mono ?_); rintro e w' ⟨⟨v, rfl⟩, L', hr', hg'⟩))
        go_ret2
        exact ⟨rfl, L', n + 1, ⟨hr', HI.out.1, by rw [← HN.out]; exact HI.out.2⟩, Nat.le_refl _, HG2.out.trans hg'⟩

end Go.Proofs.Ytmjnlnnedjmcfaa.Fix
