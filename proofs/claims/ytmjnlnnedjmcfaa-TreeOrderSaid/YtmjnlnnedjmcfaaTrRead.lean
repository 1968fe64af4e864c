/- The contracts of the calls that only read a tree. -/
import Derived.Test.YtmjnlnnedjmcfaaTrRep
namespace Go.Proofs.Ytmjnlnnedjmcfaa.Fix
open Go.ChangeShapes Go.WideShapes Go.ChangeAt Go.RowKit
set_option linter.unusedVariables false
set_option linter.unusedSimpArgs false
set_option maxRecDepth 100000

section
variable {w : World} {t n : Nat} {L : Lay} {T : Tr.T}

theorem tall_any {w : World} {t n : Nat} {L : Lay} {T : Tr.T} (h : Rep w t L T n) : Calls Try.prog 38 #[.pointer (some ⟨t, 0, none⟩)] w fun e w' => e = .returned (.map (some L.mb)) ∧ w = w' := by
  have c0 := h.cT
  clear h
  generalize L.mb = mb at *
  go_enter Try.func38, Try.ntmps38
  go_wp2
  go_ret
  exact ⟨rfl, rfl⟩

theorem thas_any (h : Rep w t L T n) {z : Int} (hz : Wf z) : Calls Try.prog 14 #[.pointer (some ⟨t, 0, none⟩), .int .i64 z] w fun e w' => e = .returned (.bool (T z).isSome) ∧ w = w' := by
  have HR := Lib.hid h
  cases hT : T z with
  | none =>
    have hl := h.look_none hz hT
    clear h
    go_enter Try.func14, Try.ntmps14
    go_wp2_with (first | (go_at_call 38; (with_reducible refine (tall_any (by first | assumption | exact HR.out)).mono ?_); rintro e w' ⟨rfl, rfl⟩))
    go_ret
    exact ⟨rfl, rfl⟩
  | some nd =>
    have hl := h.look_some hT
    clear h
    go_enter Try.func14, Try.ntmps14
    go_wp2_with (first | (go_at_call 38; (with_reducible refine (tall_any (by first | assumption | exact HR.out)).mono ?_); rintro e w' ⟨rfl, rfl⟩))
    go_ret
    exact ⟨rfl, rfl⟩

/-- which box it is in -/
def upOf (T : Tr.T) (z : Int) : Int := match T z with
  | none => -1
  | some nd => nd.up

theorem tup_any (h : Rep w t L T n) {z : Int} (hz : Wf z) : Calls Try.prog 16 #[.pointer (some ⟨t, 0, none⟩), .int .i64 z] w fun e w' => e = .returned (.int .i64 (upOf T z)) ∧ w = w' := by
  have key := thas_any h hz
  unfold upOf
  cases hT : T z with
  | none =>
    rw [hT] at key
    clear h
    go_enter Try.func16, Try.ntmps16
    go_wp2_with (go_at_call 14; (with_reducible refine key.mono ?_); rintro e w' ⟨rfl, rfl⟩)
    go_ret
    exact ⟨rfl, rfl⟩
  | some nd =>
    rw [hT] at key
    have hl := h.look_some hT
    have c0 := h.cT
    have c1 := h.cUp hT
    clear h
    go_enter Try.func16, Try.ntmps16
    go_wp2_with (go_at_call 14; (with_reducible refine key.mono ?_); rintro e w' ⟨rfl, rfl⟩)
    go_ret
    exact ⟨rfl, rfl⟩

theorem tlen_any (h : Rep w t L T n) : Calls Try.prog 27 #[.pointer (some ⟨t, 0, none⟩)] w fun e w' => e = .returned (.int .i64 (n : Int)) ∧ w = w' := by
  have HR := Lib.hid h
  have hl := fun ty => h.map.len ty
  clear h
  go_enter Try.func27, Try.ntmps27
  go_wp2_with (first | (go_at_call 38; (with_reducible refine (tall_any (by first | assumption | exact HR.out)).mono ?_); rintro e w' ⟨rfl, rfl⟩))
  go_ret
  exact ⟨rfl, rfl⟩

theorem tkids_any (h : Rep w t L T n) {z : Int} (hz : Wf z) : Calls Try.prog 23 #[.pointer (some ⟨t, 0, none⟩), .int .i64 z] w fun e w' => (∃ v, e = .returned v ∧ w'.ownsRow w.heap.size 3 1 v ((T z).elim [] (·.kids)).length (((T z).elim [] (·.kids)).map (Value.int .i64))) ∧ Below w.heap.size w w' := by
  have key := thas_any h hz
  cases hT : T z with
  | none =>
    rw [hT] at key
    clear h
    go_enter Try.func23, Try.ntmps23
    go_wp2_with (go_at_call 14; (with_reducible refine key.mono ?_); rintro e w' ⟨rfl, rfl⟩)
    go_ret
    exact ⟨⟨_, rfl, World.ownsRow_nil _ _ _ _⟩, Below.refl _ _⟩
  | some nd =>
    rw [hT] at key
    have hl := h.look_some hT
    have c0 := h.cT
    have c1 := h.cKids hT
    have key2 := clone_any (h.row z nd hT) (by have := (h.small z nd hT).2.2.2.2; omega)
    obtain ⟨A, c, hs, _⟩ := (h.row z nd hT).ints
    rw [hs] at key2 c1
    show Calls _ _ _ _ fun e w' => (∃ v, e = .returned v ∧ w'.ownsRow w.heap.size 3 1 v nd.kids.length (nd.kids.map (Value.int .i64))) ∧ Below w.heap.size w w'
    clear h
    generalize nd.kids = l at *
    generalize l.length = m at *
    clear hs
    go_enter Try.func23, Try.ntmps23
    go_wp2_with (first | (go_at_call 14; (with_reducible refine key.mono ?_); rintro e w' ⟨rfl, rfl⟩) | (go_at_call 39; (with_reducible refine key2.mono ?_); rintro e w' ⟨⟨v, rfl, ho⟩, hb⟩))
    go_ret
    exact ⟨⟨_, rfl, ho⟩, hb⟩

theorem results_sty1 {fn : Func} {p : Tmp} (h : fn.results = #[.cell p 43]) (tmps : Array Value) {W : World} {b : Nat} {s : Re.St} (hp : tmps.getD p undef = .pointer (some ⟨b, 0, none⟩)) (ha : At W b (.cells (cells s) 43)) :
    (results fn tmps).run Try.prog W = .ok (.agg (cells s)) W := by
  have hp' : tmps[p]?.getD undef = .pointer (some ⟨b, 0, none⟩) := by simpa using hp
  simp [results, h, hp', asAddr, loadVar_style ha]

theorem tstyle_any (h : Rep w t L T n) {z : Int} (hz : Wf z) : Calls Try.prog 20 #[.pointer (some ⟨t, 0, none⟩), .int .i64 z] w fun e w' => e = .returned (.agg (cells ((T z).elim Re.zero (·.sty)))) ∧ Below w.heap.size w w' := by
  have h1 := h.alloc (.cells (cells Re.zero) 43)
  have key := thas_any h1 hz
  have hA : At (w.alloc (.cells (cells Re.zero) 43)) w.heap.size (.cells (cells Re.zero) 43) := At.new _ _
  have hB : Below w.heap.size w (w.alloc (.cells (cells Re.zero) 43)) := Below.alloc' (Below.refl _ _) _
  cases hT : T z with
  | none =>
    rw [hT] at key
    clear h h1
    generalize hW : w.alloc (.cells (cells Re.zero) 43) = w1 at *
    go_enter Try.func20, Try.ntmps20
    go_wp2_with (first | (refine wpList_alloc_style (by rfl) rfl ?_; rw [hW]; clear hW) | (refine wpList_alloc_style (by rfl) rfl ?_) | (refine wpList_build_zero (by rfl) rfl ?_) | (refine wpList_load_style (by rfl) _ rfl rfl (by first | assumption | (with_reducible exact At.new _ _)) ?_) | (refine wpList_store_same (by rfl) _ _ rfl rfl rfl (by first | assumption | (with_reducible exact At.new _ _)) ?_) | (refine wpList_store_style (by rfl) _ _ rfl rfl rfl (by first | assumption | (with_reducible exact At.new _ _)) ?_) | (go_at_call 14; (with_reducible refine key.mono ?_); rintro e w' ⟨rfl, rfl⟩))
    refine bodyPost_ret (results_sty1 rfl _ (by rfl) hA) rfl ⟨rfl, hB⟩
  | some nd =>
    rw [hT] at key
    have hl := h1.look_some hT
    have c0 := h1.cT
    have hS := Lib.hid (h1.sty hT)
    show Calls _ _ _ _ fun e w' => e = .returned (.agg (cells nd.sty)) ∧ _
    clear h h1
    generalize nd.sty = s at *
    generalize hW : w.alloc (.cells (cells Re.zero) 43) = w1 at *
    generalize hb : w.heap.size = b at *
    go_enter Try.func20, Try.ntmps20
    go_wp2_with (first | (refine wpList_alloc_style (by rfl) rfl ?_; rw [hW, hb]; clear hW) | (refine wpList_load_sty (by rfl) _ rfl rfl hS.out ?_) | (refine wpList_store_style (by rfl) _ _ rfl rfl rfl hA ?_) | (go_at_call 14; (with_reducible refine key.mono ?_); rintro e w' ⟨rfl, rfl⟩))
    refine bodyPost_ret (results_sty1 rfl _ (by rfl) (hA.setRow _)) rfl ⟨rfl, below_setRow hB (Nat.le_refl _) _⟩
end

section
variable {w : World} {t n : Nat} {L : Lay} {T : Tr.T}

/-- the least number that no box has -/
def IsFree (T : Tr.T) (z : Int) : Prop := 0 ≤ z ∧ T z = none ∧ ∀ y, 0 ≤ y → y < z → T y ≠ none

theorem tfree_any (h : Rep w t L T n) : Calls Try.prog 47 #[.pointer (some ⟨t, 0, none⟩)] w fun e w' => (∃ z, e = .returned (.int .i64 z) ∧ IsFree T z) ∧ w' = w := by
  have hs : ∀ z, T z ≠ none → z < 4096 := fun z hz => by obtain ⟨nd, hn⟩ := Option.ne_none_iff_exists'.1 hz; exact (h.small z nd hn).2.1
  have HR := Lib.hid h
  clear h
  go_enter Try.func47, Try.ntmps47
  go_wp2
  go_loop [3] (fun p => ∃ k : Nat, k ≤ 4096 ∧ p = .int .i64 k ∧ ∀ y : Int, 0 ≤ y → y < k → T y ≠ none) (fun p => 4096 - (intOf p).toNat)
  case atStart => exact ⟨0, by omega, rfl, fun y h0 h1 => by omega⟩
  case round =>
    obtain ⟨k, hk, rfl, hb⟩ := hrel
    have key := thas_any HR.out (z := (k : Int)) (by rw [wf_iff]; omega)
    have HB := Lib.hid hb
    clear hb
    cases hT : T (k : Int) with
    | none =>
      rw [hT] at key
      go_wp2_with (go_at_call 14; (with_reducible refine key.mono ?_); rintro e w' ⟨rfl, rfl⟩)
      go_ret
      exact ⟨⟨_, rfl, by omega, hT, HB.out⟩, rfl⟩
    | some nd =>
      rw [hT] at key
      have hk4 := hs k (by simp [hT])
      go_wp2_with (go_at_call 14; (with_reducible refine key.mono ?_); rintro e w' ⟨rfl, rfl⟩)
      go_round
      case rel => exact ⟨k + 1, by omega, by go_num, fun y h0 h1 => by
        by_cases e : y = k
        · subst e; simp [hT]
        · exact HB.out y h0 (by omega)⟩
      case measure => simp [intOf]; omega

/-- how many kids a box has, without one of them -/
theorem tothers_any (h : Rep w t L T n) {u x : Int} {p : Tr.Nd} (hu : T u = some p) (hx : Wf x) : Calls Try.prog 44 #[.pointer (some ⟨t, 0, none⟩), .int .i64 u, .int .i64 x] w fun e w' => e = .returned (.int .i64 (if upOf T x = u then (p.kids.length : Int) - 1 else p.kids.length)) ∧ w = w' := by
  have key := tup_any h hx
  have hl := h.look_some hu
  have c0 := h.cT
  have c1 := h.cKids hu
  have hs := (h.small u p hu).2.2.2.2
  obtain ⟨A, c, hv, _⟩ := (h.row u p hu).ints
  rw [hv] at c1
  clear h hv
  generalize p.kids.length = m at *
  generalize upOf T x = y at *
  have hw : IntKind.i64.wrap ((m : Int) - 1) = (m : Int) - 1 := by rw [IntWalk.i64_in _ (by omega)]
  by_cases e : y = u
  · rw [if_pos e]
    have eb : (y == u) = true := by simpa using e
    have HE := Lib.hid e
    clear e
    subst_eqs
    go_enter Try.func44, Try.ntmps44
    go_wp2_with (go_at_call 16; (with_reducible refine key.mono ?_); rintro e w' ⟨rfl, rfl⟩)
    go_ret
    exact ⟨rfl, rfl⟩
  · rw [if_neg e]
    have eb : (y == u) = false := by simpa using e
    go_enter Try.func44, Try.ntmps44
    go_wp2_with (go_at_call 16; (with_reducible refine key.mono ?_); rintro e w' ⟨rfl, rfl⟩)
    go_ret
    exact ⟨rfl, rfl⟩
end

end Go.Proofs.Ytmjnlnnedjmcfaa.Fix
