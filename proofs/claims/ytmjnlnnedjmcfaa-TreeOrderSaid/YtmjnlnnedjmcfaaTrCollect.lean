/- What ranges over what is in a box: Collect, Order, holds. -/
import Derived.Test.YtmjnlnnedjmcfaaTrIter
import Derived.Maps.OwnIn
namespace Go.Proofs.Ytmjnlnnedjmcfaa.Fix
open Go.ChangeShapes Go.WideShapes Go.ChangeAt Go.RowKit Go.Shelf
set_option linter.unusedVariables false
set_option linter.unusedSimpArgs false
set_option maxRecDepth 100000
attribute [local go_sem] Oper.semAt_some

theorem ownsRow_out {M : Nat → Prop} {W W' : World} {base : Nat} {e : TypeId} {size : Nat} {v : Value} {n : Nat} {xs : List Value} (h : W.ownsRow base e size v n xs) (hm : ∀ g, v.ownBlock = some g → ¬ M g) (k : Out M W W') : W'.ownsRow base e size v n xs := by
  refine ⟨h.1, ?_⟩
  rcases h.2 with q | ⟨g, cap, cur, rfl, hb, hg, r⟩
  · exact .inl q
  · exact .inr ⟨g, cap, cur, rfl, hb, (show At W g _ from hg).out (hm g rfl) k, r⟩

theorem rowBase {W : World} {base base' : Nat} {e : TypeId} {size : Nat} {v : Value} {k : Nat} {xs : List Value} (h : W.ownsRow base e size v k xs) (hb : base' ≤ base) : W.ownsRow base' e size v k xs := by
  refine ⟨h.1, ?_⟩
  rcases h.2 with q | ⟨g, cap, cur, q1, q2, r⟩
  · exact .inl q
  · exact .inr ⟨g, cap, cur, q1, Nat.le_trans hb q2, r⟩

set_option maxHeartbeats 4000000 in
theorem aseq_any {t n f tb ib : Nat} {L : Lay} {T : Tr.T} {x : Int} {w : World} (hR : Rep w t L T n) (hfit : Tr.Fit T f x) (hlen : (Tr.sub T f x).length ≤ 10000) (htb : At w tb (.cells #[.pointer (some ⟨t, 0, none⟩)] 24)) (hib : At w ib (.cells #[.int .i64 x] 3)) :
    Calls Try.prog 53 #[.slice none 0 0, .func (.func 54) #[] #[.pointer (some ⟨tb, 0, none⟩), .pointer (some ⟨ib, 0, none⟩)]] w fun e w' =>
      (∃ v, e = .returned v ∧ w'.ownsRow w.heap.size 3 1 v (Tr.sub T f x).length ((Tr.sub T f x).map (Value.int .i64))) ∧ Below w.heap.size w w' := by
  obtain ⟨i0, hi, hz0, hz1, hz2⟩ := info_parts intZero
  obtain ⟨l, hl⟩ : ∃ l, Hid (l = Tr.sub T f x) := ⟨_, Lib.hid rfl⟩
  rw [← hl.out] at hlen ⊢
  obtain ⟨q, hq⟩ : ∃ q : Nat → Int, Hid (∀ i, q i = l.getD i 0) := ⟨_, Lib.hid fun _ => rfl⟩
  have hB0 : Below w.heap.size w (w.alloc (.cells #[.slice none 0 0] 50)) := Below.alloc' (Below.refl _ _) _
  have hA0 : At (w.alloc (.cells #[.slice none 0 0] 50)) w.heap.size (.cells #[.slice none 0 0] 50) := At.new _ _
  have hsz : (w.alloc (.cells #[.slice none 0 0] 50)).heap.size = w.heap.size + 1 := by simp
  have hR0 := hR.after hB0
  have htb0 := htb.keep hB0
  have hib0 := hib.keep hB0
  have ltb := htb.lt
  have lib := hib.lt
  have HRW := Lib.hid hR
  clear hR htb hib
  refine (callsIn_wide (n := 5)).1 ?_
  refine callsIn_of_wp_marks Try.func53 rfl trivial ?_ rfl
  simp only [Try.ntmps53, List.size_toArray, List.length_cons, List.length_nil, Nat.reduceAdd, Nat.reduceSub, Array.replicate_succ, Array.replicate_zero, List.push_toArray, List.append_toArray, List.nil_append, List.cons_append]
  gi_wp2
  generalize w.alloc (.cells #[.slice none 0 0] 50) = W0 at *
  refine range_own (gf := 54) (first := #[]) (lb := #[.pointer (some ⟨tb, 0, none⟩), .pointer (some ⟨ib, 0, none⟩)]) rfl (enters_of Try.func54 (by kernel_rfl) rfl) l.length (fun i => #[.int .i64 (q i)]) (fun _ => rfl)
    (fun i S W => ∃ v, (∀ b, S b ↔ b = w.heap.size ∨ v.ownBlock = some b) ∧ At W w.heap.size (.cells #[v] 50) ∧ W.ownsRow w.heap.size 3 1 v i ((l.take i).map (Value.int .i64)))
    (fun _ _ => False) ?stab (fun _ _ _ _ h _ _ => h) (fun b => b = w.heap.size) (fun b hb => by omega)
    ⟨.slice none 0 0, fun b => by simp [Value.ownBlock], hA0, by simpa using World.ownsRow_nil W0 w.heap.size 3 1⟩ ?hit
    (fun i t => (t.setIfInBounds 7 (.int .i64 (q i))).setIfInBounds 5 (.int .i64 (q i))) ?assign ?body ?done ?stop
  case stab =>
    rintro i S M W W' ⟨v, h1, h2, h3⟩ ho hm
    exact ⟨v, h1, h2.out (hm _ ((h1 _).2 (.inl rfl))) ho, ownsRow_out h3 (fun g hg => hm g ((h1 g).2 (.inr hg))) ho⟩
  case hit =>
    intro lp J Jx S1 V hb hs1 hj hjx hy h0
    rw [hl.out] at hy ⊢
    refine whole_in f x _ lp tb ib t n L T J Jx S1 V hfit (hR0.after hb) (htb0.keep hb) (hib0.keep hb) (fun b hs => ?_) hj hjx (fun m i S W h1 h2 => by rw [← hl.out, ← hq.out i]; exact hy m i S W h1 h2) h0
    obtain ⟨h1, h2⟩ := hs1 b hs
    refine ⟨h2, fun r => ?_, by omega, by omega⟩
    have := HRW.out.lt r
    omega
  case assign =>
    intro l1 m1 i V G hi hG
    simp only [List.setIfInBounds_toArray, List.set_cons_zero, List.set_cons_succ] at hG
    gi_wp2
    first | exact hG | simpa using hG
  case body =>
    rintro l1 m1 i S W hi2 ⟨v, h1, h2, h3⟩
    have htk : Hid ((l.take (i + 1)).map (Value.int .i64) = (l.take i).map (Value.int .i64) ++ [.int .i64 (q i)]) := Lib.hid (by rw [take_snoc_int l i hi2, List.map_append, hq.out i]; rfl)
    have hvB : v.ownBlock ≠ some w.heap.size := fun e => by
      rcases h3.2 with ⟨rfl, _⟩ | ⟨g, cap, cur, rfl, _, hg, _⟩
      · cases e
      · simp [Value.ownBlock] at e
        rw [e] at hg
        have := (show At W _ _ from hg).uniq h2; injection this with _ e2; exact absurd e2 (by decide)
    have hc := h2.cell 0
    have hz := h2.thaw 0
    have hlt := h2.lt
    simp at hc
    generalize q i = y at *
    have H1 := Lib.hid h1
    have H2 := Lib.hid h2
    have H3 := Lib.hid h3
    clear h1 h2
    simp only [List.setIfInBounds_toArray, List.set_cons_zero, List.set_cons_succ]
    gi_wp2_with (gi_at_builtin; refine wpListIn_append_own_at _ rfl _ _ 50 rfl w.heap.size 3 i0 (.int .i64 0) 1 8 Try.underlying50 hi hz0 hz1 hz2 rfl (by decide) _ _ _ rfl (H3.out.alloc _) ⟨W.heap.size, 0, none⟩ 1 1 [.int .i64 y] rfl rfl (cell_one_new _ _ _) (by simp [Value.oneCell']) (by simp only [maxLen]; omega) (by omega) (by simp; omega) ?_)
    intro v' w1 hown' hgrow _ hat
    obtain ⟨g', cap', rfl⟩ := ownsRow_succ hown'
    have hA1 := (H2.out.alloc (.cells #[.int .i64 y] 3)).out (M := fun b => v.ownBlock = some b) hvB (Out.grown hgrow fun b e => e)
    have hc1 := hA1.cell 0
    have hz1' := hA1.thaw 0
    simp at hc1
    gi_wp2
    have hg' : g' ≠ w.heap.size := fun e => by
      rcases hown'.2 with ⟨q1, _⟩ | ⟨g, cap, cur, q1, _, hg, _⟩
      · cases q1
      · injection q1 with q1
        injection q1 with q1
        injection q1 with q1
        subst q1
        rw [e] at hg
        have := (show At w1 _ _ from hg).uniq hA1; injection this with _ e2; exact absurd e2 (by decide)
    have hgl : g' < w1.heap.size := (hown'.lt g' rfl).2
    have o1 : Out S W (W.alloc (.cells #[.int .i64 y] 3)) := Out.of_below (Below.alloc' (Below.refl _ _) _)
    have o2 : Out S (W.alloc (.cells #[.int .i64 y] 3)) w1 := Out.grown hgrow fun b e => (H1.out b).2 (.inr e)
    have o3 : Out (fun b => b = w.heap.size) w1 (w1.setCell ⟨w.heap.size, 0, none⟩ (.slice (some ⟨g', 0, none⟩) (i + 1) cap')) := (Out.refl _ _).set (M := fun b => b = w.heap.size) rfl 0 _
    have o4 : Out S w1 (w1.setCell ⟨w.heap.size, 0, none⟩ (.slice (some ⟨g', 0, none⟩) (i + 1) cap')) := o3.mono fun b _ e => (H1.out b).2 (.inl e)
    refine ⟨fun b => b = w.heap.size ∨ b = g', ⟨(o1.trans o2).trans o4, fun b hb => ?_⟩, _, fun b => ?_, hA1.set 0 _, ?_⟩
    · rcases hb with hb | hb
      · exact .inl ((H1.out b).2 (.inl hb))
      · subst hb
        rcases hat with e | e
        · exact .inl ((H1.out b).2 (.inr (e ▸ rfl)))
        · simp [Value.ownBlock] at e
          refine .inr ⟨by omega, ?_⟩
          have : (w1.setCell ⟨w.heap.size, 0, none⟩ (.slice (some ⟨b, 0, none⟩) (i + 1) cap')).heap.size = w1.heap.size := by simp [World.setCell]
          omega
    · simp only [Value.ownBlock, Option.some.injEq]
      constructor <;> (intro hb; omega)
    · rw [htk.out, List.map_take]
      exact ownsRow_out hown' (fun g hg q => hg' (by simp [Value.ownBlock] at hg; rw [hg]; exact q)) o3
  case done =>
    rintro D S W hDl hw hDS ⟨v, h1, h2, h3⟩ hDo
    have hc := h2.cell 0
    simp at hc
    have hBW : Below w.heap.size w W := hB0.trans (hw.1.below (by omega) fun b hb e => by omega)
    rw [List.take_length] at h3
    gi_wp2
    refine ⟨by simp, .inl ⟨_, _, rfl, run_takeDeferred hDo, ?_⟩⟩
    have hoD : Out (fun b => b = D) W (W.putObj D (.deferred none)) := Out.putObj W D _
    refine ⟨_, results_tmp rfl _ _ _, ⟨v, rfl, ownsRow_out h3 (fun g hg (q : g = D) => ?_) hoD⟩, hBW.trans (hoD.below (by have := hBW.size; omega) fun b hb (q : b = D) => by omega)⟩
    exact hDS ((h1 D).2 (.inr (q ▸ hg)))
  case stop =>
    rintro D S W _ _ _ h _
    exact h.elim

theorem collect_any {t n f tb ib : Nat} {L : Lay} {T : Tr.T} {x : Int} {w : World} (hR : Rep w t L T n) (hfit : Tr.Fit T f x) (hlen : (Tr.sub T f x).length ≤ 10000) (htb : At w tb (.cells #[.pointer (some ⟨t, 0, none⟩)] 24)) (hib : At w ib (.cells #[.int .i64 x] 3)) :
    Calls Try.prog 40 #[.func (.func 54) #[] #[.pointer (some ⟨tb, 0, none⟩), .pointer (some ⟨ib, 0, none⟩)]] w fun e w' =>
      (∃ v, e = .returned v ∧ w'.ownsRow w.heap.size 3 1 v (Tr.sub T f x).length ((Tr.sub T f x).map (Value.int .i64))) ∧ Below w.heap.size w w' := by
  have key := aseq_any hR hfit hlen htb hib
  clear hR hfit hlen htb hib
  generalize Tr.sub T f x = l at *
  go_enter Try.func40, Try.ntmps40
  go_wp2_with (go_at_call 53; (with_reducible refine key.mono ?_); rintro e w' ⟨⟨v, rfl, ho⟩, hb⟩)
  go_ret
  exact ⟨⟨_, rfl, ho⟩, hb⟩

/-- all boxes, in their order -/
theorem torder_any {w : World} {t n : Nat} {L : Lay} {T : Tr.T} (h : Rep w t L T n) (hf : Tr.Fit T 64 0) (hl : (Tr.ord T).length ≤ 10000) : Calls Try.prog 26 #[.pointer (some ⟨t, 0, none⟩)] w fun e w' => (∃ v, e = .returned v ∧ w'.ownsRow w.heap.size 3 1 v (Tr.ord T).length ((Tr.ord T).map (Value.int .i64))) ∧ Below w.heap.size w w' := by
  have key := collect_any (h.after (W' := (w.alloc (.cells #[.pointer (some ⟨t, 0, none⟩)] 24)).alloc (.cells #[.int .i64 0] 3)) (Below.alloc' (Below.alloc' (Below.refl _ _) _) _)) hf hl ((At.new w _).alloc _) (At.new' (b := w.heap.size + 1) _ (by simp))
  have hb0 : Below w.heap.size w ((w.alloc (.cells #[.pointer (some ⟨t, 0, none⟩)] 24)).alloc (.cells #[.int .i64 0] 3)) := Below.alloc' (Below.alloc' (Below.refl _ _) _) _
  clear h
  change Calls _ _ _ _ (fun e w' => (∃ v, e = .returned v ∧ w'.ownsRow _ _ 1 v (Tr.ord T).length ((Tr.ord T).map (Value.int .i64))) ∧ _) at key
  generalize Tr.ord T = l at *
  go_enter Try.func26, Try.ntmps26
  go_wp2_with (first | (go_at_call 41; (with_reducible refine (whole_any _ _ _).mono ?_); rintro e w' ⟨rfl, rfl⟩) | (go_at_call 40; (with_reducible refine key.mono ?_); rintro e w' ⟨⟨v, rfl, ho⟩, hb⟩))
  go_ret
  exact ⟨⟨_, rfl, rowBase ho (by simp; omega)⟩, hb0.trans (hb.mono (by simp; omega))⟩

/-- whether a box is another one, or in it -/
theorem tholds_any {w : World} {t n f : Nat} {L : Lay} {T : Tr.T} {x y : Int} (hR : Rep w t L T n) (hfit : Tr.Fit T f x) :
    Calls Try.prog 43 #[.pointer (some ⟨t, 0, none⟩), .int .i64 x, .int .i64 y] w fun e w' => e = .returned (.bool (decide (y ∈ Tr.sub T f x))) ∧ Below w.heap.size w w' := by
  obtain ⟨l, hl⟩ : ∃ l, Hid (l = Tr.sub T f x) := ⟨_, Lib.hid rfl⟩
  rw [← hl.out]
  obtain ⟨q, hq⟩ : ∃ q : Nat → Int, Hid (∀ i, q i = l.getD i 0) := ⟨_, Lib.hid fun _ => rfl⟩
  have hA5 : At ((w.alloc (.cells #[.int .i64 y] 3)).alloc (.cells #[.bool false] 4)) w.heap.size (.cells #[.int .i64 y] 3) := (At.new _ _).alloc _
  have hA6 : At ((w.alloc (.cells #[.int .i64 y] 3)).alloc (.cells #[.bool false] 4)) (w.heap.size + 1) (.cells #[.bool false] 4) := At.new' _ (by simp)
  have hB0 : Below w.heap.size w ((w.alloc (.cells #[.int .i64 y] 3)).alloc (.cells #[.bool false] 4)) := Below.alloc' (Below.alloc' (Below.refl _ _) _) _
  have hsz : ((w.alloc (.cells #[.int .i64 y] 3)).alloc (.cells #[.bool false] 4)).heap.size = w.heap.size + 2 := by simp
  generalize hW0 : (w.alloc (.cells #[.int .i64 y] 3)).alloc (.cells #[.bool false] 4) = W0 at *
  have hB1 : Below W0.heap.size W0 ((W0.alloc (.cells #[.pointer (some ⟨t, 0, none⟩)] 24)).alloc (.cells #[.int .i64 x] 3)) := Below.alloc' (Below.alloc' (Below.refl _ _) _) _
  have hA7 : At ((W0.alloc (.cells #[.pointer (some ⟨t, 0, none⟩)] 24)).alloc (.cells #[.int .i64 x] 3)) W0.heap.size (.cells #[.pointer (some ⟨t, 0, none⟩)] 24) := (At.new _ _).alloc _
  have hA8 : At ((W0.alloc (.cells #[.pointer (some ⟨t, 0, none⟩)] 24)).alloc (.cells #[.int .i64 x] 3)) (W0.heap.size + 1) (.cells #[.int .i64 x] 3) := At.new' _ (by simp)
  have hsz1 : ((W0.alloc (.cells #[.pointer (some ⟨t, 0, none⟩)] 24)).alloc (.cells #[.int .i64 x] 3)).heap.size = W0.heap.size + 2 := by simp
  generalize hW1 : (W0.alloc (.cells #[.pointer (some ⟨t, 0, none⟩)] 24)).alloc (.cells #[.int .i64 x] 3) = W1 at *
  have hR1 := (hR.after hB0).after hB1
  have hA5' := hA5.keep hB1
  have hA6' := hA6.keep hB1
  have HRW := Lib.hid hR
  have hB2 := hB0.trans (hB1.mono (by omega))
  clear hR
  refine (callsIn_wide (n := 5)).1 ?_
  refine callsIn_of_wp_marks Try.func43 rfl trivial ?_ rfl
  simp only [Try.ntmps43, List.size_toArray, List.length_cons, List.length_nil, Nat.reduceAdd, Nat.reduceSub, Array.replicate_succ, Array.replicate_zero, List.push_toArray, List.append_toArray, List.nil_append, List.cons_append]
  gi_wp2_with (refine ⟨trivial, ?_⟩; gi_at_call 41; refine (callsIn_wide.2 (whole_any t x W0)).mono ?_; rintro e w' ⟨rfl, rfl⟩)
  (try rw [hW1])
  clear hW0 hW1
  rw [hsz] at hA7 hA8
  refine range_own (gf := 54) (first := #[]) (lb := #[.pointer (some ⟨w.heap.size + 2, 0, none⟩), .pointer (some ⟨w.heap.size + 2 + 1, 0, none⟩)]) rfl (enters_of Try.func54 (by kernel_rfl) rfl) l.length (fun i => #[.int .i64 (q i)]) (fun _ => rfl)
    (fun i S W => (∀ b, S b ↔ b = w.heap.size ∨ b = w.heap.size + 1) ∧ At W w.heap.size (.cells #[.int .i64 y] 3) ∧ At W (w.heap.size + 1) (.cells #[.bool false] 4) ∧ y ∉ l.take i)
    (fun S W => (∀ b, S b ↔ b = w.heap.size ∨ b = w.heap.size + 1) ∧ At W (w.heap.size + 1) (.cells #[.bool true] 4) ∧ y ∈ l) ?stab ?stabx (fun b => b = w.heap.size ∨ b = w.heap.size + 1) (fun b hb => by omega)
    ⟨fun b => Iff.rfl, hA5', hA6', by simp⟩ ?hit
    (fun i t => (t.setIfInBounds 11 (.int .i64 (q i))).setIfInBounds 7 (.int .i64 (q i))) ?assign ?body ?done ?stop
  case stab =>
    rintro i S M W W' ⟨h1, h2, h3, h4⟩ ho hm
    exact ⟨h1, h2.out (hm _ ((h1 _).2 (.inl rfl))) ho, h3.out (hm _ ((h1 _).2 (.inr rfl))) ho, h4⟩
  case stabx =>
    rintro S M W W' ⟨h1, h2, h3⟩ ho hm
    exact ⟨h1, h2.out (hm _ ((h1 _).2 (.inr rfl))) ho, h3⟩
  case hit =>
    intro lp J Jx S1 V hb hs1 hj hjx hy h0
    rw [hl.out] at hy ⊢
    refine whole_in f x _ lp _ _ t n L T J Jx S1 V hfit (hR1.after hb) (hA7.keep hb) (hA8.keep hb) (fun b hs => ?_) hj hjx (fun m i S W h1 h2 => by rw [← hl.out, ← hq.out i]; exact hy m i S W h1 h2) h0
    obtain ⟨h1, h2⟩ := hs1 b hs
    refine ⟨h2, fun r => ?_, by omega, by omega⟩
    have := HRW.out.lt r
    omega
  case assign =>
    intro l1 m1 i V G hi hG
    simp only [List.setIfInBounds_toArray, List.set_cons_zero, List.set_cons_succ] at hG
    gi_wp2
    first | exact hG | simpa using hG
  case body =>
    rintro l1 m1 i S W hi2 ⟨h1, h2, h3, h4⟩
    have htk : Hid (l.take (i + 1) = l.take i ++ [q i]) := Lib.hid (by rw [take_snoc_int l i hi2, hq.out i])
    have hmem : Hid (q i ∈ l) := Lib.hid (by rw [hq.out i, List.getD, List.getElem?_eq_getElem hi2]; exact List.getElem_mem _)
    have hc := h2.cell 0
    have hc3 := h3.cell 0
    have hz3 := h3.thaw 0
    simp at hc hc3
    generalize q i = z at *
    have H1 := Lib.hid h1
    have H2 := Lib.hid h2
    have H3 := Lib.hid h3
    have H4 := Lib.hid h4
    clear h1 h2 h3 h4
    simp only [List.setIfInBounds_toArray, List.set_cons_zero, List.set_cons_succ]
    by_cases e : z = y
    · subst e
      gi_wp2
      exact ⟨S, ⟨(Out.refl _ _).set (M := S) ((H1.out _).2 (.inr rfl)) 0 _, fun b hb => .inl hb⟩, H1.out, H3.out.set 0 _, hmem.out⟩
    · have eb : (z == y) = false := by simpa using e
      gi_wp2
      exact ⟨S, Went.refl _ _, H1.out, H2.out, H3.out, by rw [htk.out, List.mem_append, List.mem_singleton]; exact fun h => h.elim H4.out (fun h => e h.symm)⟩
  case done =>
    rintro D S W hDl hw hDS ⟨h1, h2, h3, h4⟩ hDo
    rw [List.take_length] at h4
    have hc := h3.cell 0
    have hz := h3.thaw 0
    simp at hc
    have hBW : Below w.heap.size w W := hB2.trans (hw.1.below (by omega) fun b hb e => by omega)
    have o3 : Out (fun b => b = w.heap.size + 1) W (W.setCell ⟨w.heap.size + 1, 0, none⟩ (.bool false)) := (Out.refl _ _).set (M := fun b => b = w.heap.size + 1) rfl 0 _
    have hD2 : (W.setCell ⟨w.heap.size + 1, 0, none⟩ (.bool false)).heap[D]? = some (.deferred (some [])) := (show At W D _ from hDo).out (M := fun b => b = w.heap.size + 1) (fun (e : D = w.heap.size + 1) => hDS ((h1 D).2 (.inr e))) o3
    gi_wp2
    refine ⟨by simp, .inl ⟨_, _, rfl, run_takeDeferred hD2, ?_⟩⟩
    have hoD := Out.putObj (W.setCell ⟨w.heap.size + 1, 0, none⟩ (.bool false)) D (.deferred none)
    have hA9 := (h3.set 0 (.bool false)).out (M := fun b => b = D) (fun (e : w.heap.size + 1 = D) => hDS ((h1 D).2 (.inr e.symm))) hoD
    have hBZ : Below w.heap.size w ((W.setCell ⟨w.heap.size + 1, 0, none⟩ (.bool false)).putObj D (.deferred none)) := (hBW.trans (o3.below (by have := hBW.size; omega) fun b hb (q : b = w.heap.size + 1) => by omega)).trans (hoD.below (by have := hBW.size; have := o3.size; omega) fun b hb (q : b = D) => by omega)
    have hc9 := hA9.cell 0
    simp at hc9
    generalize World.putObj _ _ _ = W9 at *
    refine ⟨.bool false, ?_, by simp [h4], hBZ⟩
    simp [results, Try.results43, go_sem, hc9]
  case stop =>
    rintro D S W hDl hw hDS ⟨h1, h3, h4⟩ hDo
    have hBW : Below w.heap.size w W := hB2.trans (hw.1.below (by omega) fun b hb e => by omega)
    gi_wp2
    refine ⟨by simp, .inl ⟨_, _, rfl, run_takeDeferred hDo, ?_⟩⟩
    have hoD := Out.putObj W D (.deferred none)
    have hA9 := h3.out (M := fun b => b = D) (fun (e : w.heap.size + 1 = D) => hDS ((h1 D).2 (.inr e.symm))) hoD
    have hBZ : Below w.heap.size w (W.putObj D (.deferred none)) := hBW.trans (hoD.below (by have := hBW.size; omega) fun b hb (q : b = D) => by omega)
    have hc9 := hA9.cell 0
    simp at hc9
    generalize World.putObj _ _ _ = W9 at *
    refine ⟨.bool true, ?_, by simp [h4], hBZ⟩
    simp [results, Try.results43, go_sem, hc9]


end Go.Proofs.Ytmjnlnnedjmcfaa.Fix
