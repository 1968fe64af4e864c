/- The program's Order and Before; all that is asked of its calls. -/
import Derived.Test.YtbmidmpooooheaaPaWhole
import Derived.Test.YtbmidmpooooheaaPaBrk
namespace Go.Proofs.Ytbmidmpooooheaa.Fix
open Go.ChangeShapes Go.WideShapes Go.ChangeAt Go.RowKit Go.Deep Go.Joins Go.Shelf
set_option linter.unusedVariables false
set_option linter.unusedSimpArgs false
set_option maxRecDepth 100000
attribute [local go_sem] Oper.semAt_some

set_option maxHeartbeats 4000000 in
theorem paseq_any {n mb lo hi tb ib : Nat} {l : Nat → PNd} {w : World} (hv : PV l n) (hn : n ≤ 1000) (hn0 : 0 < n) (hst : Stacks w mb lo hi l n) (htb : At w tb (.cells #[.int .i64 0] 3)) (hib : At w ib (.cells #[.map (some mb)] 47)) :
    Calls Try.prog 29 #[.slice none 0 0, .func (.func 30) #[] #[.pointer (some ⟨tb, 0, none⟩), .pointer (some ⟨ib, 0, none⟩)]] w fun e w' =>
      (∃ v, e = .returned v ∧ w'.ownsRow w.heap.size 3 1 v (ptr_ l n 0).length (pvals (ptr_ l n 0))) ∧ Below w.heap.size w w' := by
  obtain ⟨i0, hi0, hz0, hz1, hz2⟩ := info_parts intZero
  have hNn : (ptr_ l n 0).length = n := by rw [← pord_ptr hv hn0, pord_len hv]
  obtain ⟨L, hL⟩ : ∃ L, Hid (L = ptr_ l n 0) := ⟨_, Lib.hid rfl⟩
  rw [← hL.out] at hNn ⊢
  obtain ⟨q, hq⟩ : ∃ q : Nat → Nat, Hid (∀ i, q i = L.getD i 0) := ⟨_, Lib.hid fun _ => rfl⟩
  have hB0 : Below w.heap.size w (w.alloc (.cells #[.slice none 0 0] 26)) := Below.alloc' (Below.refl _ _) _
  have hA0 : At (w.alloc (.cells #[.slice none 0 0] 26)) w.heap.size (.cells #[.slice none 0 0] 26) := At.new _ _
  have hsz : (w.alloc (.cells #[.slice none 0 0] 26)).heap.size = w.heap.size + 1 := by simp
  have hst0 := hst.after hB0
  have htb0 := htb.keep hB0
  have hib0 := hib.keep hB0
  have ltb := htb.lt
  have lib := hib.lt
  have hhi := hst.le
  have HV := Lib.hid hv
  clear hst htb hib hv
  refine (callsIn_wide (n := 5)).1 ?_
  refine callsIn_of_wp_marks Try.func29 rfl trivial ?_ rfl
  simp only [Try.ntmps29, List.size_toArray, List.length_cons, List.length_nil, Nat.reduceAdd, Nat.reduceSub, Array.replicate_succ, Array.replicate_zero, List.push_toArray, List.append_toArray, List.nil_append, List.cons_append]
  gi_wp2
  generalize w.alloc (.cells #[.slice none 0 0] 26) = W0 at *
  refine range_own (gf := 30) (first := #[]) (lb := #[.pointer (some ⟨tb, 0, none⟩), .pointer (some ⟨ib, 0, none⟩)]) rfl (enters_of Try.func30 (by kernel_rfl) rfl) L.length (fun i => #[.int .i64 (q i : Int)]) (fun _ => rfl)
    (fun i S W => ∃ v, (∀ b, S b ↔ b = w.heap.size ∨ v.ownBlock = some b) ∧ At W w.heap.size (.cells #[v] 26) ∧ W.ownsRow w.heap.size 3 1 v i (pvals (L.take i)))
    (fun _ _ => False) ?stab (fun _ _ _ _ h _ _ => h) (fun b => b = w.heap.size) (fun b hb => by omega)
    ⟨.slice none 0 0, fun b => by simp [Value.ownBlock], hA0, by simpa [pvals, pints] using World.ownsRow_nil W0 w.heap.size 3 1⟩ ?hit
    (fun i t => (t.setIfInBounds 7 (.int .i64 (q i : Int))).setIfInBounds 5 (.int .i64 (q i : Int))) ?assign ?body ?done ?stop
  case stab =>
    rintro i S M W W' ⟨v, h1, h2, h3⟩ ho hm
    exact ⟨v, h1, h2.out (hm _ ((h1 _).2 (.inl rfl))) ho, ownsRow_out h3 (fun g hg => hm g ((h1 g).2 (.inr hg))) ho⟩
  case hit =>
    intro lp J Jx S1 V hb hs1 hj hjx hy h0
    rw [hL.out] at hy ⊢
    refine pwhole_in _ lp tb ib mb lo hi n l J Jx S1 V HV.out hn hn0 (hst0.after hb) (htb0.keep hb) (hib0.keep hb) (fun b hs => ?_) hj hjx (fun m i S W h1 h2 => by rw [← hL.out, ← hq.out i]; exact hy m i S W h1 h2) h0
    obtain ⟨h1, h2⟩ := hs1 b hs
    exact ⟨h2, by omega, by omega, by omega⟩
  case assign =>
    intro l1 m1 i V G hi hG
    simp only [List.setIfInBounds_toArray, List.set_cons_zero, List.set_cons_succ] at hG
    gi_wp2
    first | exact hG | simpa using hG
  case body =>
    rintro l1 m1 i S W hi2 ⟨v, h1, h2, h3⟩
    have htk : Hid (pvals (L.take (i + 1)) = pvals (L.take i) ++ [.int .i64 (q i : Int)]) := Lib.hid (by
      rw [List.take_succ_eq_append_getElem hi2, hq.out i]
      unfold pvals pints
      rw [List.map_append, List.map_append, List.getD, List.getElem?_eq_getElem hi2]
      rfl)
    have hvB : v.ownBlock ≠ some w.heap.size := fun e => by
      rcases h3.2 with ⟨rfl, _⟩ | ⟨g, cap, cur, rfl, _, hg, _⟩
      · cases e
      · simp [Value.ownBlock] at e
        rw [e] at hg
        have hx := (show W.heap[w.heap.size]? = some (.cells cur 3) from hg).symm.trans h2
        injection hx with hx
        injection hx with _ e2
        exact absurd e2 (by decide)
    have hc := h2.cell 0
    have hz := h2.thaw 0
    have hlt := h2.lt
    simp only [List.getElem?_toArray, List.getElem?_cons_zero] at hc
    generalize q i = y at *
    have H1 := Lib.hid h1
    have H2 := Lib.hid h2
    have H3 := Lib.hid h3
    clear h1 h2
    simp only [List.setIfInBounds_toArray, List.set_cons_zero, List.set_cons_succ]
    gi_wp2_with (gi_at_builtin; refine wpListIn_append_own_at _ rfl _ _ 26 rfl w.heap.size 3 i0 (.int .i64 0) 1 8 Try.underlying26 hi0 hz0 hz1 hz2 rfl (by decide) _ _ _ rfl (H3.out.alloc _) ⟨W.heap.size, 0, none⟩ 1 1 [.int .i64 (y : Int)] rfl rfl (cell_one_new _ _ _) (by simp [Value.oneCell']) (by simp only [maxLen]; omega) (by omega) (by simp; omega) ?_)
    intro v' w1 hown' hgrow _ hat
    obtain ⟨g', cap', rfl⟩ := ownsRow_succ hown'
    have hA1 := (H2.out.alloc (.cells #[.int .i64 (y : Int)] 3)).out (M := fun b => v.ownBlock = some b) hvB (Out.grown hgrow fun b e => e)
    have hc1 := hA1.cell 0
    have hz1' := hA1.thaw 0
    have hl1 := hA1.lt
    simp only [List.getElem?_toArray, List.getElem?_cons_zero] at hc1
    clear hc hz hlt
    gi_wp2
    have hg' : g' ≠ w.heap.size := fun e => by
      rcases hown'.2 with ⟨q1, _⟩ | ⟨g, cap, cur, q1, _, hg, _⟩
      · cases q1
      · injection q1 with q1
        injection q1 with q1
        injection q1 with q1
        subst q1
        rw [e] at hg
        have hx := (show w1.heap[w.heap.size]? = some (.cells cur 3) from hg).symm.trans hA1
        injection hx with hx
        injection hx with _ e2
        exact absurd e2 (by decide)
    have hgl : g' < w1.heap.size := (World.ownsRow.lt hown' g' rfl).2
    have o1 : Out S W (W.alloc (.cells #[.int .i64 (y : Int)] 3)) := Out.of_below (Below.alloc' (Below.refl _ _) _)
    have o2 : Out S (W.alloc (.cells #[.int .i64 (y : Int)] 3)) w1 := Out.grown hgrow fun b e => (H1.out b).2 (.inr e)
    have o3 : Out (fun b => b = w.heap.size) w1 (w1.setCell ⟨w.heap.size, 0, none⟩ (.slice (some ⟨g', 0, none⟩) (i + 1) cap')) := (Out.refl _ _).set (M := fun b => b = w.heap.size) rfl 0 _
    have o4 : Out S w1 (w1.setCell ⟨w.heap.size, 0, none⟩ (.slice (some ⟨g', 0, none⟩) (i + 1) cap')) := o3.mono fun b _ e => (H1.out b).2 (.inl e)
    refine ⟨fun b => b = w.heap.size ∨ b = g', ⟨(o1.trans o2).trans o4, fun b hb => ?_⟩, _, fun b => ?_, hA1.set 0 _, ?_⟩
    · rcases hb with hb | hb
      · exact .inl ((H1.out b).2 (.inl hb))
      · subst hb
        rcases hat with e | e
        · exact .inl ((H1.out b).2 (.inr (e ▸ rfl)))
        · simp [Value.ownBlock] at e
          refine .inr ⟨by omega, ?_⟩
          have : (w1.setCell ⟨w.heap.size, 0, none⟩ (.slice (some ⟨b, 0, none⟩) (i + 1) cap')).heap.size = w1.heap.size := by simp [World.setCell]
          omega
    · simp only [Value.ownBlock, Option.some.injEq]
      constructor <;> (intro hb; omega)
    · rw [htk.out]
      exact ownsRow_out hown' (fun g hg q => hg' (by simp [Value.ownBlock] at hg; rw [hg]; exact q)) o3
  case done =>
    rintro D S W hDl hw hDS ⟨v, h1, h2, h3⟩ hDo
    have hc := h2.cell 0
    simp only [List.getElem?_toArray, List.getElem?_cons_zero] at hc
    have hBW : Below w.heap.size w W := hB0.trans (hw.1.below (by omega) fun b hb e => by omega)
    rw [List.take_length] at h3
    gi_wp2
    refine ⟨by simp, .inl ⟨_, _, rfl, run_takeDeferred hDo, ?_⟩⟩
    have hoD : Out (fun b => b = D) W (W.putObj D (.deferred none)) := Out.putObj W D _
    refine ⟨_, results_tmp rfl _ _ _, ⟨v, rfl, ownsRow_out h3 (fun g hg (q : g = D) => ?_) hoD⟩, hBW.trans (hoD.below (by have := hBW.size; omega) fun b hb (q : b = D) => by omega)⟩
    exact hDS ((h1 D).2 (.inr (q ▸ hg)))
  case stop =>
    rintro D S W _ _ _ h _
    exact h.elim

theorem pcollect_any {n mb lo hi tb ib : Nat} {l : Nat → PNd} {w : World} (hv : PV l n) (hn : n ≤ 1000) (hn0 : 0 < n) (hst : Stacks w mb lo hi l n) (htb : At w tb (.cells #[.int .i64 0] 3)) (hib : At w ib (.cells #[.map (some mb)] 47)) :
    Calls Try.prog 24 #[.func (.func 30) #[] #[.pointer (some ⟨tb, 0, none⟩), .pointer (some ⟨ib, 0, none⟩)]] w fun e w' =>
      (∃ A c, e = .returned (.slice A (ptr_ l n 0).length c) ∧ Ints w' A (pints (ptr_ l n 0))) ∧ Below w.heap.size w w' := by
  have key := paseq_any hv hn hn0 hst htb hib
  clear hv hn hn0 hst htb hib
  generalize ptr_ l n 0 = L at *
  go_enter Try.func24, Try.ntmps24
  go_wp2_with (go_at_call 29; (with_reducible refine key.mono ?_); rintro e w' ⟨⟨v, rfl, hown⟩, hb⟩; obtain ⟨A, c, rfl, hI, _⟩ := (Rv.of_own hown).ints)
  go_ret
  exact ⟨⟨A, c, rfl, hI⟩, hb⟩

theorem phasB_iff {l : Nat → PNd} {n : Nat} {a : Int} : phasB l n a = true ↔ 0 ≤ a ∧ a < n ∧ PV l n := by
  unfold phasB
  simp [pvB_iff]

theorem porder_any {w : World} {A : Option Addr} {l : Nat → PNd} {n c : Nat} (h : PSl w A l n c) (hn : n ≤ 1000) : Calls Try.prog 16 #[.slice A n c] w fun e w' => (∃ B d, e = .returned (.slice B (pord l n).length d) ∧ Ints w' B (pints (pord l n))) ∧ Below w.heap.size w w' := by
  have HS := Lib.hid h
  clear h
  obtain ⟨r, hr⟩ : ∃ r, phasB l n 0 = r := ⟨_, rfl⟩
  have HR := Lib.hid hr
  cases r with
  | false =>
    have e : pord l n = [] := by
      by_cases hv : PV l n
      · have : n = 0 := by
          rcases Nat.eq_zero_or_pos n with q | q
          · exact q
          · have := phasB_iff.2 ⟨Int.le_refl 0, by omega, hv⟩
            rw [hr] at this; cases this
        subst this
        rw [pord_some hv]; rfl
      · unfold pord
        rw [if_neg (fun q => hv (pvB_iff.1 q))]
    rw [e]
    clear hr e
    go_enter Try.func16, Try.ntmps16
    go_wp2_with (go_at_call 23; (with_reducible refine (phas_any HS.out hn 0).mono ?_); rintro e w' ⟨rfl, rfl⟩; rw [HR.out])
    go_ret
    exact ⟨⟨none, 0, rfl, ⟨by simp [pints], fun h => absurd h (by simp [pints])⟩⟩, Below.refl _ _⟩
  | true =>
    obtain ⟨_, hn0, hv⟩ := phasB_iff.1 hr
    have hn1 : 0 < n := by omega
    rw [pord_ptr hv hn1]
    have HV := Lib.hid hv
    clear hr hv hn0
    go_enter Try.func16, Try.ntmps16
    go_upto_region 3 with (go_at_call 23; (with_reducible refine (phas_any HS.out hn 0).mono ?_); rintro e w' ⟨rfl, rfl⟩; rw [HR.out])
    go_wp2_with (first
      | (go_at_call 26; (with_reducible refine (pstacks_any HS.out HV.out hn).mono ?_); rintro e w1 ⟨⟨mb, rfl, hst⟩, hB1⟩)
      | (go_at_call 25; (with_reducible refine (pwhol_any mb 0 _).mono ?_); rintro e w2 ⟨rfl, rfl⟩;
          have hB2 : Below w1.heap.size w1 ((w1.alloc (.cells #[.map (some mb)] 47)).alloc (.cells #[.int .i64 0] 3)) := Below.alloc' (Below.alloc' (Below.refl _ _) _) _;
          have htb : At ((w1.alloc (.cells #[.map (some mb)] 47)).alloc (.cells #[.int .i64 0] 3)) (w1.heap.size + 1) (.cells #[.int .i64 0] 3) := At.new' _ (by simp);
          have hib : At ((w1.alloc (.cells #[.map (some mb)] 47)).alloc (.cells #[.int .i64 0] 3)) w1.heap.size (.cells #[.map (some mb)] 47) := (At.new _ _).alloc _;
          have key := pcollect_any HV.out hn hn1 (hst.after hB2) htb hib)
      | (go_at_call 24; (with_reducible refine key.mono ?_); rintro e w3 ⟨⟨B, d, rfl, hI⟩, hB3⟩))
    go_ret
    exact ⟨⟨B, d, rfl, hI⟩, (Below.after2 hB1 (Nat.le_refl _) hB2).trans (hB3.mono (by have := hB1.size; have := hB2.size; omega))⟩

/-- the first of two that comes -/
theorem first_ah {L : List Nat} (hL : L.Nodup) {i x y : Nat} (hi : i < L.length) (hxy : L.getD i 0 = x ∨ L.getD i 0 = y) (hf : ∀ j, j < i → L.getD j 0 ≠ x ∧ L.getD j 0 ≠ y) (hx : x ∈ L) (hy : y ∈ L) : L.getD i 0 ≠ y ↔ Pa.Ah L x y := by
  have at_ : ∀ {k : Nat} (h : k < L.length), L[k]? = some (L.getD k 0) := fun {k} h => by rw [List.getD, List.getElem?_eq_getElem h]; rfl
  have find : ∀ {z}, z ∈ L → ∃ k, k < L.length ∧ L.getD k 0 = z := fun {z} hz => by
    obtain ⟨k, hk, e⟩ := List.mem_iff_getElem.1 hz
    exact ⟨k, hk, by rw [List.getD, List.getElem?_eq_getElem hk]; exact e⟩
  constructor
  · intro hne
    have hx1 : L.getD i 0 = x := hxy.resolve_right hne
    obtain ⟨k, hk, hky⟩ := find hy
    refine (Pa.ah_places hL (by rw [at_ hi, hx1]) (by rw [at_ hk, hky])).2 ?_
    rcases Nat.lt_trichotomy i k with q | q | q
    · exact q
    · subst q; exact absurd hky hne
    · exact absurd hky (hf k q).2
  · intro h e
    obtain ⟨k, hk, hkx⟩ := find hx
    have := (Pa.ah_places hL (by rw [at_ hk, hkx]) (by rw [at_ hi, e])).1 h
    exact (hf k this).1 hkx

theorem pbefore_no {l : Nat → PNd} {n : Nat} {a b : Int} (h : ¬ (phasB l n a = true ∧ phasB l n b = true)) : pbef l n a b = false := by
  cases hp : pbef l n a b with
  | false => rfl
  | true =>
    unfold pbef at hp
    simp only [decide_eq_true_eq] at hp
    obtain ⟨h1, h2, h3⟩ := hp
    by_cases hv : PV l n
    · have q1 := (pord_mem hv).1 h3.left
      have q2 := (pord_mem hv).1 h3.right
      exact absurd ⟨phasB_iff.2 ⟨h1, by omega, hv⟩, phasB_iff.2 ⟨h2, by omega, hv⟩⟩ h
    · unfold pord at h3
      rw [if_neg (fun q => hv (pvB_iff.1 q))] at h3
      exact h3.elim

set_option maxHeartbeats 4000000 in
theorem pbefore_any {w : World} {A : Option Addr} {l : Nat → PNd} {n c : Nat} {a b : Int} (h : PSl w A l n c) (hn : n ≤ 1000) : Calls Try.prog 20 #[.slice A n c, .int .i64 a, .int .i64 b] w fun e w' => e = .returned (.bool (pbef l n a b)) ∧ Below w.heap.size w w' := by
  have HS := Lib.hid h
  clear h
  obtain ⟨r1, hr1⟩ : ∃ r, phasB l n a = r := ⟨_, rfl⟩
  obtain ⟨r2, hr2⟩ : ∃ r, phasB l n b = r := ⟨_, rfl⟩
  have HR1 := Lib.hid hr1
  have HR2 := Lib.hid hr2
  have hB1 : Below w.heap.size w ((w.alloc (.cells #[.int .i64 a] 3)).alloc (.cells #[.int .i64 b] 3)) := Below.alloc' (Below.alloc' (Below.refl _ _) _) _
  have HB1 := Lib.hid hB1
  have HS1 := Lib.hid (HS.out.after hB1)
  by_cases hb : r1 = true ∧ r2 = true
  case neg =>
    have e := pbefore_no (l := l) (n := n) (a := a) (b := b) (by rw [hr1, hr2]; exact hb)
    rw [e]
    clear hr1 hr2 e
    cases r1
    · clear hb
      go_enter Try.func20, Try.ntmps20
      go_wp2_with (go_at_call 23; (first | (with_reducible refine (phas_any HS1.out hn a).mono ?_; rintro e w' ⟨rfl, rfl⟩; rw [HR1.out])))
      go_ret
      exact ⟨rfl, HB1.out⟩
    · have : r2 = false := by cases r2; rfl; exact absurd ⟨rfl, rfl⟩ hb
      subst this
      clear hb
      go_enter Try.func20, Try.ntmps20
      go_wp2_with (go_at_call 23; (first | (with_reducible refine (phas_any HS1.out hn a).mono ?_; rintro e w' ⟨rfl, rfl⟩; rw [HR1.out]) | (with_reducible refine (phas_any HS1.out hn b).mono ?_; rintro e w' ⟨rfl, rfl⟩; rw [HR2.out])))
      go_ret
      exact ⟨rfl, HB1.out⟩
  case pos =>
    obtain ⟨rfl, rfl⟩ := hb
    obtain ⟨ha0, hal, hv⟩ := phasB_iff.1 hr1
    obtain ⟨hb0, hbl, _⟩ := phasB_iff.1 hr2
    obtain ⟨x, rfl⟩ : ∃ x : Nat, a = x := ⟨a.toNat, by omega⟩
    obtain ⟨y, rfl⟩ : ∃ y : Nat, b = y := ⟨b.toNat, by omega⟩
    have HV := Lib.hid hv
    have hn0 : 0 < n := by omega
    obtain ⟨r, hr⟩ : ∃ r, pbef l n x y = r := ⟨_, rfl⟩
    rw [hr]
    have HRR := Lib.hid hr
    have hNn : (ptr_ l n 0).length = n := by rw [← pord_ptr hv hn0, pord_len hv]
    obtain ⟨L, hL⟩ : ∃ L, Hid (L = ptr_ l n 0) := ⟨_, Lib.hid rfl⟩
    have hLo : Hid (L = pord l n) := Lib.hid (by rw [hL.out, pord_ptr hv hn0])
    rw [← hL.out] at hNn
    obtain ⟨q, hq⟩ : ∃ q : Nat → Nat, Hid (∀ i, q i = L.getD i 0) := ⟨_, Lib.hid fun _ => rfl⟩
    obtain ⟨ab, hab⟩ : ∃ ab, w.heap.size = ab := ⟨_, rfl⟩
    obtain ⟨bb, hbb⟩ : ∃ bb, w.heap.size + 1 = bb := ⟨_, rfl⟩
    obtain ⟨pb, hpb⟩ : ∃ pb, w.heap.size + 1 + 1 = pb := ⟨_, rfl⟩
    obtain ⟨W1, hW1⟩ : ∃ W1, W1 = (w.alloc (.cells #[.int .i64 (x : Int)] 3)).alloc (.cells #[.int .i64 (y : Int)] 3) := ⟨_, rfl⟩
    have hs1 : W1.heap.size = pb := by rw [hW1, ← hpb]; simp
    have hAa : At W1 ab (.cells #[.int .i64 (x : Int)] 3) := by rw [hW1, ← hab]; exact (At.new _ _).alloc _
    have hAb : At W1 bb (.cells #[.int .i64 (y : Int)] 3) := by rw [hW1, ← hbb]; exact At.new' _ (by simp)
    obtain ⟨W2, hW2⟩ : ∃ W2, W2 = W1.alloc (.cells #[.int .i64 (-1)] 3) := ⟨_, rfl⟩
    have hAp : At W2 pb (.cells #[.int .i64 (-1)] 3) := by rw [hW2]; exact At.new' _ hs1.symm
    have hB12 : Below W1.heap.size W1 W2 := by rw [hW2]; exact Below.alloc' (Below.refl _ _) _
    rw [← hW1] at HB1 HS1
    have hs2 : W2.heap.size = pb + 1 := by rw [hW2, ← hs1]; simp
    have hBw2 : Below w.heap.size w W2 := Below.after2 HB1.out (Nat.le_refl _) hB12
    have HS2 := Lib.hid (HS.out.after hBw2)
    have ca := hAa.cell 0
    have cb := hAb.cell 0
    simp only [List.getElem?_toArray, List.getElem?_cons_zero] at ca cb
    have la := hAa.lt
    have lb := hAb.lt
    have hdp : ∀ k : Nat, (Fence.wide.depth.isSome = true → 1 ≤ k) := fun k h => by simp [Fence.wide] at h
    have HAB := Lib.hid hab
    have HBB := Lib.hid hbb
    have hab1 : ab + 1 ≤ bb ∧ bb ≤ ab + 1 := by omega
    have hpb1 : bb + 1 ≤ pb ∧ pb ≤ bb + 1 := by omega
    have hwp : w.heap.size ≤ ab := by omega
    clear hr1 hr2 ha0 hb0 hv hr hab hbb hpb
    refine (callsIn_wide (n := 5)).1 ?_
    refine callsIn_of_wp_marks Try.func20 rfl trivial ?_ rfl
    simp only [Try.ntmps20, List.size_toArray, List.length_cons, List.length_nil, Nat.reduceAdd, Nat.reduceSub, Array.replicate_succ, Array.replicate_zero, List.push_toArray, List.append_toArray, List.nil_append, List.cons_append]
    gi_upto_region 1 with (fail)
    rw [← hW1, HBB.out, HAB.out]
    have HS1W := Lib.hid hs1
    clear hW1 hs1
    gi_upto_region 4 with ((try refine ⟨trivial, ?_⟩); (try refine ⟨hdp _, ?_⟩); gi_at_call 23; (first | (with_reducible refine (callsIn_wide.2 (phas_any HS1.out hn (x : Int))).mono ?_; rintro e w' ⟨rfl, rfl⟩; rw [HR1.out]) | (with_reducible refine (callsIn_wide.2 (phas_any HS1.out hn (y : Int))).mono ?_; rintro e w' ⟨rfl, rfl⟩; rw [HR2.out])))
    rw [← hW2, HS1W.out]
    have hAa2 := hAa.keep hB12
    have hAb2 := hAb.keep hB12
    have hmem : ∀ z, z < n → z ∈ L := fun z hz => by rw [hLo.out]; exact (pord_mem HV.out).2 hz
    have hxL := hmem x (by omega)
    have hyL := hmem y (by omega)
    have hND : L.Nodup := by rw [hLo.out]; exact pord_nodup HV.out
    clear hW2 ca cb la lb hAa hAb hB12
    gi_wp2_with (first
      | ((try refine ⟨trivial, ?_⟩); (try refine ⟨hdp _, ?_⟩); gi_at_call 26; refine (callsIn_wide.2 (pstacks_any HS2.out HV.out hn)).mono ?_; rintro e w3 ⟨⟨mb, rfl, hst⟩, hB3⟩)
      | ((try refine ⟨trivial, ?_⟩); (try refine ⟨hdp _, ?_⟩); gi_at_call 25; refine (callsIn_wide.2 (pwhol_any mb 0 _)).mono ?_; rintro e w4 ⟨rfl, rfl⟩))
    have hB4 : Below w3.heap.size w3 ((w3.alloc (.cells #[.map (some mb)] 47)).alloc (.cells #[.int .i64 0] 3)) := Below.alloc' (Below.alloc' (Below.refl _ _) _) _
    have htb : At ((w3.alloc (.cells #[.map (some mb)] 47)).alloc (.cells #[.int .i64 0] 3)) (w3.heap.size + 1) (.cells #[.int .i64 0] 3) := At.new' _ (by simp)
    have hib : At ((w3.alloc (.cells #[.map (some mb)] 47)).alloc (.cells #[.int .i64 0] 3)) w3.heap.size (.cells #[.map (some mb)] 47) := (At.new _ _).alloc _
    have hst4 := hst.after hB4
    have hB24 : Below W2.heap.size W2 ((w3.alloc (.cells #[.map (some mb)] 47)).alloc (.cells #[.int .i64 0] 3)) := hB3.trans (hB4.mono hB3.size)
    obtain ⟨ib, hib0⟩ : ∃ ib, w3.heap.size = ib := ⟨_, rfl⟩
    have hs3 : W2.heap.size ≤ ib := hib0 ▸ hB3.size
    have hs4 : ((w3.alloc (.cells #[.map (some mb)] 47)).alloc (.cells #[.int .i64 0] 3)).heap.size = ib + 2 := by simp [hib0]
    rw [hib0] at htb hib hst4
    rw [hib0]
    generalize (w3.alloc (.cells #[.map (some mb)] 47)).alloc (.cells #[.int .i64 0] 3) = W4 at *
    have hAa4 := hAa2.keep hB24
    have hAb4 := hAb2.keep hB24
    have hAp4 := hAp.keep hB24
    have hBw4 : Below w.heap.size w W4 := Below.after2 hBw2 (Nat.le_refl _) hB24
    refine range_brk (id := 0) (gf := 30) (first := #[]) (lb := #[.pointer (some ⟨ib + 1, 0, none⟩), .pointer (some ⟨ib, 0, none⟩)]) rfl (enters_of Try.func30 (by kernel_rfl) rfl) L.length (fun i => #[.int .i64 (q i : Int)]) (fun _ => rfl)
      (fun i S V => (∀ b, S b ↔ b = pb ∨ b = ab ∨ b = bb) ∧ (∃ z : Int, At V pb (.cells #[.int .i64 z] 3)) ∧ At V ab (.cells #[.int .i64 (x : Int)] 3) ∧ At V bb (.cells #[.int .i64 (y : Int)] 3) ∧ Hid (∀ j, j < i → q j ≠ x ∧ q j ≠ y))
      (fun S V => (∀ b, S b ↔ b = pb ∨ b = ab ∨ b = bb) ∧ ∃ i, i < L.length ∧ At V pb (.cells #[.int .i64 (q i : Int)] 3) ∧ At V bb (.cells #[.int .i64 (y : Int)] 3) ∧ Hid ((q i = x ∨ q i = y) ∧ ∀ j, j < i → q j ≠ x ∧ q j ≠ y))
      (fun i S V => (∀ b, S b ↔ b = pb ∨ b = ab ∨ b = bb) ∧ At V pb (.cells #[.int .i64 (q i : Int)] 3) ∧ At V ab (.cells #[.int .i64 (x : Int)] 3) ∧ At V bb (.cells #[.int .i64 (y : Int)] 3) ∧ Hid (∀ j, j < i → q j ≠ x ∧ q j ≠ y))
      ?stab ?stab2 ?stabx (fun b => b = pb ∨ b = ab ∨ b = bb) (fun b hb => by omega)
      ⟨fun b => Iff.rfl, ⟨-1, hAp4⟩, hAa4, hAb4, Lib.hid fun j hj => absurd hj (Nat.not_lt_zero _)⟩ ?hit
      (fun i t => t.setIfInBounds 21 (.int .i64 (q i : Int))) ?assign ?body ?done ?stop
    case stab =>
      rintro i S M V V' ⟨h1, ⟨z, h2⟩, h3, h4, h5⟩ ho hm
      exact ⟨h1, ⟨z, h2.out (hm _ ((h1 _).2 (.inl rfl))) ho⟩, h3.out (hm _ ((h1 _).2 (.inr (.inl rfl)))) ho, h4.out (hm _ ((h1 _).2 (.inr (.inr rfl)))) ho, h5⟩
    case stab2 =>
      rintro i S M V V' ⟨h1, h2, h3, h4, h5⟩ ho hm
      exact ⟨h1, h2.out (hm _ ((h1 _).2 (.inl rfl))) ho, h3.out (hm _ ((h1 _).2 (.inr (.inl rfl)))) ho, h4.out (hm _ ((h1 _).2 (.inr (.inr rfl)))) ho, h5⟩
    case stabx =>
      rintro S M V V' ⟨h1, i, hi, h2, h4, h5⟩ ho hm
      exact ⟨h1, i, hi, h2.out (hm _ ((h1 _).2 (.inl rfl))) ho, h4.out (hm _ ((h1 _).2 (.inr (.inr rfl)))) ho, h5⟩
    case hit =>
      intro lp J Jx S1 V hb hs1 hj hjx hy h0
      rw [hL.out] at hy ⊢
      refine pwhole_in _ lp (ib + 1) ib mb _ _ n l J Jx S1 V HV.out hn hn0 (hst4.after hb) (htb.keep hb) (hib.keep hb) (fun b hs => ?_) hj hjx (fun m i S W h1 h2 => by rw [← hL.out, ← hq.out i]; exact hy m i S W h1 h2) h0
      obtain ⟨h1, h2⟩ := hs1 b hs
      exact ⟨h2, by omega, by omega, by omega⟩
    case assign =>
      rintro l1 m1 i S V G hi ⟨h1, ⟨z, h2⟩, h3, h4, h5⟩ hG
      have hc := h2.cell 0
      have hz := h2.thaw 0
      have hlt := h2.lt
      simp only [List.getElem?_toArray, List.getElem?_cons_zero] at hc
      simp only [List.setIfInBounds_toArray, List.set_cons_zero, List.set_cons_succ] at hG
      have hG2 := hG (V.setCell ⟨pb, 0, none⟩ (.int .i64 (q i : Int))) ⟨(Out.refl _ _).set (M := S) ((h1 _).2 (.inl rfl)) 0 _, fun b hb => .inl hb⟩ ⟨h1, h2.set 0 _, h3.off (by omega) _ _, h4.off (by omega) _ _, h5⟩
      clear hG h1 h2 h3 h4
      gi_wp2
      first | exact hG2 | simpa using hG2
    case body =>
      rintro l1 m1 i S V hi ⟨h1, h2, h3, h4, h5⟩
      have hcp := h2.cell 0
      have hca := h3.cell 0
      have hcb := h4.cell 0
      have hlp := h2.lt
      have hla := h3.lt
      have hlb := h4.lt
      simp only [List.getElem?_toArray, List.getElem?_cons_zero] at hcp hca hcb
      obtain ⟨u, hu⟩ : ∃ u, q i = u := ⟨_, rfl⟩
      have HU := Lib.hid hu
      rw [hu] at hcp
      simp only [hu, List.setIfInBounds_toArray, List.set_cons_zero, List.set_cons_succ]
      clear hu
      by_cases ex : u = x
      · have e1 : ((u : Int) == (x : Int)) = true := by simp [ex]
        have hP := Lib.hid (show (∀ b, S b ↔ b = pb ∨ b = ab ∨ b = bb) ∧ ∃ i, i < L.length ∧ At V pb (.cells #[.int .i64 (q i : Int)] 3) ∧ At V bb (.cells #[.int .i64 (y : Int)] 3) ∧ Hid ((q i = x ∨ q i = y) ∧ ∀ j, j < i → q j ≠ x ∧ q j ≠ y) from ⟨h1, i, hi, h2, h4, Lib.hid ⟨.inl (by rw [HU.out]; exact ex), h5.out⟩⟩)
        clear ex h1 h2 h3 h4
        gi_wp2
        exact ⟨rfl, S, Went.refl _ _, hP.out⟩
      · have e1 : ((u : Int) == (x : Int)) = false := by simp; omega
        by_cases ey : u = y
        · have e2 : ((u : Int) == (y : Int)) = true := by simp [ey]
          have hP := Lib.hid (show (∀ b, S b ↔ b = pb ∨ b = ab ∨ b = bb) ∧ ∃ i, i < L.length ∧ At V pb (.cells #[.int .i64 (q i : Int)] 3) ∧ At V bb (.cells #[.int .i64 (y : Int)] 3) ∧ Hid ((q i = x ∨ q i = y) ∧ ∀ j, j < i → q j ≠ x ∧ q j ≠ y) from ⟨h1, i, hi, h2, h4, Lib.hid ⟨.inr (by rw [HU.out]; exact ey), h5.out⟩⟩)
          clear ex ey h1 h2 h3 h4
          gi_wp2
          exact ⟨rfl, S, Went.refl _ _, hP.out⟩
        · have e2 : ((u : Int) == (y : Int)) = false := by simp; omega
          have hP := Lib.hid (show (∀ b, S b ↔ b = pb ∨ b = ab ∨ b = bb) ∧ (∃ z : Int, At V pb (.cells #[.int .i64 z] 3)) ∧ At V ab (.cells #[.int .i64 (x : Int)] 3) ∧ At V bb (.cells #[.int .i64 (y : Int)] 3) ∧ Hid (∀ j, j < i + 1 → q j ≠ x ∧ q j ≠ y) from ⟨h1, ⟨_, h2⟩, h3, h4, Lib.hid fun j hj => by
            rcases (by omega : j < i ∨ j = i) with hj | rfl
            · exact h5.out j hj
            · rw [HU.out]; exact ⟨ex, ey⟩⟩)
          clear ex ey h1 h2 h3 h4
          gi_wp2
          exact ⟨S, Went.refl _ _, hP.out⟩
    case done =>
      rintro D S V hDl hw hDS ⟨h1, _, _, _, h5⟩ hDo
      obtain ⟨k, hk, e⟩ := List.mem_iff_getElem.1 hxL
      exact absurd (by rw [hq.out, List.getD, List.getElem?_eq_getElem hk]; exact e) (h5.out k hk).1
    case stop =>
      rintro D S V hDl hw hDS ⟨h1, i, hi, h2, h4, h5⟩ hDo
      have hBW : Below w.heap.size w V := hBw4.trans (hw.1.below (by omega) fun b hb e => by omega)
      have hcp := h2.cell 0
      have hcb := h4.cell 0
      have hlp := h2.lt
      have hlb := h4.lt
      simp only [List.getElem?_toArray, List.getElem?_cons_zero] at hcp hcb
      have hres : ((q i : Int) != (y : Int)) = r := by
        have h6 := first_ah hND (i := i) (x := x) (y := y) hi (by rw [← hq.out]; exact h5.out.1) (fun j hj => by rw [← hq.out]; exact h5.out.2 j hj) hxL hyL
        rw [← hq.out i, hLo.out] at h6
        rw [← HRR.out]
        by_cases e : q i = y
        · have h7 : ¬ Pa.Ah (pord l n) x y := fun h8 => h6.2 h8 e
          rw [pbef_false.2 h7]
          simp [e]
        · rw [pbef_iff.2 (h6.1 e)]
          have : ¬ ((q i : Int) = (y : Int)) := by omega
          simpa using this
      generalize q i = u at *
      clear h1 h2 h4 hw hDS
      gi_wp2
      refine ⟨by simp, .inl ⟨_, _, rfl, run_takeDeferred hDo, ?_⟩⟩
      have hoD : Out (fun b => b = D) V (V.putObj D (.deferred none)) := Out.putObj V D _
      exact ⟨_, results_tmp rfl _ _ _, rfl, hBW.trans (hoD.below (by have := hBW.size; omega) fun b hb (q : b = D) => by omega)⟩

theorem paint_code : PaintCode where
  valid := fun w A l n c h hn => (pvalid_any h (by omega)).mono fun e w' ⟨h1, h2⟩ => ⟨h1, h2 ▸ Below.refl _ _⟩
  order := fun w A l n c h hn => porder_any h (by omega)
  layer := fun w A l n c a h hn => player_any h (by omega) a
  before := fun w A l n c a b h hn => pbefore_any h (by omega)

end Go.Proofs.Ytbmidmpooooheaa.Fix
