/- The document's tree: Move. -/
import Derived.Test.YtbkocceemfhhbaaTrDocRem
import Derived.Lib.MinMax
namespace Go.Proofs.Ytbkocceemfhhbaa.Fix
open Go.ChangeShapes Go.WideShapes Go.ChangeAt Go.RowKit Go.Deep Go.Joins Go.Shelf
set_option linter.unusedVariables false
set_option linter.unusedSimpArgs false
set_option maxRecDepth 100000

/-- how much deeper the deepest of some boxes is -/
def deepK (T : Tr.T) (dx : Int) (l : List Int) : Int := l.foldl (fun m y => max m (Tr.dep T y - dx)) 0
theorem deepK_snoc (T : Tr.T) (dx : Int) (l : List Int) (y : Int) : deepK T dx (l ++ [y]) = max (deepK T dx l) (Tr.dep T y - dx) := by simp [deepK]
theorem foldl_maxI (f : Int → Int) (l : List Int) : ∀ m, m ≤ l.foldl (fun m y => max m (f y)) m ∧ (∀ y ∈ l, f y ≤ l.foldl (fun m y => max m (f y)) m) ∧ ∀ B, m ≤ B → (∀ y ∈ l, f y ≤ B) → l.foldl (fun m y => max m (f y)) m ≤ B := by
  induction l with
  | nil => intro m; exact ⟨Int.le_refl _, by simp, fun B h _ => h⟩
  | cons k l ih =>
    intro m
    simp only [List.foldl_cons]
    obtain ⟨h1, h2, h3⟩ := ih (max m (f k))
    refine ⟨by omega, fun y hy => ?_, fun B hB hl => h3 B ?_ fun y hy => hl y (List.mem_cons_of_mem _ hy)⟩
    · rcases List.mem_cons.1 hy with rfl | hy
      · omega
      · exact h2 y hy
    · have := hl k List.mem_cons_self; omega
theorem deepK_bound {T : Tr.T} (H : Tr.WF T) {dx : Int} (hx : 0 ≤ dx) (l : List Int) : 0 ≤ deepK T dx l ∧ deepK T dx l ≤ 63 :=
  ⟨(foldl_maxI _ l 0).1, (foldl_maxI _ l 0).2.2 63 (by omega) fun y _ => by have := (dep_wf H y).2; omega⟩
theorem deepK_all {T : Tr.T} (H : Tr.WF T) {x : Int} {nd : Tr.Nd} (hx : T x = some nd) : deepK T (Tr.dep T x) (Tr.sub T 64 x) = (Tr.hgt T 64 x : Int) := by
  obtain ⟨d, h1, h2, h3⟩ := H.dep_some hx
  obtain ⟨y, hy, hd⟩ := H.hgt_mem (H.fit64 hx) h2
  have e := H.dep_of hd
  have hge := (foldl_maxI (fun y => Tr.dep T y - Tr.dep T x) (Tr.sub T 64 x) 0).2.1 y hy
  have hle := (foldl_maxI (fun y => Tr.dep T y - Tr.dep T x) (Tr.sub T 64 x) 0).2.2 (Tr.hgt T 64 x : Int) (by omega) fun z hz => by
    obtain ⟨zd, hzd⟩ := ((H.mem_sub (H.fit64 hx)).1 hz).live
    obtain ⟨dz, q1, q2, q3⟩ := H.dep_some hzd
    have := H.hgt_le (H.fit64 hx) h2 hz q2
    omega
  unfold deepK
  omega

/-- Move, as it is done here -/
theorem mov_doc {T : Tr.T} {x u : Int} {i : Nat} {nd p q : Tr.Nd} (hx : T x = some nd) (hp : T nd.up = some p) (hne : nd.up ≠ x) (hux : u ≠ x) (hu : Tr.set T nd.up { p with kids := Tr.wo p.kids x } u = some q) : Tr.movT T x u i = Tr.set (Tr.set (Tr.set T nd.up { p with kids := Tr.wo p.kids x }) u { q with kids := Tr.wi q.kids i x }) x { nd with up := u } := by
  unfold Tr.movT Tr.enter
  rw [leave_doc hx hp, hu, Tr.set_other _ _ (Ne.symm hne), hx]

set_option maxHeartbeats 16000000 in
theorem dmove_any {w : World} {r g c m : Nat} {K : Int → Value} {T : Tr.T} (h : Doc w r g c m K T) (H : Tr.WF T) (x u a : Int) : Calls Try.prog 35 #[.pointer (some ⟨r, 0, none⟩), .int .i64 x, .int .i64 u, .int .i64 a] w fun e w' => e = .returned (.int .i64 (Tr.movE T x u a)) ∧ ∃ K', Doc w' r g c m K' (Tr.movR T x u a) ∧ DG r g K T w w' g K' (Tr.movR T x u a) := by
  have HD := Lib.hid h
  have key := dhas_any h x
  have keyu := dhas_any h u
  have same : ∀ e, Tr.movE T x u a = e → e ≠ 0 → Tr.movR T x u a = T := fun e he hne => by unfold Tr.movR; rw [he, if_neg hne]
  cases hX : T x with
  | none =>
    have hE : Tr.movE T x u a = 2 := by unfold Tr.movE; rw [hX]
    rw [hE, same _ hE (by decide)]
    rw [isNone_of hX] at key
    clear h keyu same hE
    go_enter Try.func35, Try.ntmps35
    go_wp2_with (go_at_call 15; first | ((with_reducible refine key.mono ?_); rintro e w' ⟨rfl, rfl⟩) | ((with_reducible refine keyu.mono ?_); rintro e w' ⟨rfl, rfl⟩))
    go_ret
    exact ⟨rfl, _, HD.out, DG.refl _ _ _ _ _⟩
  | some nd =>
  rw [isSome_of hX] at key
  cases hU : T u with
  | none =>
    have hE : Tr.movE T x u a = 2 := by unfold Tr.movE; rw [hX, hU]
    rw [hE, same _ hE (by decide)]
    rw [isNone_of hU] at keyu
    clear h same hE
    go_enter Try.func35, Try.ntmps35
    go_wp2_with (go_at_call 15; first | ((with_reducible refine key.mono ?_); rintro e w' ⟨rfl, rfl⟩) | ((with_reducible refine keyu.mono ?_); rintro e w' ⟨rfl, rfl⟩))
    go_ret
    exact ⟨rfl, _, HD.out, DG.refl _ _ _ _ _⟩
  | some q =>
  rw [isSome_of hU] at keyu
  have hE0 : Tr.movE T x u a = if x = 0 then 1 else if u ∈ Tr.sub T 64 x then 3 else if a < 0 ∨ ((Tr.wo q.kids x).length : Int) < a then 1 else if 63 < Tr.dep T u + 1 + Tr.hgt T 64 x then 5 else 0 := by unfold Tr.movE; rw [hX, hU]
  by_cases h0 : x = 0
  · have hE : Tr.movE T x u a = 1 := by rw [hE0, if_pos h0]
    rw [hE, same _ hE (by decide)]
    clear h same hE hE0
    subst h0
    go_enter Try.func35, Try.ntmps35
    go_wp2_with (go_at_call 15; first | ((with_reducible refine key.mono ?_); rintro e w' ⟨rfl, rfl⟩) | ((with_reducible refine keyu.mono ?_); rintro e w' ⟨rfl, rfl⟩))
    go_ret
    exact ⟨rfl, _, HD.out, DG.refl _ _ _ _ _⟩
  rw [if_neg h0] at hE0
  have h0b : (x == 0) = false := by simpa using h0
  have hsl : (Tr.sub T 64 x).length ≤ 4096 := by
    have := H.rem_ord hX h0
    have := H.ord_small
    omega
  have keyI := dinside_any 64 x h (H.fit64 hX) (by omega)
  have hall := deepK_all H hX
  have hdx : 0 ≤ Tr.dep T x ∧ Tr.dep T x ≤ 63 := by obtain ⟨d, d1, d2, d3⟩ := H.dep_some hX; omega
  have hdu : 0 ≤ Tr.dep T u ∧ Tr.dep T u ≤ 63 := by obtain ⟨d, d1, d2, d3⟩ := H.dep_some hU; omega
  obtain ⟨p, hp, hxp⟩ := H.up x nd hX h0
  have hqk : q.kids.length ≤ 10000 := by have := H.kids_le hU; have := H.ord_small; omega
  have hpk : p.kids.length ≤ 10000 := by have := H.kids_le hp; have := H.ord_small; omega
  have hoth := H.others hX hU h0
  have hself : x ∈ Tr.sub T 64 x := (H.mem_sub (H.fit64 hX)).2 (.refl hX)
  have hnux : nd.up ≠ x := fun e => H.up_out hX h0 (by rw [e]; exact hself)
  obtain ⟨nu, nk, ns⟩ := nd
  dsimp only at hp hoth hnux
  obtain ⟨iv, rfl, hiv⟩ := h.nat hp
  obtain ⟨iu, rfl, hiu⟩ := h.nat hU
  obtain ⟨ix, rfl, hix⟩ := h.nat hX
  have HX := Lib.hid hX
  have HU := Lib.hid hU
  have HP := Lib.hid hp
  have HE0 := Lib.hid hE0
  have HS := Lib.hid same
  have HAL := Lib.hid hall
  have HQK := Lib.hid hqk
  have HPK := Lib.hid hpk
  have HOT := Lib.hid hoth
  have HNX := Lib.hid hnux
  have HSF := Lib.hid hself
  clear hX hU hp hxp hE0 same hall hqk hpk hoth hnux hself
  generalize hl : Tr.sub T 64 (ix : Int) = l at *
  clear hl
  generalize hn : l.length = n at *
  have HN := Lib.hid hn
  clear hn
  go_enter Try.func35, Try.ntmps35
  go_upto_region 6 with (first | (go_at_call 15; first | ((with_reducible refine key.mono ?_); rintro e w' ⟨rfl, rfl⟩) | ((with_reducible refine keyu.mono ?_); rintro e w' ⟨rfl, rfl⟩)) | (go_at_call 25; (with_reducible refine keyI.mono ?_); rintro e w1 ⟨⟨v1, rfl, ho1⟩, hb1⟩; obtain ⟨A1, c1, rfl⟩ := own_sliceR ho1))
  have D1 := HD.out.after hb1
  have KX := Lib.hid (ddepth_any D1 H (ix : Int))
  have c4 := D1.cT
  have HD1 := Lib.hid D1
  have HO1 := Lib.hid ho1
  have HB1 := Lib.hid hb1
  clear h key keyu keyI D1 ho1 hb1
  go_wp2
  go_loopw [10, 11] (fun dv iv wr => ∃ k : Nat, k ≤ n ∧ iv = .int .i64 (k : Int) ∧ dv = .int .i64 (deepK T (Tr.dep T ix) (l.take k)) ∧ (iu : Int) ∉ l.take k ∧ wr = w1) (fun _ iv _ => n - (intOf iv).toNat)
  case atStart => exact ⟨0, by omega, rfl, rfl, by simp, rfl⟩
  case round =>
    obtain ⟨k, hk, rfl, rfl, hni, rfl⟩ := hrel
    by_cases hlt : k < n
    · have hltz : (k : Int) < (n : Int) := by omega
      obtain ⟨hI, _⟩ := KS.ints_of (l := l) (by have := rowBase (base' := 0) HO1.out (Nat.zero_le _); unfold KS; rw [HN.out]; exact this)
      obtain ⟨b6, o6, rfl, lb6, hcell6⟩ := hI.at_ (k := k) (by rw [HN.out]; exact hlt)
      have hat : l[k]? = some (l.getD k 0) := by rw [List.getD, List.getElem?_eq_getElem (by rw [HN.out]; exact hlt)]; rfl
      have hmem := List.mem_of_getElem? hat
      have hsnoc := take_snoc_int l k (by rw [HN.out]; exact hlt)
      clear hI hat
      generalize l.getD k 0 = y at *
      by_cases hyu : y = (iu : Int)
      · subst hyu
        have hE : Tr.movE T ix iu a = 3 := by rw [HE0.out, if_pos hmem]
        have HR := Lib.hid (show _ ∧ _ from ⟨hE, HS.out _ hE (by decide)⟩)
        clear hmem hsnoc hni hE
        go_wp2
        go_ret
        rw [HR.out.1, HR.out.2]
        exact ⟨rfl, _, HD1.out, DG.of_below HB1.out⟩
      · have hyb : (y == (iu : Int)) = false := by simpa using hyu
        have hstep : Hid (deepK T (Tr.dep T ix) (l.take (k + 1)) = max (deepK T (Tr.dep T ix) (l.take k)) (Tr.dep T y - Tr.dep T ix)) := Lib.hid (by rw [hsnoc, deepK_snoc])
        have hni2 : Hid ((iu : Int) ∉ l.take (k + 1)) := Lib.hid (by rw [hsnoc]; simp only [List.mem_append, List.mem_singleton, not_or]; exact ⟨hni, fun e => hyu e.symm⟩)
        have KY := Lib.hid (ddepth_any HD1.out H y)
        obtain ⟨f1, f2⟩ := dep_wf H y
        have hw : IntKind.i64.wrap (Tr.dep T y - Tr.dep T ix) = Tr.dep T y - Tr.dep T ix := IntWalk.i64_in _ (by omega)
        clear hmem hsnoc hni hyu
        generalize Tr.dep T y = dy at *
        generalize Tr.dep T (ix : Int) = dx at *
        generalize deepK T dx (l.take k) = dk at *
        go_wp2_with (first | (go_at_call 19; first | ((with_reducible refine (KY.out).mono ?_); rintro e w' ⟨rfl, rfl⟩) | ((with_reducible refine (KX.out).mono ?_); rintro e w' ⟨rfl, rfl⟩)))
        go_roundw
        case rel => exact ⟨k + 1, by omega, by go_num, by rw [hstep.out], hni2.out, trivial⟩
        case measure => simp [intOf]; omega
    · obtain rfl : k = n := by omega
      rw [List.take_of_length_le (by rw [HN.out]; exact Nat.le_refl _)] at hni ⊢
      rw [HAL.out]
      have hE1 := HE0.out
      rw [if_neg hni] at hE1
      have HE1 := Lib.hid hE1
      have HNI := Lib.hid hni
      clear hE1 hni HE0
      have c5 := HD1.out.cKids HU.out
      have hrow5 := HD1.out.row _ _ HU.out
      obtain ⟨A, cc, hv, _⟩ := hrow5.ints
      rw [hv] at c5 hrow5
      have HROW := Lib.hid hrow5
      clear hrow5 hv
      by_cases ha : a < 0
      · have hE : Tr.movE T ix iu a = 1 := by rw [HE1.out, if_pos (.inl ha)]
        have HR := Lib.hid (show _ ∧ _ from ⟨hE, HS.out _ hE (by decide)⟩)
        clear hE
        go_wp2
        go_ret
        rw [HR.out.1, HR.out.2]
        exact ⟨rfl, _, HD1.out, DG.of_below HB1.out⟩
      obtain ⟨i, rfl⟩ : ∃ i : Nat, a = i := ⟨a.toNat, by omega⟩
      have keyW := dwithout_any HROW.out HQK.out (ix : Int)
      generalize hnq : q.kids.length = nq at *
      have HNQ := Lib.hid hnq
      clear hnq
      generalize hnw : (Tr.wo q.kids (ix : Int)).length = nw at *
      have HNW := Lib.hid hnw
      clear hnw
      by_cases hal : nw < i
      · have hE : Tr.movE T ix iu i = 1 := by rw [HE1.out, if_pos (.inr (by omega))]
        have HR := Lib.hid (show _ ∧ _ from ⟨hE, HS.out _ hE (by decide)⟩)
        have halz : (nw : Int) < (i : Int) := by omega
        clear hE
        go_wp2_with (go_at_call 49; (with_reducible refine keyW.mono ?_); rintro e w6 ⟨⟨v6, rfl, ho6⟩, hb6⟩; obtain ⟨A6, c6, rfl⟩ := own_sliceR ho6)
        go_ret
        rw [HR.out.1, HR.out.2]
        exact ⟨rfl, _, HD1.out.after hb6, DG.of_below (HB1.out.trans (hb6.mono HB1.out.size))⟩
      have halz : ¬ (nw : Int) < (i : Int) := by omega
      go_upto_region 15 with (go_at_call 49; (with_reducible refine keyW.mono ?_); rintro e w6 ⟨⟨v6, rfl, ho6⟩, hb6⟩; obtain ⟨A6, c6, rfl⟩ := own_sliceR ho6)
      have D6 := HD1.out.after hb6
      have KU := Lib.hid (ddepth_any D6 H (iu : Int))
      have hw1 : IntKind.i64.wrap (Tr.dep T iu + 1) = Tr.dep T iu + 1 := IntWalk.i64_in _ (by omega)
      have hb2 := deepK_bound H (l := l) hdx.1
      rw [HAL.out] at hb2
      have hw2 : IntKind.i64.wrap (Tr.dep T iu + 1 + (Tr.hgt T 64 ix : Int)) = Tr.dep T iu + 1 + (Tr.hgt T 64 ix : Int) := IntWalk.i64_in _ (by omega)
      have HHG : Hid (∀ e : Int, e = e) := Lib.hid fun _ => rfl
      by_cases hdd : 63 < Tr.dep T iu + 1 + (Tr.hgt T 64 ix : Int)
      · have hE : Tr.movE T ix iu i = 5 := by rw [HE1.out, if_neg (fun q => q.elim (fun q => absurd q (by omega)) (fun q => absurd q (by omega))), if_pos hdd]
        have HR := Lib.hid (show _ ∧ _ from ⟨hE, HS.out _ hE (by decide)⟩)
        have HD6 := Lib.hid D6
        have HB6 := Lib.hid (HB1.out.trans (hb6.mono HB1.out.size))
        clear hE D6 hb6
        generalize Tr.dep T (iu : Int) = du at *
        generalize Tr.hgt T 64 (ix : Int) = hg at *
        go_wp2_with (go_at_call 19; (with_reducible refine (KU.out).mono ?_); rintro e w' ⟨rfl, rfl⟩)
        go_ret
        rw [HR.out.1, HR.out.2]
        exact ⟨rfl, _, HD6.out, DG.of_below HB6.out⟩
      have hE : Tr.movE T ix iu i = 0 := by rw [HE1.out, if_neg (fun q => q.elim (fun q => absurd q (by omega)) (fun q => absurd q (by omega))), if_neg hdd]
      have hiux : (iu : Int) ≠ ix := fun e => by have := HSF.out; rw [← e] at this; exact HNI.out this
      obtain ⟨q1, hq1, hql⟩ : ∃ q1, Tr.set T (iv : Int) { p with kids := Tr.wo p.kids ix } iu = some q1 ∧ q1.kids.length = nw := by
        by_cases e : (iu : Int) = iv
        · have e2 := HU.out
          rw [e, HP.out] at e2
          cases e2
          exact ⟨_, by rw [e, Tr.set_same], HNW.out⟩
        · refine ⟨q, by rw [Tr.set_other _ _ e]; exact HU.out, ?_⟩
          have := HOT.out
          rw [if_neg (fun q => e q.symm)] at this
          have := HNQ.out
          omega
      have hR : Tr.movR T ix iu i = Tr.set (Tr.set (Tr.set T (iv : Int) { p with kids := Tr.wo p.kids ix }) iu { q1 with kids := Tr.wi q1.kids i ix }) ix ⟨iu, nk, ns⟩ := by
        unfold Tr.movR
        rw [if_pos hE, Int.toNat_natCast]
        exact mov_doc HX.out HP.out HNX.out hiux hq1
      have HR := Lib.hid (show _ ∧ _ from ⟨hE, hR⟩)
      have hx2 : Tr.set (Tr.set T (iv : Int) { p with kids := Tr.wo p.kids ix }) iu { q1 with kids := Tr.wi q1.kids i ix } ix = some ⟨iv, nk, ns⟩ := by
        rw [Tr.set_other _ _ (Ne.symm hiux), Tr.set_other _ _ (Ne.symm HNX.out)]; exact HX.out
      have HX2 := Lib.hid hx2
      have HQ1 := Lib.hid hq1
      have hil : Hid (i ≤ q1.kids.length) := Lib.hid (by omega)
      have hq1k : Hid (q1.kids.length ≤ 10000) := Lib.hid (by have h1 := List.length_filter_le (fun y => y != (ix : Int)) q.kids; have h2 := HNW.out; have h3 := HNQ.out; have h4 := HQK.out; unfold Tr.wo at h2; omega)
      have HG6 := Lib.hid (DG.of_below (r := r) (g := g) (K := K) (T := T) (HB1.out.trans (hb6.mono HB1.out.size)))
      have c4 := D6.cT
      have c5 := D6.cUp HX.out
      have HD6 := Lib.hid D6
      clear hE hR hx2 hq1 hql hiux hb6 D6 HE1 HS HAL hb2 ho6
      generalize Tr.dep T (iu : Int) = du at *
      generalize Tr.hgt T 64 (ix : Int) = hg at *
      go_upto_region 18 with (go_at_call 19; (with_reducible refine (KU.out).mono ?_); rintro e w6 ⟨rfl, rfl⟩)
      clear c5 KU
      have c5 := HD6.out.cKids HP.out
      have hrow5 := HD6.out.row _ _ HP.out
      obtain ⟨Ap, cp, hv, _⟩ := hrow5.ints
      rw [hv] at c5 hrow5
      have HROW := Lib.hid hrow5
      have HV := Lib.hid hv
      clear hrow5 hv
      have HPL := Lib.hid (Nat.le_refl p.kids.length)
      generalize hnp : p.kids.length = np at *
      have HNP := Lib.hid hnp
      clear hnp
      refine Drawn.wp_region_gen (S := (fun W' => W'.cell? ⟨r, 0, none⟩ = some (.slice (some ⟨g, 0, none⟩) m c) ∧ W'.cell? ⟨g, iv * 58 + 2, none⟩ = some (.slice Ap np cp) ∧ Below w6.heap.size w6 W')) 15 (by kernel_rfl) ?_ ?_
      · exact ⟨c4, c5, Below.drew (Below.refl _ _)⟩
      intro hS0
      clear c4 c5
      (refine Drawn.gen_take (i := 0) rfl (by kernel_rfl) (by kernel_rfl) (by kernel_rfl) (by kernel_rfl) (by omega) (by first | assumption | exact hS0) (by first | exact .inr ⟨by rfl, rfl⟩ | exact .inl ⟨by rfl, by intro w2 hS; obtain ⟨ca, cb, hh⟩ := hS; go_simp; first | done | with_reducible rfl | exact ⟨rfl, rfl⟩⟩) ?_; (try simp only [Act.put, List.setIfInBounds_toArray, List.set_cons_zero, List.set_cons_succ]))
      (refine Drawn.gen_take (i := 1) rfl (by kernel_rfl) (by kernel_rfl) (by kernel_rfl) (by kernel_rfl) (by omega) (by first | assumption | exact hS0) (by first | exact .inr ⟨by rfl, rfl⟩ | exact .inl ⟨by rfl, by intro w2 hS; obtain ⟨ca, cb, hh⟩ := hS; go_simp; first | done | with_reducible rfl | exact ⟨rfl, rfl⟩⟩) ?_; (try simp only [Act.put, List.setIfInBounds_toArray, List.set_cons_zero, List.set_cons_succ]))
      (refine Drawn.gen_take (i := 2) rfl (by kernel_rfl) (by kernel_rfl) (by kernel_rfl) (by kernel_rfl) (by omega) (by first | assumption | exact hS0) (by first | exact .inr ⟨by rfl, rfl⟩ | exact .inl ⟨by rfl, by intro w2 hS; obtain ⟨ca, cb, hh⟩ := hS; go_simp; first | done | with_reducible rfl | exact ⟨rfl, rfl⟩⟩) ?_; (try simp only [Act.put, List.setIfInBounds_toArray, List.set_cons_zero, List.set_cons_succ]))
      (refine Drawn.gen_take (i := 3) rfl (by kernel_rfl) (by kernel_rfl) (by kernel_rfl) (by kernel_rfl) (by omega) (by first | assumption | exact hS0) (by first | exact .inr ⟨by rfl, rfl⟩ | exact .inl ⟨by rfl, by intro w2 hS; obtain ⟨ca, cb, hh⟩ := hS; go_simp; first | done | with_reducible rfl | exact ⟨rfl, rfl⟩⟩) ?_; (try simp only [Act.put, List.setIfInBounds_toArray, List.set_cons_zero, List.set_cons_succ]))
      (refine Drawn.gen_take (i := 4) rfl (by kernel_rfl) (by kernel_rfl) (by kernel_rfl) (by kernel_rfl) (by omega) (by first | assumption | exact hS0) (by first | exact .inr ⟨by rfl, rfl⟩ | exact .inl ⟨by rfl, by intro w2 hS; obtain ⟨ca, cb, hh⟩ := hS; go_simp; first | done | with_reducible rfl | exact ⟨rfl, rfl⟩⟩) ?_; (try simp only [Act.put, List.setIfInBounds_toArray, List.set_cons_zero, List.set_cons_succ]))
      (refine Drawn.gen_take (i := 5) rfl (by kernel_rfl) (by kernel_rfl) (by kernel_rfl) (by kernel_rfl) (by omega) (by first | assumption | exact hS0) (by first | exact .inr ⟨by rfl, rfl⟩ | exact .inl ⟨by rfl, by intro w2 hS; obtain ⟨ca, cb, hh⟩ := hS; go_simp; first | done | with_reducible rfl | exact ⟨rfl, rfl⟩⟩) ?_; (try simp only [Act.put, List.setIfInBounds_toArray, List.set_cons_zero, List.set_cons_succ]))
      (refine Drawn.gen_take (i := 6) rfl (by kernel_rfl) (by kernel_rfl) (by kernel_rfl) (by kernel_rfl) (by omega) (by first | assumption | exact hS0) (by first | exact .inr ⟨by rfl, rfl⟩ | exact .inl ⟨by rfl, by intro w2 hS; obtain ⟨ca, cb, hh⟩ := hS; go_simp; first | done | with_reducible rfl | exact ⟨rfl, rfl⟩⟩) ?_; (try simp only [Act.put, List.setIfInBounds_toArray, List.set_cons_zero, List.set_cons_succ]))
      (refine Drawn.gen_take (i := 7) rfl (by kernel_rfl) (by kernel_rfl) (by kernel_rfl) (by kernel_rfl) (by omega) (by first | assumption | exact hS0) (by first | exact .inr ⟨by rfl, rfl⟩ | exact .inl ⟨by rfl, by intro w2 hS; obtain ⟨ca, cb, hh⟩ := hS; go_simp; first | done | with_reducible rfl | exact ⟨rfl, rfl⟩⟩) ?_; (try simp only [Act.put, List.setIfInBounds_toArray, List.set_cons_zero, List.set_cons_succ]))
      (refine Drawn.gen_take (i := 8) rfl (by kernel_rfl) (by kernel_rfl) (by kernel_rfl) (by kernel_rfl) (by omega) (by first | assumption | exact hS0) (by first | exact .inr ⟨by rfl, rfl⟩ | exact .inl ⟨by rfl, by intro w2 hS; obtain ⟨ca, cb, hh⟩ := hS; go_simp; first | done | with_reducible rfl | exact ⟨rfl, rfl⟩⟩) ?_; (try simp only [Act.put, List.setIfInBounds_toArray, List.set_cons_zero, List.set_cons_succ]))
      (refine Drawn.gen_take (i := 9) rfl (by kernel_rfl) (by kernel_rfl) (by kernel_rfl) (by kernel_rfl) (by omega) (by first | assumption | exact hS0) (by first | exact .inr ⟨by rfl, rfl⟩ | exact .inl ⟨by rfl, by intro w2 hS; obtain ⟨ca, cb, hh⟩ := hS; go_simp; first | done | with_reducible rfl | exact ⟨rfl, rfl⟩⟩) ?_; (try simp only [Act.put, List.setIfInBounds_toArray, List.set_cons_zero, List.set_cons_succ]))
      (refine Drawn.gen_take (i := 10) rfl (by kernel_rfl) (by kernel_rfl) (by kernel_rfl) (by kernel_rfl) (by omega) (by first | assumption | exact hS0) (by first | exact .inr ⟨by rfl, rfl⟩ | exact .inl ⟨by rfl, by intro w2 hS; obtain ⟨ca, cb, hh⟩ := hS; go_simp; first | done | with_reducible rfl | exact ⟨rfl, rfl⟩⟩) ?_; (try simp only [Act.put, List.setIfInBounds_toArray, List.set_cons_zero, List.set_cons_succ]))
      (refine Drawn.gen_take (i := 11) rfl (by kernel_rfl) (by kernel_rfl) (by kernel_rfl) (by kernel_rfl) (by omega) (by first | assumption | exact hS0) (by first | exact .inr ⟨by rfl, rfl⟩ | exact .inl ⟨by rfl, by intro w2 hS; obtain ⟨ca, cb, hh⟩ := hS; go_simp; first | done | with_reducible rfl | exact ⟨rfl, rfl⟩⟩) ?_; (try simp only [Act.put, List.setIfInBounds_toArray, List.set_cons_zero, List.set_cons_succ]))
      (refine Drawn.gen_take (i := 12) rfl (by kernel_rfl) (by kernel_rfl) (by kernel_rfl) (by kernel_rfl) (by omega) (by first | assumption | exact hS0) (by first | exact .inr ⟨by rfl, rfl⟩ | exact .inl ⟨by rfl, by intro w2 hS; obtain ⟨ca, cb, hh⟩ := hS; go_simp; first | done | with_reducible rfl | exact ⟨rfl, rfl⟩⟩) ?_; (try simp only [Act.put, List.setIfInBounds_toArray, List.set_cons_zero, List.set_cons_succ]))
      (refine Drawn.gen_take (i := 13) rfl (by kernel_rfl) (by kernel_rfl) (by kernel_rfl) (by kernel_rfl) (by omega) (by first | assumption | exact hS0) (by first | exact .inr ⟨by rfl, rfl⟩ | exact .inl ⟨by rfl, by intro w2 hS; obtain ⟨ca, cb, hh⟩ := hS; go_simp; first | done | with_reducible rfl | exact ⟨rfl, rfl⟩⟩) ?_; (try simp only [Act.put, List.setIfInBounds_toArray, List.set_cons_zero, List.set_cons_succ]))
      refine Drawn.gen_one (i := 14) (by kernel_rfl) rfl (by rfl) ?_
      refine Drawn.Step.call (by go_simp; first | done | with_reducible rfl | exact ⟨rfl, rfl⟩) (dwithout_any (HROW.out.after hS0.2.2) (by rw [HNP.out]; exact HPK.out) (ix : Int)) ?_
      rintro e w8 ⟨⟨v6, rfl, ho6⟩, hb6⟩
      have hS1 := hS0.2.2.trans (hb6.mono hS0.2.2.size)
      have hK6 := rowBase ho6 (Nat.zero_le _)
      have hown6 := fun b hb => Nat.le_trans hS0.2.2.size (World.ownsRow.lt ho6 b hb).1
      obtain ⟨A8, c8_, rfl⟩ := own_sliceR ho6
      have hD6 := HD6.out.after hS1
      have c7 := hD6.cT
      have c8 := hD6.cKids HP.out
      rw [HV.out] at c8
      obtain ⟨cur, hcur, _⟩ := hD6.cur
      have hth := hcur.thaw (iv * 58 + 2)
      have hD7 := Lib.hid (hD6.setKids HP.out hK6)
      have hG7 : DG r g K T w6 (w8.setCell ⟨g, iv * 58 + 2, none⟩ (.slice A8 (Tr.wo p.kids (ix : Int)).length c8_)) g (fun z => if z = (iv : Int) then .slice A8 (Tr.wo p.kids (ix : Int)).length c8_ else K z) (Tr.set T iv { p with kids := Tr.wo p.kids ix }) :=
        ⟨(Out.of_below hS1).trans ((Out.refl _ _).set (M := downed r g K T) (.inr (.inl rfl)) _ _), fun b hb => (downed_kids HP.out hb).elim .inl fun q => .inr (hown6 b q)⟩
      have HG9 := Lib.hid (HG6.out.trans hG7)
      have HD9 := Lib.hid hD7.out
      refine ⟨_, rfl, fun _ => ⟨c7, c8, hS1⟩, ?_⟩
      clear hG7 hS0 hS1 hK6 hown6 ho6 hb6 hcur hD6 hD7
      generalize hnl : (Tr.wo p.kids (ix : Int)).length = n8 at *
      (try simp only [Act.put, List.setIfInBounds_toArray, List.set_cons_zero, List.set_cons_succ])
      refine Drawn.gen_one (i := 15) (by kernel_rfl) rfl (by rfl) ?_
      refine Drawn.Step.value (by go_simp; first | done | with_reducible rfl | exact ⟨rfl, rfl⟩) ?_; refine ⟨by first | (intro hlt; exact absurd hlt (by decide)) | (intro _; exact hlt), ?_⟩; (try simp only [Act.put, List.setIfInBounds_toArray, List.set_cons_zero, List.set_cons_succ])
      refine Drawn.gen_one (i := 16) (by kernel_rfl) rfl (by rfl) ?_
      refine Drawn.Step.value (by go_simp; first | done | with_reducible rfl | exact ⟨rfl, rfl⟩) ?_; refine ⟨by first | (intro hlt; exact absurd hlt (by decide)) | (intro _; exact hlt), ?_⟩; (try simp only [Act.put, List.setIfInBounds_toArray, List.set_cons_zero, List.set_cons_succ])
      refine Drawn.gen_one (i := 17) (by kernel_rfl) rfl (by rfl) ?_
      refine Drawn.Step.skip (by go_simp; first | done | with_reducible rfl | exact ⟨rfl, rfl⟩) ?_; refine ⟨by first | (intro hlt; exact absurd hlt (by decide)) | (intro _; exact hlt), ?_⟩; (try simp only [Act.put])
      refine Drawn.gen_end (by kernel_rfl) ?_
      clear hnl c7 c8 hth
      generalize hT9 : Tr.set T (iv : Int) { p with kids := Tr.wo p.kids ix } = T9 at *
      generalize hK9 : (fun z : Int => if z = (iv : Int) then Value.slice A8 n8 c8_ else K z) = K9 at *
      generalize w8.setCell ⟨g, iv * 58 + 2, none⟩ (.slice A8 n8 c8_) = w9 at *
      have HT9 := Lib.hid hT9
      clear hT9 hK9
      have c4 := HD9.out.cT
      have c5 := HD9.out.cKids HQ1.out
      have hrow5 := HD9.out.row _ _ HQ1.out
      obtain ⟨Aq, cq, hv, _⟩ := hrow5.ints
      rw [hv] at c5 hrow5
      have HROW2 := Lib.hid hrow5
      have HV2 := Lib.hid hv
      clear hrow5 hv HROW HV HD6 HG6
      generalize hnp : q1.kids.length = nz at *
      have HNZ := Lib.hid hnp
      clear hnp
      go_upto_region 19 with (fail)
      refine Drawn.wp_region_gen (S := (fun W' => W'.cell? ⟨r, 0, none⟩ = some (.slice (some ⟨g, 0, none⟩) m c) ∧ W'.cell? ⟨g, iu * 58 + 2, none⟩ = some (.slice Aq nz cq) ∧ Below w9.heap.size w9 W')) 16 (by kernel_rfl) ?_ ?_
      · exact ⟨c4, c5, Below.drew (Below.refl _ _)⟩
      intro hS0
      clear c4 c5
      (refine Drawn.gen_take (i := 0) rfl (by kernel_rfl) (by kernel_rfl) (by kernel_rfl) (by kernel_rfl) (by omega) (by first | assumption | exact hS0) (by first | exact .inr ⟨by rfl, rfl⟩ | exact .inl ⟨by rfl, by intro w2 hS; obtain ⟨ca, cb, hh⟩ := hS; go_simp; first | done | with_reducible rfl | exact ⟨rfl, rfl⟩⟩) ?_; (try simp only [Act.put, List.setIfInBounds_toArray, List.set_cons_zero, List.set_cons_succ]))
      (refine Drawn.gen_take (i := 1) rfl (by kernel_rfl) (by kernel_rfl) (by kernel_rfl) (by kernel_rfl) (by omega) (by first | assumption | exact hS0) (by first | exact .inr ⟨by rfl, rfl⟩ | exact .inl ⟨by rfl, by intro w2 hS; obtain ⟨ca, cb, hh⟩ := hS; go_simp; first | done | with_reducible rfl | exact ⟨rfl, rfl⟩⟩) ?_; (try simp only [Act.put, List.setIfInBounds_toArray, List.set_cons_zero, List.set_cons_succ]))
      (refine Drawn.gen_take (i := 2) rfl (by kernel_rfl) (by kernel_rfl) (by kernel_rfl) (by kernel_rfl) (by omega) (by first | assumption | exact hS0) (by first | exact .inr ⟨by rfl, rfl⟩ | exact .inl ⟨by rfl, by intro w2 hS; obtain ⟨ca, cb, hh⟩ := hS; go_simp; first | done | with_reducible rfl | exact ⟨rfl, rfl⟩⟩) ?_; (try simp only [Act.put, List.setIfInBounds_toArray, List.set_cons_zero, List.set_cons_succ]))
      (refine Drawn.gen_take (i := 3) rfl (by kernel_rfl) (by kernel_rfl) (by kernel_rfl) (by kernel_rfl) (by omega) (by first | assumption | exact hS0) (by first | exact .inr ⟨by rfl, rfl⟩ | exact .inl ⟨by rfl, by intro w2 hS; obtain ⟨ca, cb, hh⟩ := hS; go_simp; first | done | with_reducible rfl | exact ⟨rfl, rfl⟩⟩) ?_; (try simp only [Act.put, List.setIfInBounds_toArray, List.set_cons_zero, List.set_cons_succ]))
      (refine Drawn.gen_take (i := 4) rfl (by kernel_rfl) (by kernel_rfl) (by kernel_rfl) (by kernel_rfl) (by omega) (by first | assumption | exact hS0) (by first | exact .inr ⟨by rfl, rfl⟩ | exact .inl ⟨by rfl, by intro w2 hS; obtain ⟨ca, cb, hh⟩ := hS; go_simp; first | done | with_reducible rfl | exact ⟨rfl, rfl⟩⟩) ?_; (try simp only [Act.put, List.setIfInBounds_toArray, List.set_cons_zero, List.set_cons_succ]))
      (refine Drawn.gen_take (i := 5) rfl (by kernel_rfl) (by kernel_rfl) (by kernel_rfl) (by kernel_rfl) (by omega) (by first | assumption | exact hS0) (by first | exact .inr ⟨by rfl, rfl⟩ | exact .inl ⟨by rfl, by intro w2 hS; obtain ⟨ca, cb, hh⟩ := hS; go_simp; first | done | with_reducible rfl | exact ⟨rfl, rfl⟩⟩) ?_; (try simp only [Act.put, List.setIfInBounds_toArray, List.set_cons_zero, List.set_cons_succ]))
      (refine Drawn.gen_take (i := 6) rfl (by kernel_rfl) (by kernel_rfl) (by kernel_rfl) (by kernel_rfl) (by omega) (by first | assumption | exact hS0) (by first | exact .inr ⟨by rfl, rfl⟩ | exact .inl ⟨by rfl, by intro w2 hS; obtain ⟨ca, cb, hh⟩ := hS; go_simp; first | done | with_reducible rfl | exact ⟨rfl, rfl⟩⟩) ?_; (try simp only [Act.put, List.setIfInBounds_toArray, List.set_cons_zero, List.set_cons_succ]))
      (refine Drawn.gen_take (i := 7) rfl (by kernel_rfl) (by kernel_rfl) (by kernel_rfl) (by kernel_rfl) (by omega) (by first | assumption | exact hS0) (by first | exact .inr ⟨by rfl, rfl⟩ | exact .inl ⟨by rfl, by intro w2 hS; obtain ⟨ca, cb, hh⟩ := hS; go_simp; first | done | with_reducible rfl | exact ⟨rfl, rfl⟩⟩) ?_; (try simp only [Act.put, List.setIfInBounds_toArray, List.set_cons_zero, List.set_cons_succ]))
      (refine Drawn.gen_take (i := 8) rfl (by kernel_rfl) (by kernel_rfl) (by kernel_rfl) (by kernel_rfl) (by omega) (by first | assumption | exact hS0) (by first | exact .inr ⟨by rfl, rfl⟩ | exact .inl ⟨by rfl, by intro w2 hS; obtain ⟨ca, cb, hh⟩ := hS; go_simp; first | done | with_reducible rfl | exact ⟨rfl, rfl⟩⟩) ?_; (try simp only [Act.put, List.setIfInBounds_toArray, List.set_cons_zero, List.set_cons_succ]))
      (refine Drawn.gen_take (i := 9) rfl (by kernel_rfl) (by kernel_rfl) (by kernel_rfl) (by kernel_rfl) (by omega) (by first | assumption | exact hS0) (by first | exact .inr ⟨by rfl, rfl⟩ | exact .inl ⟨by rfl, by intro w2 hS; obtain ⟨ca, cb, hh⟩ := hS; go_simp; first | done | with_reducible rfl | exact ⟨rfl, rfl⟩⟩) ?_; (try simp only [Act.put, List.setIfInBounds_toArray, List.set_cons_zero, List.set_cons_succ]))
      (refine Drawn.gen_take (i := 10) rfl (by kernel_rfl) (by kernel_rfl) (by kernel_rfl) (by kernel_rfl) (by omega) (by first | assumption | exact hS0) (by first | exact .inr ⟨by rfl, rfl⟩ | exact .inl ⟨by rfl, by intro w2 hS; obtain ⟨ca, cb, hh⟩ := hS; go_simp; first | done | with_reducible rfl | exact ⟨rfl, rfl⟩⟩) ?_; (try simp only [Act.put, List.setIfInBounds_toArray, List.set_cons_zero, List.set_cons_succ]))
      (refine Drawn.gen_take (i := 11) rfl (by kernel_rfl) (by kernel_rfl) (by kernel_rfl) (by kernel_rfl) (by omega) (by first | assumption | exact hS0) (by first | exact .inr ⟨by rfl, rfl⟩ | exact .inl ⟨by rfl, by intro w2 hS; obtain ⟨ca, cb, hh⟩ := hS; go_simp; first | done | with_reducible rfl | exact ⟨rfl, rfl⟩⟩) ?_; (try simp only [Act.put, List.setIfInBounds_toArray, List.set_cons_zero, List.set_cons_succ]))
      (refine Drawn.gen_take (i := 12) rfl (by kernel_rfl) (by kernel_rfl) (by kernel_rfl) (by kernel_rfl) (by omega) (by first | assumption | exact hS0) (by first | exact .inr ⟨by rfl, rfl⟩ | exact .inl ⟨by rfl, by intro w2 hS; obtain ⟨ca, cb, hh⟩ := hS; go_simp; first | done | with_reducible rfl | exact ⟨rfl, rfl⟩⟩) ?_; (try simp only [Act.put, List.setIfInBounds_toArray, List.set_cons_zero, List.set_cons_succ]))
      (refine Drawn.gen_take (i := 13) rfl (by kernel_rfl) (by kernel_rfl) (by kernel_rfl) (by kernel_rfl) (by omega) (by first | assumption | exact hS0) (by first | exact .inr ⟨by rfl, rfl⟩ | exact .inl ⟨by rfl, by intro w2 hS; obtain ⟨ca, cb, hh⟩ := hS; go_simp; first | done | with_reducible rfl | exact ⟨rfl, rfl⟩⟩) ?_; (try simp only [Act.put, List.setIfInBounds_toArray, List.set_cons_zero, List.set_cons_succ]))
      (refine Drawn.gen_take (i := 14) rfl (by kernel_rfl) (by kernel_rfl) (by kernel_rfl) (by kernel_rfl) (by omega) (by first | assumption | exact hS0) (by first | exact .inr ⟨by rfl, rfl⟩ | exact .inl ⟨by rfl, by intro w2 hS; obtain ⟨ca, cb, hh⟩ := hS; go_simp; first | done | with_reducible rfl | exact ⟨rfl, rfl⟩⟩) ?_; (try simp only [Act.put, List.setIfInBounds_toArray, List.set_cons_zero, List.set_cons_succ]))
      refine Drawn.gen_one (i := 15) (by kernel_rfl) rfl (by rfl) ?_
      refine Drawn.Step.call (by go_simp; first | done | with_reducible rfl | exact ⟨rfl, rfl⟩) (dwith_any (HROW2.out.after hS0.2.2) (by rw [HNZ.out]; exact hq1k.out) (by rw [HNZ.out]; exact hil.out) (ix : Int)) ?_
      rintro e w10 ⟨⟨v6, rfl, ho6⟩, hb6⟩
      have hS1 := hS0.2.2.trans (hb6.mono hS0.2.2.size)
      have hK6 := rowBase ho6 (Nat.zero_le _)
      have hown6 := fun b hb => Nat.le_trans hS0.2.2.size (World.ownsRow.lt ho6 b hb).1
      obtain ⟨A10, c10_, rfl⟩ := own_sliceR ho6
      have hD6 := HD9.out.after hS1
      have c7 := hD6.cT
      have c8 := hD6.cKids HQ1.out
      rw [HV2.out] at c8
      obtain ⟨cur, hcur, _⟩ := hD6.cur
      have hth := hcur.thaw (iu * 58 + 2)
      have hD7 := Lib.hid (hD6.setKids HQ1.out hK6)
      have hG7 : DG r g K9 T9 w9 (w10.setCell ⟨g, iu * 58 + 2, none⟩ (.slice A10 (Tr.wi q1.kids i (ix : Int)).length c10_)) g (fun z => if z = (iu : Int) then .slice A10 (Tr.wi q1.kids i (ix : Int)).length c10_ else K9 z) (Tr.set T9 iu { q1 with kids := Tr.wi q1.kids i ix }) :=
        ⟨(Out.of_below hS1).trans ((Out.refl _ _).set (M := downed r g K9 T9) (.inr (.inl rfl)) _ _), fun b hb => (downed_kids HQ1.out hb).elim .inl fun q => .inr (hown6 b q)⟩
      have HG11 := Lib.hid (HG9.out.trans hG7)
      have HD11 := Lib.hid hD7.out
      refine ⟨_, rfl, fun _ => ⟨c7, c8, hS1⟩, ?_⟩
      clear hG7 hS0 hS1 hK6 hown6 ho6 hb6 hcur hD6 hD7
      generalize hnl : (Tr.wi q1.kids i (ix : Int)).length = n10 at *
      (try simp only [Act.put, List.setIfInBounds_toArray, List.set_cons_zero, List.set_cons_succ])
      refine Drawn.gen_one (i := 16) (by kernel_rfl) rfl (by rfl) ?_
      refine Drawn.Step.value (by go_simp; first | done | with_reducible rfl | exact ⟨rfl, rfl⟩) ?_; refine ⟨by first | (intro hlt; exact absurd hlt (by decide)) | (intro _; exact hlt), ?_⟩; (try simp only [Act.put, List.setIfInBounds_toArray, List.set_cons_zero, List.set_cons_succ])
      refine Drawn.gen_one (i := 17) (by kernel_rfl) rfl (by rfl) ?_
      refine Drawn.Step.value (by go_simp; first | done | with_reducible rfl | exact ⟨rfl, rfl⟩) ?_; refine ⟨by first | (intro hlt; exact absurd hlt (by decide)) | (intro _; exact hlt), ?_⟩; (try simp only [Act.put, List.setIfInBounds_toArray, List.set_cons_zero, List.set_cons_succ])
      refine Drawn.gen_one (i := 18) (by kernel_rfl) rfl (by rfl) ?_
      refine Drawn.Step.skip (by go_simp; first | done | with_reducible rfl | exact ⟨rfl, rfl⟩) ?_; refine ⟨by first | (intro hlt; exact absurd hlt (by decide)) | (intro _; exact hlt), ?_⟩; (try simp only [Act.put])
      refine Drawn.gen_end (by kernel_rfl) ?_
      clear hnl c7 c8 hth
      generalize Tr.set T9 (iu : Int) { q1 with kids := Tr.wi q1.kids i ix } = T11 at *
      generalize (fun z : Int => if z = (iu : Int) then Value.slice A10 n10 c10_ else K9 z) = K11 at *
      generalize w10.setCell ⟨g, iu * 58 + 2, none⟩ (.slice A10 n10 c10_) = w11 at *
      have c4 := HD11.out.cT
      have c5 := HD11.out.cUp HX2.out
      obtain ⟨cur, hcur, _⟩ := HD11.out.cur
      have hth := hcur.thaw (ix * 58 + 1)
      obtain ⟨hD12, hG12⟩ := HD11.out.setUp HX2.out (iu : Int)
      have HD12 := Lib.hid hD12
      have HG12 := Lib.hid (HG11.out.trans hG12)
      clear hcur hD12 hG12 HD11 HG11 HROW2 HV2
      go_wp2
      go_ret
      rw [HR.out.1, HR.out.2]
      exact ⟨rfl, _, HD12.out, HG12.out⟩

end Go.Proofs.Ytbkocceemfhhbaa.Fix
