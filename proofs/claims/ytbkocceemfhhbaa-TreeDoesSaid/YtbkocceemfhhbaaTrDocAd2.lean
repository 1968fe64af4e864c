/- The document's tree: Add. -/
import Derived.Test.YtbkocceemfhhbaaTrDocAdd
namespace Go.Proofs.Ytbkocceemfhhbaa.Fix
open Go.ChangeShapes Go.WideShapes Go.ChangeAt Go.RowKit Go.Deep Go.Joins Go.Shelf
set_option linter.unusedVariables false
set_option linter.unusedSimpArgs false
set_option maxRecDepth 100000

set_option maxHeartbeats 8000000 in
theorem dadd_keep {w : World} {r g c m : Nat} {K : Int → Value} {T : Tr.T} (h : Doc w r g c m K T) (H : Tr.WF T) (hn : (Tr.ord T).length < 4096) (hmm : m + 1 ≤ 4096) {u a : Int} {p : Tr.Nd} (hu : T u = some p) {i : Nat} (ha : a = i) (hi : i ≤ p.kids.length) {d : Nat} (hd : Tr.Dp T u d) (hd63 : d < 63) {k : Nat} (hk : Tr.Free T (k : Int)) (hkm : k < m) : Calls Try.prog 37 #[.pointer (some ⟨r, 0, none⟩), .int .i64 u, .int .i64 a] w fun e w' => e = .returned (.tuple #[.int .i64 (k : Int), .int .i64 0]) ∧ ∃ g' c' m' K', Doc w' r g' c' m' K' (Tr.addT T (k : Int) u i) ∧ m' ≤ m + 1 ∧ DG r g K T w w' g' K' (Tr.addT T (k : Int) u i) := by
  subst ha
  have key := dhas_any h u
  rw [isSome_of hu] at key
  obtain ⟨iu, rfl, him⟩ := h.nat hu
  have c0 := h.cT
  have c1 := h.cKids hu
  obtain ⟨A, cc, hv, _⟩ := (h.row _ p hu).ints
  rw [hv] at c1
  have hkl := H.kids_le hu
  have keyL := dlen_any h H
  have KD := Lib.hid fun W (hb : Below w.heap.size w W) => ddepth_some (h.after hb) (fun _ q => H.root_up q) hd (by omega)
  have hnn : ¬ (4096 : Int) ≤ ((Tr.ord T).length : Int) := by omega
  have hdd : ¬ (63 : Int) ≤ (d : Int) := by omega
  have hr0 : ¬ (i : Int) < 0 := by omega
  have hr1 : ¬ (p.kids.length : Int) < (i : Int) := by omega
  have hT := Lib.hid (addT_doc (i := i) hu hk.2.1)
  rw [hT.out]
  have HD := Lib.hid h
  have HV := Lib.hid hv
  have HU := Lib.hid hu
  have HK := Lib.hid hk
  have hil := Lib.hid hi
  have hnel : Hid (p.kids.length ≤ 10000) := Lib.hid (by omega)
  clear h hv hd hT hu hk hi hkl
  generalize hnk : p.kids.length = nk at *
  have HNK := Lib.hid hnk
  clear hnk
  generalize (Tr.ord T).length = q at *
  go_enter Try.func37, Try.ntmps37
  go_upto_region 9 with (first | (go_at_call 15; (with_reducible refine key.mono ?_); rintro e w' ⟨rfl, rfl⟩) | (go_at_call 52; (with_reducible refine keyL.mono ?_); rintro e w1 ⟨rfl, hb1⟩) | (go_at_call 19; (with_reducible refine (KD.out _ hb1).mono ?_); rintro e w' ⟨rfl, rfl⟩))
  have HB1 := Lib.hid hb1
  clear key keyL KD c1
  have H1 := Lib.hid (HD.out.after hb1)
  clear hb1 HD c0
  go_wp2
  go_loopw [8] (fun iv wr => ∃ k' : Nat, k' ≤ k ∧ iv = .int .i64 (k' : Int) ∧ wr = w') (fun iv _ => k - (intOf iv).toNat)
  case atStart => exact ⟨0, by omega, rfl, rfl⟩
  case round =>
    obtain ⟨k', hk', rfl, rfl⟩ := hrel
    have keyH := dhas_any H1.out (k' : Int)
    by_cases hlt : k' < k
    · have hs : (T (k' : Int)).isSome = true := by
        cases e : T (k' : Int) with
        | none => exact absurd e (HK.out.2.2 _ (by omega) (by omega))
        | some _ => rfl
      rw [hs] at keyH
      go_wp2_with (go_at_call 15; (with_reducible refine keyH.mono ?_); rintro e w' ⟨rfl, rfl⟩)
      go_roundw
      case rel => exact ⟨k' + 1, by omega, by go_num, trivial⟩
      case measure => simp [intOf]; omega
    · obtain rfl : k' = k := by omega
      rw [isNone_of HK.out.2.1] at keyH
      have h1 := H1.out
      obtain ⟨gd, rfl⟩ : ∃ x, x = g := ⟨_, rfl⟩; obtain ⟨cd, rfl⟩ : ∃ x, x = c := ⟨_, rfl⟩; obtain ⟨md, rfl⟩ : ∃ x, x = m := ⟨_, rfl⟩; have hD := h1; have hG := DG.refl r gd K T wr; have hkd : k' < md := hkm; have himd : iu < md := him; have hml : md ≤ md + 1 := (by omega); have hkz : ¬ (k' : Int) = (md : Int) := (by omega); have hkzb : ((k' : Int) == (md : Int)) = false := (by simpa using hkz); have c0 := h1.cT
      have HD := Lib.hid hD
      have HG := Lib.hid hG
      clear hD hG h1 H1
      go_upto_region 14 with (first | (go_at_call 15; (with_reducible refine keyH.mono ?_); rintro e w' ⟨rfl, rfl⟩) | (refine wpList_build (by rfl) 74 _ rfl #[] (by simp) (build_dzero _) ?_) | (refine wpList_buildSlice (by rfl) 75 1 _ rfl #[(0, .agg dzero)] (by simp only [List.map_toArray, List.map_cons, List.map_nil]; rfl) (slice_dzero _) ?_) | (at_builtin; refine wpList_append_run (by rfl) _ _ 75 rfl rfl rfl HR13.out ?_))
      obtain ⟨Wd, rfl⟩ : ∃ x, x = wr := ⟨_, rfl⟩
      have hT4 := HK.out.2.1
      have hne : iu ≠ k' := fun e => by have := HU.out; rw [e, hT4] at this; cases this
      obtain ⟨W5, hst, hO5, hD5, hG5⟩ := HD.out.setBox hkd hT4 (iu : Int)
      have c4 := HD.out.cT
      have HST := Lib.hid hst
      have HBD := Lib.hid (build_dbox (iu : Int))
      have HG5 := Lib.hid (((DG.of_below HB1.out).trans HG.out).trans hG5)
      have hU5 : Tr.set T (k' : Int) ⟨iu, [], Re.zero⟩ iu = some p := (Tr.set_other _ _ (by omega)).trans HU.out
      have hKu : (if (iu : Int) = (k' : Int) then (Value.slice none 0 0) else K iu) = .slice A nk cc := by rw [if_neg (by omega)]; exact HV.out
      have c5 := hD5.cT
      have c6 := hD5.cKids hU5
      have hrow5 := hD5.row _ _ hU5
      simp only [hKu] at c6 hrow5
      have HD5 := Lib.hid hD5
      have HU5 := Lib.hid hU5
      have HROW := Lib.hid hrow5
      have HV5 : Hid ((if (iu : Int) = (k' : Int) then (Value.slice none 0 0) else K iu) = .slice A nk cc) := Lib.hid hKu
      clear c0 hst hO5 hD5 hG5 HD HG hU5 hKu hT4 hrow5 hne HV keyH
      generalize dcells (iu : Int) (.slice none 0 0) Re.zero = dc at *
      have HV5' : Hid ((fun z : Int => if z = (k' : Int) then (Value.slice none 0 0) else K z) iu = .slice A nk cc) := HV5
      clear HV5
      generalize (fun z : Int => if z = (k' : Int) then (Value.slice none 0 0) else K z) = K5 at *
      generalize hT5 : Tr.set T (k' : Int) ⟨iu, [], Re.zero⟩ = T5 at *
      have HT5 := Lib.hid hT5
      clear hT5
      go_upto_region 15 with (first | (refine wpList_build (by rfl) 74 _ rfl #[(0, .bool true), (1, .int .i64 (iu : Int))] (by simp only [List.map_toArray, List.map_cons, List.map_nil]; rfl) (HBD.out _) ?_) | (refine wpList_none (by rfl) (exec_store (.tmp 64) (.tmp 63) rfl rfl rfl HST.out) ?_))
      clear HST HBD c4
      refine Drawn.wp_region_gen (S := (fun W' => W'.cell? ⟨r, 0, none⟩ = some (.slice (some ⟨gd, 0, none⟩) md cd) ∧ W'.cell? ⟨gd, iu * 58 + 2, none⟩ = some (.slice A nk cc) ∧ Below W5.heap.size W5 W')) 16 (by kernel_rfl) ?_ ?_
      · exact ⟨c5, c6, Below.drew (Below.refl _ _)⟩
      intro hS0
      clear c5 c6
      (refine Drawn.gen_take (i := 0) rfl (by kernel_rfl) (by kernel_rfl) (by kernel_rfl) (by kernel_rfl) (by omega) (by first | assumption | exact hS0) (by first | exact .inr ⟨by rfl, rfl⟩ | exact .inl ⟨by rfl, by intro w2 hS; obtain ⟨ca, cb, hh⟩ := hS; go_simp; first | done | with_reducible rfl | exact ⟨rfl, rfl⟩⟩) ?_; (try simp only [Act.put, List.setIfInBounds_toArray, List.set_cons_zero, List.set_cons_succ]))
      (refine Drawn.gen_take (i := 1) rfl (by kernel_rfl) (by kernel_rfl) (by kernel_rfl) (by kernel_rfl) (by omega) (by first | assumption | exact hS0) (by first | exact .inr ⟨by rfl, rfl⟩ | exact .inl ⟨by rfl, by intro w2 hS; obtain ⟨ca, cb, hh⟩ := hS; go_simp; first | done | with_reducible rfl | exact ⟨rfl, rfl⟩⟩) ?_; (try simp only [Act.put, List.setIfInBounds_toArray, List.set_cons_zero, List.set_cons_succ]))
      (refine Drawn.gen_take (i := 2) rfl (by kernel_rfl) (by kernel_rfl) (by kernel_rfl) (by kernel_rfl) (by omega) (by first | assumption | exact hS0) (by first | exact .inr ⟨by rfl, rfl⟩ | exact .inl ⟨by rfl, by intro w2 hS; obtain ⟨ca, cb, hh⟩ := hS; go_simp; first | done | with_reducible rfl | exact ⟨rfl, rfl⟩⟩) ?_; (try simp only [Act.put, List.setIfInBounds_toArray, List.set_cons_zero, List.set_cons_succ]))
      (refine Drawn.gen_take (i := 3) rfl (by kernel_rfl) (by kernel_rfl) (by kernel_rfl) (by kernel_rfl) (by omega) (by first | assumption | exact hS0) (by first | exact .inr ⟨by rfl, rfl⟩ | exact .inl ⟨by rfl, by intro w2 hS; obtain ⟨ca, cb, hh⟩ := hS; go_simp; first | done | with_reducible rfl | exact ⟨rfl, rfl⟩⟩) ?_; (try simp only [Act.put, List.setIfInBounds_toArray, List.set_cons_zero, List.set_cons_succ]))
      (refine Drawn.gen_take (i := 4) rfl (by kernel_rfl) (by kernel_rfl) (by kernel_rfl) (by kernel_rfl) (by omega) (by first | assumption | exact hS0) (by first | exact .inr ⟨by rfl, rfl⟩ | exact .inl ⟨by rfl, by intro w2 hS; obtain ⟨ca, cb, hh⟩ := hS; go_simp; first | done | with_reducible rfl | exact ⟨rfl, rfl⟩⟩) ?_; (try simp only [Act.put, List.setIfInBounds_toArray, List.set_cons_zero, List.set_cons_succ]))
      (refine Drawn.gen_take (i := 5) rfl (by kernel_rfl) (by kernel_rfl) (by kernel_rfl) (by kernel_rfl) (by omega) (by first | assumption | exact hS0) (by first | exact .inr ⟨by rfl, rfl⟩ | exact .inl ⟨by rfl, by intro w2 hS; obtain ⟨ca, cb, hh⟩ := hS; go_simp; first | done | with_reducible rfl | exact ⟨rfl, rfl⟩⟩) ?_; (try simp only [Act.put, List.setIfInBounds_toArray, List.set_cons_zero, List.set_cons_succ]))
      (refine Drawn.gen_take (i := 6) rfl (by kernel_rfl) (by kernel_rfl) (by kernel_rfl) (by kernel_rfl) (by omega) (by first | assumption | exact hS0) (by first | exact .inr ⟨by rfl, rfl⟩ | exact .inl ⟨by rfl, by intro w2 hS; obtain ⟨ca, cb, hh⟩ := hS; go_simp; first | done | with_reducible rfl | exact ⟨rfl, rfl⟩⟩) ?_; (try simp only [Act.put, List.setIfInBounds_toArray, List.set_cons_zero, List.set_cons_succ]))
      (refine Drawn.gen_take (i := 7) rfl (by kernel_rfl) (by kernel_rfl) (by kernel_rfl) (by kernel_rfl) (by omega) (by first | assumption | exact hS0) (by first | exact .inr ⟨by rfl, rfl⟩ | exact .inl ⟨by rfl, by intro w2 hS; obtain ⟨ca, cb, hh⟩ := hS; go_simp; first | done | with_reducible rfl | exact ⟨rfl, rfl⟩⟩) ?_; (try simp only [Act.put, List.setIfInBounds_toArray, List.set_cons_zero, List.set_cons_succ]))
      (refine Drawn.gen_take (i := 8) rfl (by kernel_rfl) (by kernel_rfl) (by kernel_rfl) (by kernel_rfl) (by omega) (by first | assumption | exact hS0) (by first | exact .inr ⟨by rfl, rfl⟩ | exact .inl ⟨by rfl, by intro w2 hS; obtain ⟨ca, cb, hh⟩ := hS; go_simp; first | done | with_reducible rfl | exact ⟨rfl, rfl⟩⟩) ?_; (try simp only [Act.put, List.setIfInBounds_toArray, List.set_cons_zero, List.set_cons_succ]))
      (refine Drawn.gen_take (i := 9) rfl (by kernel_rfl) (by kernel_rfl) (by kernel_rfl) (by kernel_rfl) (by omega) (by first | assumption | exact hS0) (by first | exact .inr ⟨by rfl, rfl⟩ | exact .inl ⟨by rfl, by intro w2 hS; obtain ⟨ca, cb, hh⟩ := hS; go_simp; first | done | with_reducible rfl | exact ⟨rfl, rfl⟩⟩) ?_; (try simp only [Act.put, List.setIfInBounds_toArray, List.set_cons_zero, List.set_cons_succ]))
      (refine Drawn.gen_take (i := 10) rfl (by kernel_rfl) (by kernel_rfl) (by kernel_rfl) (by kernel_rfl) (by omega) (by first | assumption | exact hS0) (by first | exact .inr ⟨by rfl, rfl⟩ | exact .inl ⟨by rfl, by intro w2 hS; obtain ⟨ca, cb, hh⟩ := hS; go_simp; first | done | with_reducible rfl | exact ⟨rfl, rfl⟩⟩) ?_; (try simp only [Act.put, List.setIfInBounds_toArray, List.set_cons_zero, List.set_cons_succ]))
      (refine Drawn.gen_take (i := 11) rfl (by kernel_rfl) (by kernel_rfl) (by kernel_rfl) (by kernel_rfl) (by omega) (by first | assumption | exact hS0) (by first | exact .inr ⟨by rfl, rfl⟩ | exact .inl ⟨by rfl, by intro w2 hS; obtain ⟨ca, cb, hh⟩ := hS; go_simp; first | done | with_reducible rfl | exact ⟨rfl, rfl⟩⟩) ?_; (try simp only [Act.put, List.setIfInBounds_toArray, List.set_cons_zero, List.set_cons_succ]))
      (refine Drawn.gen_take (i := 12) rfl (by kernel_rfl) (by kernel_rfl) (by kernel_rfl) (by kernel_rfl) (by omega) (by first | assumption | exact hS0) (by first | exact .inr ⟨by rfl, rfl⟩ | exact .inl ⟨by rfl, by intro w2 hS; obtain ⟨ca, cb, hh⟩ := hS; go_simp; first | done | with_reducible rfl | exact ⟨rfl, rfl⟩⟩) ?_; (try simp only [Act.put, List.setIfInBounds_toArray, List.set_cons_zero, List.set_cons_succ]))
      (refine Drawn.gen_take (i := 13) rfl (by kernel_rfl) (by kernel_rfl) (by kernel_rfl) (by kernel_rfl) (by omega) (by first | assumption | exact hS0) (by first | exact .inr ⟨by rfl, rfl⟩ | exact .inl ⟨by rfl, by intro w2 hS; obtain ⟨ca, cb, hh⟩ := hS; go_simp; first | done | with_reducible rfl | exact ⟨rfl, rfl⟩⟩) ?_; (try simp only [Act.put, List.setIfInBounds_toArray, List.set_cons_zero, List.set_cons_succ]))
      (refine Drawn.gen_take (i := 14) rfl (by kernel_rfl) (by kernel_rfl) (by kernel_rfl) (by kernel_rfl) (by omega) (by first | assumption | exact hS0) (by first | exact .inr ⟨by rfl, rfl⟩ | exact .inl ⟨by rfl, by intro w2 hS; obtain ⟨ca, cb, hh⟩ := hS; go_simp; first | done | with_reducible rfl | exact ⟨rfl, rfl⟩⟩) ?_; (try simp only [Act.put, List.setIfInBounds_toArray, List.set_cons_zero, List.set_cons_succ]))
      refine Drawn.gen_one (i := 15) (by kernel_rfl) rfl (by rfl) ?_
      refine Drawn.Step.call (by go_simp; first | done | with_reducible rfl | exact ⟨rfl, rfl⟩) (dwith_any (HROW.out.after hS0.2.2) (by rw [HNK.out]; exact hnel.out) (by rw [HNK.out]; exact hil.out) (k' : Int)) ?_
      rintro e w6 ⟨⟨v6, rfl, ho6⟩, hb6⟩
      have hS1 := hS0.2.2.trans (hb6.mono hS0.2.2.size)
      have hn6 := Nat.le_trans hS0.2.2.size (Nat.le_refl _)
      have hK6 := rowBase ho6 (Nat.zero_le _)
      have hown6 := fun b hb => Nat.le_trans hn6 (World.ownsRow.lt ho6 b hb).1
      obtain ⟨A6, c6, rfl⟩ := own_sliceR ho6
      have hD6 := HD5.out.after hS1
      have c7 := hD6.cT
      have c8 := hD6.cKids HU5.out
      rw [HV5'.out] at c8
      obtain ⟨cur, hcur, _⟩ := hD6.cur
      have hth := hcur.thaw (iu * 58 + 2)
      have hD7 := Lib.hid (hD6.setKids HU5.out hK6)
      have hG7 : DG r gd K5 T5 W5 (w6.setCell ⟨gd, iu * 58 + 2, none⟩ (.slice A6 (Tr.wi p.kids i k').length c6)) gd (fun z => if z = (iu : Int) then .slice A6 (Tr.wi p.kids i k').length c6 else K5 z) (Tr.set T5 iu { p with kids := Tr.wi p.kids i k' }) :=
        ⟨(Out.of_below hS1).trans ((Out.refl _ _).set (M := downed r gd K5 T5) (.inr (.inl rfl)) _ _), fun b hb => (downed_kids HU5.out hb).elim .inl fun q => .inr (hown6 b q)⟩
      have HG7 := Lib.hid (HG5.out.trans hG7)
      refine ⟨_, rfl, fun _ => ⟨c7, c8, hS1⟩, ?_⟩
      clear hG7 hS0 hS1 hn6 hK6 hown6 ho6 hb6 hcur hD6 HG5 HROW HB1
      generalize hnl : (Tr.wi p.kids i (k' : Int)).length = nl at *
      (try simp only [Act.put, List.setIfInBounds_toArray, List.set_cons_zero, List.set_cons_succ])
      refine Drawn.gen_one (i := 16) (by kernel_rfl) rfl (by rfl) ?_
      refine Drawn.Step.value (by go_simp; first | done | with_reducible rfl | exact ⟨rfl, rfl⟩) ?_; refine ⟨by first | (intro hlt; exact absurd hlt (by decide)) | (intro _; exact hlt), ?_⟩; (try simp only [Act.put, List.setIfInBounds_toArray, List.set_cons_zero, List.set_cons_succ])
      refine Drawn.gen_one (i := 17) (by kernel_rfl) rfl (by rfl) ?_
      refine Drawn.Step.value (by go_simp; first | done | with_reducible rfl | exact ⟨rfl, rfl⟩) ?_; refine ⟨by first | (intro hlt; exact absurd hlt (by decide)) | (intro _; exact hlt), ?_⟩; (try simp only [Act.put, List.setIfInBounds_toArray, List.set_cons_zero, List.set_cons_succ])
      refine Drawn.gen_one (i := 18) (by kernel_rfl) rfl (by rfl) ?_
      refine Drawn.Step.skip (by go_simp; first | done | with_reducible rfl | exact ⟨rfl, rfl⟩) ?_; refine ⟨by first | (intro hlt; exact absurd hlt (by decide)) | (intro _; exact hlt), ?_⟩; (try simp only [Act.put])
      refine Drawn.gen_end (by kernel_rfl) ?_
      go_wp2
      go_ret2
      rw [HT5.out]
      exact ⟨rfl, _, _, _, _, hD7.out, hml, HG7.out⟩

set_option maxHeartbeats 8000000 in
theorem dadd_grow {w : World} {r g c m : Nat} {K : Int → Value} {T : Tr.T} (h : Doc w r g c m K T) (H : Tr.WF T) (hn : (Tr.ord T).length < 4096) (hmm : m + 1 ≤ 4096) {u a : Int} {p : Tr.Nd} (hu : T u = some p) {i : Nat} (ha : a = i) (hi : i ≤ p.kids.length) {d : Nat} (hd : Tr.Dp T u d) (hd63 : d < 63) {k : Nat} (hk : Tr.Free T (k : Int)) (hkm : k = m) : Calls Try.prog 37 #[.pointer (some ⟨r, 0, none⟩), .int .i64 u, .int .i64 a] w fun e w' => e = .returned (.tuple #[.int .i64 (k : Int), .int .i64 0]) ∧ ∃ g' c' m' K', Doc w' r g' c' m' K' (Tr.addT T (k : Int) u i) ∧ m' ≤ m + 1 ∧ DG r g K T w w' g' K' (Tr.addT T (k : Int) u i) := by
  subst ha
  have key := dhas_any h u
  rw [isSome_of hu] at key
  obtain ⟨iu, rfl, him⟩ := h.nat hu
  have c0 := h.cT
  have c1 := h.cKids hu
  obtain ⟨A, cc, hv, _⟩ := (h.row _ p hu).ints
  rw [hv] at c1
  have hkl := H.kids_le hu
  have keyL := dlen_any h H
  have KD := Lib.hid fun W (hb : Below w.heap.size w W) => ddepth_some (h.after hb) (fun _ q => H.root_up q) hd (by omega)
  have hnn : ¬ (4096 : Int) ≤ ((Tr.ord T).length : Int) := by omega
  have hdd : ¬ (63 : Int) ≤ (d : Int) := by omega
  have hr0 : ¬ (i : Int) < 0 := by omega
  have hr1 : ¬ (p.kids.length : Int) < (i : Int) := by omega
  have hT := Lib.hid (addT_doc (i := i) hu hk.2.1)
  rw [hT.out]
  have HD := Lib.hid h
  have HV := Lib.hid hv
  have HU := Lib.hid hu
  have HK := Lib.hid hk
  have hil := Lib.hid hi
  have hnel : Hid (p.kids.length ≤ 10000) := Lib.hid (by omega)
  clear h hv hd hT hu hk hi hkl
  generalize hnk : p.kids.length = nk at *
  have HNK := Lib.hid hnk
  clear hnk
  generalize (Tr.ord T).length = q at *
  go_enter Try.func37, Try.ntmps37
  go_upto_region 9 with (first | (go_at_call 15; (with_reducible refine key.mono ?_); rintro e w' ⟨rfl, rfl⟩) | (go_at_call 52; (with_reducible refine keyL.mono ?_); rintro e w1 ⟨rfl, hb1⟩) | (go_at_call 19; (with_reducible refine (KD.out _ hb1).mono ?_); rintro e w' ⟨rfl, rfl⟩))
  have HB1 := Lib.hid hb1
  clear key keyL KD c1
  have H1 := Lib.hid (HD.out.after hb1)
  clear hb1 HD c0
  go_wp2
  go_loopw [8] (fun iv wr => ∃ k' : Nat, k' ≤ k ∧ iv = .int .i64 (k' : Int) ∧ wr = w') (fun iv _ => k - (intOf iv).toNat)
  case atStart => exact ⟨0, by omega, rfl, rfl⟩
  case round =>
    obtain ⟨k', hk', rfl, rfl⟩ := hrel
    have keyH := dhas_any H1.out (k' : Int)
    by_cases hlt : k' < k
    · have hs : (T (k' : Int)).isSome = true := by
        cases e : T (k' : Int) with
        | none => exact absurd e (HK.out.2.2 _ (by omega) (by omega))
        | some _ => rfl
      rw [hs] at keyH
      go_wp2_with (go_at_call 15; (with_reducible refine keyH.mono ?_); rintro e w' ⟨rfl, rfl⟩)
      go_roundw
      case rel => exact ⟨k' + 1, by omega, by go_num, trivial⟩
      case measure => simp [intOf]; omega
    · obtain rfl : k' = k := by omega
      rw [isNone_of HK.out.2.1] at keyH
      have h1 := H1.out
      obtain ⟨gd, cd, w2, hr13, hrA, hD, hG⟩ := h1.grow hmm; have HR13 := Lib.hid hr13; have c0 := h1.cT; have cB : w2.cell? ⟨r, 0, none⟩ = some (.slice (some ⟨g, 0, none⟩) m c) := (by rw [hrA.cell]; rfl); have cC := hrA.thaw 0; have hkd : k' < m + 1 := (by omega); have himd : iu < m + 1 := (by omega); have hml : m + 1 ≤ m + 1 := Nat.le_refl _; clear hr13 hrA; subst hkm
      have HD := Lib.hid hD
      have HG := Lib.hid hG
      clear hD hG h1 H1
      go_upto_region 14 with (first | (go_at_call 15; (with_reducible refine keyH.mono ?_); rintro e w' ⟨rfl, rfl⟩) | (refine wpList_build (by rfl) 74 _ rfl #[] (by simp) (build_dzero _) ?_) | (refine wpList_buildSlice (by rfl) 75 1 _ rfl #[(0, .agg dzero)] (by simp only [List.map_toArray, List.map_cons, List.map_nil]; rfl) (slice_dzero _) ?_) | (at_builtin; refine wpList_append_run (by rfl) _ _ 75 rfl rfl rfl HR13.out ?_))
      generalize w2.setCell ⟨r, 0, none⟩ (.slice (some ⟨gd, 0, none⟩) (k' + 1) cd) = Wd at *; generalize hmd : k' + 1 = md at *; replace hml := Nat.le_of_eq hmd.symm; clear hmd
      have hT4 := HK.out.2.1
      have hne : iu ≠ k' := fun e => by have := HU.out; rw [e, hT4] at this; cases this
      obtain ⟨W5, hst, hO5, hD5, hG5⟩ := HD.out.setBox hkd hT4 (iu : Int)
      have c4 := HD.out.cT
      have HST := Lib.hid hst
      have HBD := Lib.hid (build_dbox (iu : Int))
      have HG5 := Lib.hid (((DG.of_below HB1.out).trans HG.out).trans hG5)
      have hU5 : Tr.set T (k' : Int) ⟨iu, [], Re.zero⟩ iu = some p := (Tr.set_other _ _ (by omega)).trans HU.out
      have hKu : (if (iu : Int) = (k' : Int) then (Value.slice none 0 0) else K iu) = .slice A nk cc := by rw [if_neg (by omega)]; exact HV.out
      have c5 := hD5.cT
      have c6 := hD5.cKids hU5
      have hrow5 := hD5.row _ _ hU5
      simp only [hKu] at c6 hrow5
      have HD5 := Lib.hid hD5
      have HU5 := Lib.hid hU5
      have HROW := Lib.hid hrow5
      have HV5 : Hid ((if (iu : Int) = (k' : Int) then (Value.slice none 0 0) else K iu) = .slice A nk cc) := Lib.hid hKu
      clear c0 hst hO5 hD5 hG5 HD HG hU5 hKu hT4 hrow5 hne HV keyH
      generalize dcells (iu : Int) (.slice none 0 0) Re.zero = dc at *
      have HV5' : Hid ((fun z : Int => if z = (k' : Int) then (Value.slice none 0 0) else K z) iu = .slice A nk cc) := HV5
      clear HV5
      generalize (fun z : Int => if z = (k' : Int) then (Value.slice none 0 0) else K z) = K5 at *
      generalize hT5 : Tr.set T (k' : Int) ⟨iu, [], Re.zero⟩ = T5 at *
      have HT5 := Lib.hid hT5
      clear hT5
      go_upto_region 15 with (first | (refine wpList_build (by rfl) 74 _ rfl #[(0, .bool true), (1, .int .i64 (iu : Int))] (by simp only [List.map_toArray, List.map_cons, List.map_nil]; rfl) (HBD.out _) ?_) | (refine wpList_none (by rfl) (exec_store (.tmp 64) (.tmp 63) rfl rfl rfl HST.out) ?_))
      clear HST HBD c4
      refine Drawn.wp_region_gen (S := (fun W' => W'.cell? ⟨r, 0, none⟩ = some (.slice (some ⟨gd, 0, none⟩) md cd) ∧ W'.cell? ⟨gd, iu * 58 + 2, none⟩ = some (.slice A nk cc) ∧ Below W5.heap.size W5 W')) 16 (by kernel_rfl) ?_ ?_
      · exact ⟨c5, c6, Below.drew (Below.refl _ _)⟩
      intro hS0
      clear c5 c6
      (refine Drawn.gen_take (i := 0) rfl (by kernel_rfl) (by kernel_rfl) (by kernel_rfl) (by kernel_rfl) (by omega) (by first | assumption | exact hS0) (by first | exact .inr ⟨by rfl, rfl⟩ | exact .inl ⟨by rfl, by intro w2 hS; obtain ⟨ca, cb, hh⟩ := hS; go_simp; first | done | with_reducible rfl | exact ⟨rfl, rfl⟩⟩) ?_; (try simp only [Act.put, List.setIfInBounds_toArray, List.set_cons_zero, List.set_cons_succ]))
      (refine Drawn.gen_take (i := 1) rfl (by kernel_rfl) (by kernel_rfl) (by kernel_rfl) (by kernel_rfl) (by omega) (by first | assumption | exact hS0) (by first | exact .inr ⟨by rfl, rfl⟩ | exact .inl ⟨by rfl, by intro w2 hS; obtain ⟨ca, cb, hh⟩ := hS; go_simp; first | done | with_reducible rfl | exact ⟨rfl, rfl⟩⟩) ?_; (try simp only [Act.put, List.setIfInBounds_toArray, List.set_cons_zero, List.set_cons_succ]))
      (refine Drawn.gen_take (i := 2) rfl (by kernel_rfl) (by kernel_rfl) (by kernel_rfl) (by kernel_rfl) (by omega) (by first | assumption | exact hS0) (by first | exact .inr ⟨by rfl, rfl⟩ | exact .inl ⟨by rfl, by intro w2 hS; obtain ⟨ca, cb, hh⟩ := hS; go_simp; first | done | with_reducible rfl | exact ⟨rfl, rfl⟩⟩) ?_; (try simp only [Act.put, List.setIfInBounds_toArray, List.set_cons_zero, List.set_cons_succ]))
      (refine Drawn.gen_take (i := 3) rfl (by kernel_rfl) (by kernel_rfl) (by kernel_rfl) (by kernel_rfl) (by omega) (by first | assumption | exact hS0) (by first | exact .inr ⟨by rfl, rfl⟩ | exact .inl ⟨by rfl, by intro w2 hS; obtain ⟨ca, cb, hh⟩ := hS; go_simp; first | done | with_reducible rfl | exact ⟨rfl, rfl⟩⟩) ?_; (try simp only [Act.put, List.setIfInBounds_toArray, List.set_cons_zero, List.set_cons_succ]))
      (refine Drawn.gen_take (i := 4) rfl (by kernel_rfl) (by kernel_rfl) (by kernel_rfl) (by kernel_rfl) (by omega) (by first | assumption | exact hS0) (by first | exact .inr ⟨by rfl, rfl⟩ | exact .inl ⟨by rfl, by intro w2 hS; obtain ⟨ca, cb, hh⟩ := hS; go_simp; first | done | with_reducible rfl | exact ⟨rfl, rfl⟩⟩) ?_; (try simp only [Act.put, List.setIfInBounds_toArray, List.set_cons_zero, List.set_cons_succ]))
      (refine Drawn.gen_take (i := 5) rfl (by kernel_rfl) (by kernel_rfl) (by kernel_rfl) (by kernel_rfl) (by omega) (by first | assumption | exact hS0) (by first | exact .inr ⟨by rfl, rfl⟩ | exact .inl ⟨by rfl, by intro w2 hS; obtain ⟨ca, cb, hh⟩ := hS; go_simp; first | done | with_reducible rfl | exact ⟨rfl, rfl⟩⟩) ?_; (try simp only [Act.put, List.setIfInBounds_toArray, List.set_cons_zero, List.set_cons_succ]))
      (refine Drawn.gen_take (i := 6) rfl (by kernel_rfl) (by kernel_rfl) (by kernel_rfl) (by kernel_rfl) (by omega) (by first | assumption | exact hS0) (by first | exact .inr ⟨by rfl, rfl⟩ | exact .inl ⟨by rfl, by intro w2 hS; obtain ⟨ca, cb, hh⟩ := hS; go_simp; first | done | with_reducible rfl | exact ⟨rfl, rfl⟩⟩) ?_; (try simp only [Act.put, List.setIfInBounds_toArray, List.set_cons_zero, List.set_cons_succ]))
      (refine Drawn.gen_take (i := 7) rfl (by kernel_rfl) (by kernel_rfl) (by kernel_rfl) (by kernel_rfl) (by omega) (by first | assumption | exact hS0) (by first | exact .inr ⟨by rfl, rfl⟩ | exact .inl ⟨by rfl, by intro w2 hS; obtain ⟨ca, cb, hh⟩ := hS; go_simp; first | done | with_reducible rfl | exact ⟨rfl, rfl⟩⟩) ?_; (try simp only [Act.put, List.setIfInBounds_toArray, List.set_cons_zero, List.set_cons_succ]))
      (refine Drawn.gen_take (i := 8) rfl (by kernel_rfl) (by kernel_rfl) (by kernel_rfl) (by kernel_rfl) (by omega) (by first | assumption | exact hS0) (by first | exact .inr ⟨by rfl, rfl⟩ | exact .inl ⟨by rfl, by intro w2 hS; obtain ⟨ca, cb, hh⟩ := hS; go_simp; first | done | with_reducible rfl | exact ⟨rfl, rfl⟩⟩) ?_; (try simp only [Act.put, List.setIfInBounds_toArray, List.set_cons_zero, List.set_cons_succ]))
      (refine Drawn.gen_take (i := 9) rfl (by kernel_rfl) (by kernel_rfl) (by kernel_rfl) (by kernel_rfl) (by omega) (by first | assumption | exact hS0) (by first | exact .inr ⟨by rfl, rfl⟩ | exact .inl ⟨by rfl, by intro w2 hS; obtain ⟨ca, cb, hh⟩ := hS; go_simp; first | done | with_reducible rfl | exact ⟨rfl, rfl⟩⟩) ?_; (try simp only [Act.put, List.setIfInBounds_toArray, List.set_cons_zero, List.set_cons_succ]))
      (refine Drawn.gen_take (i := 10) rfl (by kernel_rfl) (by kernel_rfl) (by kernel_rfl) (by kernel_rfl) (by omega) (by first | assumption | exact hS0) (by first | exact .inr ⟨by rfl, rfl⟩ | exact .inl ⟨by rfl, by intro w2 hS; obtain ⟨ca, cb, hh⟩ := hS; go_simp; first | done | with_reducible rfl | exact ⟨rfl, rfl⟩⟩) ?_; (try simp only [Act.put, List.setIfInBounds_toArray, List.set_cons_zero, List.set_cons_succ]))
      (refine Drawn.gen_take (i := 11) rfl (by kernel_rfl) (by kernel_rfl) (by kernel_rfl) (by kernel_rfl) (by omega) (by first | assumption | exact hS0) (by first | exact .inr ⟨by rfl, rfl⟩ | exact .inl ⟨by rfl, by intro w2 hS; obtain ⟨ca, cb, hh⟩ := hS; go_simp; first | done | with_reducible rfl | exact ⟨rfl, rfl⟩⟩) ?_; (try simp only [Act.put, List.setIfInBounds_toArray, List.set_cons_zero, List.set_cons_succ]))
      (refine Drawn.gen_take (i := 12) rfl (by kernel_rfl) (by kernel_rfl) (by kernel_rfl) (by kernel_rfl) (by omega) (by first | assumption | exact hS0) (by first | exact .inr ⟨by rfl, rfl⟩ | exact .inl ⟨by rfl, by intro w2 hS; obtain ⟨ca, cb, hh⟩ := hS; go_simp; first | done | with_reducible rfl | exact ⟨rfl, rfl⟩⟩) ?_; (try simp only [Act.put, List.setIfInBounds_toArray, List.set_cons_zero, List.set_cons_succ]))
      (refine Drawn.gen_take (i := 13) rfl (by kernel_rfl) (by kernel_rfl) (by kernel_rfl) (by kernel_rfl) (by omega) (by first | assumption | exact hS0) (by first | exact .inr ⟨by rfl, rfl⟩ | exact .inl ⟨by rfl, by intro w2 hS; obtain ⟨ca, cb, hh⟩ := hS; go_simp; first | done | with_reducible rfl | exact ⟨rfl, rfl⟩⟩) ?_; (try simp only [Act.put, List.setIfInBounds_toArray, List.set_cons_zero, List.set_cons_succ]))
      (refine Drawn.gen_take (i := 14) rfl (by kernel_rfl) (by kernel_rfl) (by kernel_rfl) (by kernel_rfl) (by omega) (by first | assumption | exact hS0) (by first | exact .inr ⟨by rfl, rfl⟩ | exact .inl ⟨by rfl, by intro w2 hS; obtain ⟨ca, cb, hh⟩ := hS; go_simp; first | done | with_reducible rfl | exact ⟨rfl, rfl⟩⟩) ?_; (try simp only [Act.put, List.setIfInBounds_toArray, List.set_cons_zero, List.set_cons_succ]))
      refine Drawn.gen_one (i := 15) (by kernel_rfl) rfl (by rfl) ?_
      refine Drawn.Step.call (by go_simp; first | done | with_reducible rfl | exact ⟨rfl, rfl⟩) (dwith_any (HROW.out.after hS0.2.2) (by rw [HNK.out]; exact hnel.out) (by rw [HNK.out]; exact hil.out) (k' : Int)) ?_
      rintro e w6 ⟨⟨v6, rfl, ho6⟩, hb6⟩
      have hS1 := hS0.2.2.trans (hb6.mono hS0.2.2.size)
      have hn6 := Nat.le_trans hS0.2.2.size (Nat.le_refl _)
      have hK6 := rowBase ho6 (Nat.zero_le _)
      have hown6 := fun b hb => Nat.le_trans hn6 (World.ownsRow.lt ho6 b hb).1
      obtain ⟨A6, c6, rfl⟩ := own_sliceR ho6
      have hD6 := HD5.out.after hS1
      have c7 := hD6.cT
      have c8 := hD6.cKids HU5.out
      rw [HV5'.out] at c8
      obtain ⟨cur, hcur, _⟩ := hD6.cur
      have hth := hcur.thaw (iu * 58 + 2)
      have hD7 := Lib.hid (hD6.setKids HU5.out hK6)
      have hG7 : DG r gd K5 T5 W5 (w6.setCell ⟨gd, iu * 58 + 2, none⟩ (.slice A6 (Tr.wi p.kids i k').length c6)) gd (fun z => if z = (iu : Int) then .slice A6 (Tr.wi p.kids i k').length c6 else K5 z) (Tr.set T5 iu { p with kids := Tr.wi p.kids i k' }) :=
        ⟨(Out.of_below hS1).trans ((Out.refl _ _).set (M := downed r gd K5 T5) (.inr (.inl rfl)) _ _), fun b hb => (downed_kids HU5.out hb).elim .inl fun q => .inr (hown6 b q)⟩
      have HG7 := Lib.hid (HG5.out.trans hG7)
      refine ⟨_, rfl, fun _ => ⟨c7, c8, hS1⟩, ?_⟩
      clear hG7 hS0 hS1 hn6 hK6 hown6 ho6 hb6 hcur hD6 HG5 HROW HB1
      generalize hnl : (Tr.wi p.kids i (k' : Int)).length = nl at *
      (try simp only [Act.put, List.setIfInBounds_toArray, List.set_cons_zero, List.set_cons_succ])
      refine Drawn.gen_one (i := 16) (by kernel_rfl) rfl (by rfl) ?_
      refine Drawn.Step.value (by go_simp; first | done | with_reducible rfl | exact ⟨rfl, rfl⟩) ?_; refine ⟨by first | (intro hlt; exact absurd hlt (by decide)) | (intro _; exact hlt), ?_⟩; (try simp only [Act.put, List.setIfInBounds_toArray, List.set_cons_zero, List.set_cons_succ])
      refine Drawn.gen_one (i := 17) (by kernel_rfl) rfl (by rfl) ?_
      refine Drawn.Step.value (by go_simp; first | done | with_reducible rfl | exact ⟨rfl, rfl⟩) ?_; refine ⟨by first | (intro hlt; exact absurd hlt (by decide)) | (intro _; exact hlt), ?_⟩; (try simp only [Act.put, List.setIfInBounds_toArray, List.set_cons_zero, List.set_cons_succ])
      refine Drawn.gen_one (i := 18) (by kernel_rfl) rfl (by rfl) ?_
      refine Drawn.Step.skip (by go_simp; first | done | with_reducible rfl | exact ⟨rfl, rfl⟩) ?_; refine ⟨by first | (intro hlt; exact absurd hlt (by decide)) | (intro _; exact hlt), ?_⟩; (try simp only [Act.put])
      refine Drawn.gen_end (by kernel_rfl) ?_
      go_wp2
      go_ret2
      rw [HT5.out]
      exact ⟨rfl, _, _, _, _, hD7.out, hml, HG7.out⟩

end Go.Proofs.Ytbkocceemfhhbaa.Fix
