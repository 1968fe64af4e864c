/- The document's tree: Remove. -/
import Derived.Test.YtbkocceemfhhbaaTrDocAd2
namespace Go.Proofs.Ytbkocceemfhhbaa.Fix
open Go.ChangeShapes Go.WideShapes Go.ChangeAt Go.RowKit Go.Deep Go.Joins Go.Shelf
set_option linter.unusedVariables false
set_option linter.unusedSimpArgs false
set_option maxRecDepth 100000

theorem leave_doc {T : Tr.T} {x : Int} {nd p : Tr.Nd} (hx : T x = some nd) (hp : T nd.up = some p) : Tr.leave T x = Tr.set T nd.up { p with kids := Tr.wo p.kids x } := by
  unfold Tr.leave; rw [hx]; dsimp only; rw [hp]
theorem reads_box {ops : Array Oper} {S : World → Prop} {o : Oper} {a : Act} {v : Value} (hrun : ∀ w, (Instr.build 74 #[]).run Try.prog w = .ok v w) (hw : Region.wanted o (yielded ops a.tmps) = true) (ho : o.op = .build 74 #[]) : Drawn.Reads Try.prog ops S o v a :=
  .inl ⟨hw, fun w _ => by unfold execOp; simp only [ho, List.map_toArray, List.map_nil, Sem.run_bind, hrun w, Result.andThen_ok, Sem.run_pure]⟩

set_option maxHeartbeats 8000000 in
theorem dremove_any {w : World} {r g c m : Nat} {K : Int → Value} {T : Tr.T} (h : Doc w r g c m K T) (H : Tr.WF T) (x : Int) : Calls Try.prog 34 #[.pointer (some ⟨r, 0, none⟩), .int .i64 x] w fun e w' => e = .returned (.tuple #[.int .i64 (Tr.remI T x), .int .i64 (Tr.remE T x)]) ∧ ∃ K', Doc w' r g c m K' (Tr.remR T x) ∧ DG r g K T w w' g K' (Tr.remR T x) := by
  have HD := Lib.hid h
  have key := dhas_any h x
  cases hT : T x with
  | none =>
    have hE : Tr.remE T x = 2 := by unfold Tr.remE; rw [hT]
    have hI : Tr.remI T x = 0 := by unfold Tr.remI; rw [hE]; rfl
    have hR : Tr.remR T x = T := by unfold Tr.remR; rw [hE]; rfl
    rw [hE, hI, hR]
    rw [isNone_of hT] at key
    clear h hE hI hR
    go_enter Try.func34, Try.ntmps34
    go_wp2_with (go_at_call 15; (with_reducible refine key.mono ?_); rintro e w' ⟨rfl, rfl⟩)
    go_ret2
    exact ⟨rfl, _, HD.out, DG.refl _ _ _ _ _⟩
  | some nd =>
    rw [isSome_of hT] at key
    by_cases h0 : x = 0
    · have hE : Tr.remE T x = 1 := by unfold Tr.remE; rw [hT]; exact if_pos h0
      have hI : Tr.remI T x = 0 := by unfold Tr.remI; rw [hE]; rfl
      have hR : Tr.remR T x = T := by unfold Tr.remR; rw [hE]; rfl
      rw [hE, hI, hR]
      clear h hE hI hR
      subst h0
      go_enter Try.func34, Try.ntmps34
      go_wp2_with (go_at_call 15; (with_reducible refine key.mono ?_); rintro e w' ⟨rfl, rfl⟩)
      go_ret2
      exact ⟨rfl, _, HD.out, DG.refl _ _ _ _ _⟩
    · have hE : Tr.remE T x = 0 := by unfold Tr.remE; rw [hT]; exact if_neg h0
      have hI : Tr.remI T x = ((Tr.sub T 64 x).length : Int) := by unfold Tr.remI; rw [hE]; rfl
      obtain ⟨p, hp, hxp⟩ := H.up x nd hT h0
      have hR : Tr.remR T x = Tr.del (Tr.set T nd.up { p with kids := Tr.wo p.kids x }) (Tr.sub T 64 x) := by unfold Tr.remR; rw [hE, if_pos rfl, ← leave_doc hT hp]; rfl
      rw [hE, hI, hR]
      have hsl : (Tr.sub T 64 x).length ≤ 4096 := by
        have := H.rem_ord hT h0
        have := H.ord_small
        omega
      have keyI := dinside_any 64 x h (H.fit64 hT) (by omega)
      have hin : ∀ y ∈ Tr.sub T 64 x, 0 ≤ y ∧ y < m := fun y hy => by
        obtain ⟨yd, hyd⟩ := ((H.mem_sub (H.fit64 hT)).1 hy).live
        exact h.range _ _ hyd
      have hpk : p.kids.length ≤ 10000 := by have := H.kids_le hp; have := H.ord_small; omega
      obtain ⟨nu, nk, ns⟩ := nd
      dsimp only at hp hR
      obtain ⟨iu, rfl, him⟩ := h.nat hp
      obtain ⟨ix, rfl, hix⟩ := h.nat hT
      have h0b : ((ix : Int) == 0) = false := by simpa using h0
      have HT := Lib.hid hT
      have HP := Lib.hid hp
      have HIN := Lib.hid hin
      have HPK := Lib.hid hpk
      clear hE hI hR hxp hT hp hin hpk
      generalize hl : Tr.sub T 64 (ix : Int) = l at *
      clear hl
      generalize hn : l.length = n at *
      have HN := Lib.hid hn
      clear hn
      go_enter Try.func34, Try.ntmps34
      go_upto_region 6 with (first | (go_at_call 15; (with_reducible refine key.mono ?_); rintro e w' ⟨rfl, rfl⟩) | (go_at_call 25; (with_reducible refine keyI.mono ?_); rintro e w1 ⟨⟨v1, rfl, ho1⟩, hb1⟩; obtain ⟨A1, c1, rfl⟩ := own_sliceR ho1))
      have D1 := HD.out.after hb1
      have c4 := D1.cT
      have c5 := D1.cUp HT.out
      have c6 := D1.cKids HP.out
      have hrow5 := D1.row _ _ HP.out
      obtain ⟨A, cc, hv, _⟩ := hrow5.ints
      rw [hv] at c6 hrow5
      have HROW := Lib.hid hrow5
      have HV := Lib.hid hv
      have HD1 := Lib.hid D1
      have HO1 := Lib.hid ho1
      have HB1 := Lib.hid hb1
      clear h key keyI hrow5 hv D1 ho1 hb1
      generalize hnk : p.kids.length = nk at *
      have HNK := Lib.hid hnk
      clear hnk
      go_upto_region 7 with (fail)
      clear c5
      refine Drawn.wp_region_gen (S := (fun W' => W'.cell? ⟨r, 0, none⟩ = some (.slice (some ⟨g, 0, none⟩) m c) ∧ W'.cell? ⟨g, iu * 58 + 2, none⟩ = some (.slice A nk cc) ∧ Below w1.heap.size w1 W')) 15 (by kernel_rfl) ?_ ?_
      · exact ⟨c4, c6, Below.drew (Below.refl _ _)⟩
      intro hS0
      clear c4 c6
      (refine Drawn.gen_take (i := 0) rfl (by kernel_rfl) (by kernel_rfl) (by kernel_rfl) (by kernel_rfl) (by omega) (by first | assumption | exact hS0) (by first | exact .inr ⟨by rfl, rfl⟩ | exact .inl ⟨by rfl, by intro w2 hS; obtain ⟨ca, cb, hh⟩ := hS; go_simp; first | done | with_reducible rfl | exact ⟨rfl, rfl⟩⟩) ?_; (try simp only [Act.put, List.setIfInBounds_toArray, List.set_cons_zero, List.set_cons_succ]))
      (refine Drawn.gen_take (i := 1) rfl (by kernel_rfl) (by kernel_rfl) (by kernel_rfl) (by kernel_rfl) (by omega) (by first | assumption | exact hS0) (by first | exact .inr ⟨by rfl, rfl⟩ | exact .inl ⟨by rfl, by intro w2 hS; obtain ⟨ca, cb, hh⟩ := hS; go_simp; first | done | with_reducible rfl | exact ⟨rfl, rfl⟩⟩) ?_; (try simp only [Act.put, List.setIfInBounds_toArray, List.set_cons_zero, List.set_cons_succ]))
      (refine Drawn.gen_take (i := 2) rfl (by kernel_rfl) (by kernel_rfl) (by kernel_rfl) (by kernel_rfl) (by omega) (by first | assumption | exact hS0) (by first | exact .inr ⟨by rfl, rfl⟩ | exact .inl ⟨by rfl, by intro w2 hS; obtain ⟨ca, cb, hh⟩ := hS; go_simp; first | done | with_reducible rfl | exact ⟨rfl, rfl⟩⟩) ?_; (try simp only [Act.put, List.setIfInBounds_toArray, List.set_cons_zero, List.set_cons_succ]))
      (refine Drawn.gen_take (i := 3) rfl (by kernel_rfl) (by kernel_rfl) (by kernel_rfl) (by kernel_rfl) (by omega) (by first | assumption | exact hS0) (by first | exact .inr ⟨by rfl, rfl⟩ | exact .inl ⟨by rfl, by intro w2 hS; obtain ⟨ca, cb, hh⟩ := hS; go_simp; first | done | with_reducible rfl | exact ⟨rfl, rfl⟩⟩) ?_; (try simp only [Act.put, List.setIfInBounds_toArray, List.set_cons_zero, List.set_cons_succ]))
      (refine Drawn.gen_take (i := 4) rfl (by kernel_rfl) (by kernel_rfl) (by kernel_rfl) (by kernel_rfl) (by omega) (by first | assumption | exact hS0) (by first | exact .inr ⟨by rfl, rfl⟩ | exact .inl ⟨by rfl, by intro w2 hS; obtain ⟨ca, cb, hh⟩ := hS; go_simp; first | done | with_reducible rfl | exact ⟨rfl, rfl⟩⟩) ?_; (try simp only [Act.put, List.setIfInBounds_toArray, List.set_cons_zero, List.set_cons_succ]))
      (refine Drawn.gen_take (i := 5) rfl (by kernel_rfl) (by kernel_rfl) (by kernel_rfl) (by kernel_rfl) (by omega) (by first | assumption | exact hS0) (by first | exact .inr ⟨by rfl, rfl⟩ | exact .inl ⟨by rfl, by intro w2 hS; obtain ⟨ca, cb, hh⟩ := hS; go_simp; first | done | with_reducible rfl | exact ⟨rfl, rfl⟩⟩) ?_; (try simp only [Act.put, List.setIfInBounds_toArray, List.set_cons_zero, List.set_cons_succ]))
      (refine Drawn.gen_take (i := 6) rfl (by kernel_rfl) (by kernel_rfl) (by kernel_rfl) (by kernel_rfl) (by omega) (by first | assumption | exact hS0) (by first | exact .inr ⟨by rfl, rfl⟩ | exact .inl ⟨by rfl, by intro w2 hS; obtain ⟨ca, cb, hh⟩ := hS; go_simp; first | done | with_reducible rfl | exact ⟨rfl, rfl⟩⟩) ?_; (try simp only [Act.put, List.setIfInBounds_toArray, List.set_cons_zero, List.set_cons_succ]))
      (refine Drawn.gen_take (i := 7) rfl (by kernel_rfl) (by kernel_rfl) (by kernel_rfl) (by kernel_rfl) (by omega) (by first | assumption | exact hS0) (by first | exact .inr ⟨by rfl, rfl⟩ | exact .inl ⟨by rfl, by intro w2 hS; obtain ⟨ca, cb, hh⟩ := hS; go_simp; first | done | with_reducible rfl | exact ⟨rfl, rfl⟩⟩) ?_; (try simp only [Act.put, List.setIfInBounds_toArray, List.set_cons_zero, List.set_cons_succ]))
      (refine Drawn.gen_take (i := 8) rfl (by kernel_rfl) (by kernel_rfl) (by kernel_rfl) (by kernel_rfl) (by omega) (by first | assumption | exact hS0) (by first | exact .inr ⟨by rfl, rfl⟩ | exact .inl ⟨by rfl, by intro w2 hS; obtain ⟨ca, cb, hh⟩ := hS; go_simp; first | done | with_reducible rfl | exact ⟨rfl, rfl⟩⟩) ?_; (try simp only [Act.put, List.setIfInBounds_toArray, List.set_cons_zero, List.set_cons_succ]))
      (refine Drawn.gen_take (i := 9) rfl (by kernel_rfl) (by kernel_rfl) (by kernel_rfl) (by kernel_rfl) (by omega) (by first | assumption | exact hS0) (by first | exact .inr ⟨by rfl, rfl⟩ | exact .inl ⟨by rfl, by intro w2 hS; obtain ⟨ca, cb, hh⟩ := hS; go_simp; first | done | with_reducible rfl | exact ⟨rfl, rfl⟩⟩) ?_; (try simp only [Act.put, List.setIfInBounds_toArray, List.set_cons_zero, List.set_cons_succ]))
      (refine Drawn.gen_take (i := 10) rfl (by kernel_rfl) (by kernel_rfl) (by kernel_rfl) (by kernel_rfl) (by omega) (by first | assumption | exact hS0) (by first | exact .inr ⟨by rfl, rfl⟩ | exact .inl ⟨by rfl, by intro w2 hS; obtain ⟨ca, cb, hh⟩ := hS; go_simp; first | done | with_reducible rfl | exact ⟨rfl, rfl⟩⟩) ?_; (try simp only [Act.put, List.setIfInBounds_toArray, List.set_cons_zero, List.set_cons_succ]))
      (refine Drawn.gen_take (i := 11) rfl (by kernel_rfl) (by kernel_rfl) (by kernel_rfl) (by kernel_rfl) (by omega) (by first | assumption | exact hS0) (by first | exact .inr ⟨by rfl, rfl⟩ | exact .inl ⟨by rfl, by intro w2 hS; obtain ⟨ca, cb, hh⟩ := hS; go_simp; first | done | with_reducible rfl | exact ⟨rfl, rfl⟩⟩) ?_; (try simp only [Act.put, List.setIfInBounds_toArray, List.set_cons_zero, List.set_cons_succ]))
      (refine Drawn.gen_take (i := 12) rfl (by kernel_rfl) (by kernel_rfl) (by kernel_rfl) (by kernel_rfl) (by omega) (by first | assumption | exact hS0) (by first | exact .inr ⟨by rfl, rfl⟩ | exact .inl ⟨by rfl, by intro w2 hS; obtain ⟨ca, cb, hh⟩ := hS; go_simp; first | done | with_reducible rfl | exact ⟨rfl, rfl⟩⟩) ?_; (try simp only [Act.put, List.setIfInBounds_toArray, List.set_cons_zero, List.set_cons_succ]))
      (refine Drawn.gen_take (i := 13) rfl (by kernel_rfl) (by kernel_rfl) (by kernel_rfl) (by kernel_rfl) (by omega) (by first | assumption | exact hS0) (by first | exact .inr ⟨by rfl, rfl⟩ | exact .inl ⟨by rfl, by intro w2 hS; obtain ⟨ca, cb, hh⟩ := hS; go_simp; first | done | with_reducible rfl | exact ⟨rfl, rfl⟩⟩) ?_; (try simp only [Act.put, List.setIfInBounds_toArray, List.set_cons_zero, List.set_cons_succ]))
      refine Drawn.gen_one (i := 14) (by kernel_rfl) rfl (by rfl) ?_
      refine Drawn.Step.call (by go_simp; first | done | with_reducible rfl | exact ⟨rfl, rfl⟩) (dwithout_any (HROW.out.after hS0.2.2) (by rw [HNK.out]; exact HPK.out) (ix : Int)) ?_
      rintro e w6 ⟨⟨v6, rfl, ho6⟩, hb6⟩
      have hS1 := hS0.2.2.trans (hb6.mono hS0.2.2.size)
      have hK6 := rowBase ho6 (Nat.zero_le _)
      have hown6 := fun b hb => Nat.le_trans hS0.2.2.size (World.ownsRow.lt ho6 b hb).1
      obtain ⟨A6, c6, rfl⟩ := own_sliceR ho6
      have hD6 := HD1.out.after hS1
      have c7 := hD6.cT
      have c8 := hD6.cKids HP.out
      rw [HV.out] at c8
      obtain ⟨cur, hcur, _⟩ := hD6.cur
      have hth := hcur.thaw (iu * 58 + 2)
      have hD7 := Lib.hid (hD6.setKids HP.out hK6)
      have hG7 : DG r g K T w1 (w6.setCell ⟨g, iu * 58 + 2, none⟩ (.slice A6 (Tr.wo p.kids ix).length c6)) g (fun z => if z = (iu : Int) then .slice A6 (Tr.wo p.kids ix).length c6 else K z) (Tr.set T iu { p with kids := Tr.wo p.kids ix }) :=
        ⟨(Out.of_below hS1).trans ((Out.refl _ _).set (M := downed r g K T) (.inr (.inl rfl)) _ _), fun b hb => (downed_kids HP.out hb).elim .inl fun q => .inr (hown6 b q)⟩
      have HG7 := Lib.hid ((DG.of_below HB1.out).trans hG7)
      have hO7 := ownsRow_out HO1.out (fun b hb (q : downed r g K T b) => absurd (HD.out.lt q) (by have := (World.ownsRow.lt HO1.out b hb).1; omega)) hG7.1
      have HO7 := Lib.hid hO7
      refine ⟨_, rfl, fun _ => ⟨c7, c8, hS1⟩, ?_⟩
      clear hG7 hS0 hS1 hK6 hown6 ho6 hb6 hcur hD6 HROW HB1 HO1 hO7 HV HD1
      generalize hnl : (Tr.wo p.kids (ix : Int)).length = nl at *
      (try simp only [Act.put, List.setIfInBounds_toArray, List.set_cons_zero, List.set_cons_succ])
      refine Drawn.gen_one (i := 15) (by kernel_rfl) rfl (by rfl) ?_
      refine Drawn.Step.value (by go_simp; first | done | with_reducible rfl | exact ⟨rfl, rfl⟩) ?_; refine ⟨by first | (intro hlt; exact absurd hlt (by decide)) | (intro _; exact hlt), ?_⟩; (try simp only [Act.put, List.setIfInBounds_toArray, List.set_cons_zero, List.set_cons_succ])
      refine Drawn.gen_one (i := 16) (by kernel_rfl) rfl (by rfl) ?_
      refine Drawn.Step.value (by go_simp; first | done | with_reducible rfl | exact ⟨rfl, rfl⟩) ?_; refine ⟨by first | (intro hlt; exact absurd hlt (by decide)) | (intro _; exact hlt), ?_⟩; (try simp only [Act.put, List.setIfInBounds_toArray, List.set_cons_zero, List.set_cons_succ])
      refine Drawn.gen_one (i := 17) (by kernel_rfl) rfl (by rfl) ?_
      refine Drawn.Step.skip (by go_simp; first | done | with_reducible rfl | exact ⟨rfl, rfl⟩) ?_; refine ⟨by first | (intro hlt; exact absurd hlt (by decide)) | (intro _; exact hlt), ?_⟩; (try simp only [Act.put])
      refine Drawn.gen_end (by kernel_rfl) ?_
      clear hnl c7 c8 hth
      generalize hT7 : Tr.set T (iu : Int) { p with kids := Tr.wo p.kids ix } = T7 at *
      generalize hK7 : (fun z : Int => if z = (iu : Int) then Value.slice A6 nl c6 else K z) = K7 at *
      generalize w6.setCell ⟨g, iu * 58 + 2, none⟩ (.slice A6 nl c6) = w7 at *
      have HT7 := Lib.hid hT7
      clear hT7 hK7
      have hOG : Hid (∀ b, (Value.slice A1 n c1).ownBlock = some b → b ≠ g) := Lib.hid fun b hb e => by
        have := (World.ownsRow.lt HO7.out b hb).1
        have := HD.out.lt (b := g) (.inr (.inl rfl))
        omega
      go_wp2
      go_loopw [8] (fun iv wr => ∃ k : Nat, k ≤ n ∧ iv = .int .i64 (k : Int) ∧ Doc wr r g c m K7 (Tr.del T7 (l.take k)) ∧ DG r g K T w wr g K7 (Tr.del T7 (l.take k)) ∧ wr.ownsRow w.heap.size 3 1 (.slice A1 n c1) n (l.map (Value.int .i64))) (fun iv _ => n - (intOf iv).toNat)
      case atStart => exact ⟨0, by omega, rfl, by rw [List.take_zero, del_nil]; exact hD7.out, by rw [List.take_zero, del_nil]; exact HG7.out, HO7.out⟩
      case round =>
        obtain ⟨k, hk, rfl, hd, hg, ho⟩ := hrel
        by_cases hlt : k < n
        · have hltz : (k : Int) < (n : Int) := by omega
          obtain ⟨hI, _⟩ := KS.ints_of (l := l) (by have := rowBase (base' := 0) ho (Nat.zero_le _); unfold KS; rw [HN.out]; exact this)
          obtain ⟨b6, o6, rfl, lb6, hcell6⟩ := hI.at_ (k := k) (by rw [HN.out]; exact hlt)
          have hat : l[k]? = some (l.getD k 0) := by rw [List.getD, List.getElem?_eq_getElem (by rw [HN.out]; exact hlt)]; rfl
          have hmem := List.mem_of_getElem? hat
          obtain ⟨y0, y1⟩ := HIN.out _ hmem
          have hstep := Lib.hid (del_del T7 l hat)
          generalize l.getD k 0 = y at *
          obtain ⟨iy, rfl⟩ : ∃ i : Nat, y = i := ⟨y.toNat, by omega⟩
          have hiy : iy < m := by omega
          obtain ⟨w8, hst, hO8, hD8, hG8⟩ := hd.after (Below.refl _ wr).drew |>.clearBox hiy
          have c7 := hd.cT
          have HST := Lib.hid hst
          have HBZ := Lib.hid build_dzero
          generalize dzero = dz at *
          have HD8 := Lib.hid hD8
          have HG8 := Lib.hid ((hg.trans (DG.of_below (Below.refl _ wr).drew)).trans hG8)
          have HO8 := Lib.hid (ownsRow_out (ownsRow_out (M := fun _ => False) ho (fun _ _ q => q) (Out.of_below (Below.refl _ wr).drew)) (fun b hb (q : b = g) => hOG.out b hb q) hO8)
          clear hst hO8 hD8 hG8 hd hg ho hI hmem hat
          go_upto_region 11 with (fail)
          refine Drawn.wp_region_gen (S := (fun W' => W'.cell? ⟨r, 0, none⟩ = some (.slice (some ⟨g, 0, none⟩) m c) ∧ W'.cell? ⟨b6, o6 + k, none⟩ = some (.int .i64 (iy : Int)))) 9 (by kernel_rfl) ?_ ?_
          · exact ⟨c7, hcell6⟩
          intro hS0
          clear c7 hcell6
          (refine Drawn.gen_take (i := 0) rfl (by kernel_rfl) (by kernel_rfl) (by kernel_rfl) (by kernel_rfl) (by omega) (by first | assumption | exact hS0) (by first | exact .inr ⟨by rfl, rfl⟩ | exact .inl ⟨by rfl, by intro w2 hS; obtain ⟨ca, cb⟩ := hS; go_simp; first | done | with_reducible rfl | exact ⟨rfl, rfl⟩⟩) ?_; (try simp only [Act.put, List.setIfInBounds_toArray, List.set_cons_zero, List.set_cons_succ]))
          (refine Drawn.gen_take (i := 1) rfl (by kernel_rfl) (by kernel_rfl) (by kernel_rfl) (by kernel_rfl) (by omega) (by first | assumption | exact hS0) (by first | exact .inr ⟨by rfl, rfl⟩ | exact .inl ⟨by rfl, by intro w2 hS; obtain ⟨ca, cb⟩ := hS; go_simp; first | done | with_reducible rfl | exact ⟨rfl, rfl⟩⟩) ?_; (try simp only [Act.put, List.setIfInBounds_toArray, List.set_cons_zero, List.set_cons_succ]))
          (refine Drawn.gen_take (i := 2) rfl (by kernel_rfl) (by kernel_rfl) (by kernel_rfl) (by kernel_rfl) (by omega) (by first | assumption | exact hS0) (by first | exact .inr ⟨by rfl, rfl⟩ | exact .inl ⟨by rfl, by intro w2 hS; obtain ⟨ca, cb⟩ := hS; go_simp; first | done | with_reducible rfl | exact ⟨rfl, rfl⟩⟩) ?_; (try simp only [Act.put, List.setIfInBounds_toArray, List.set_cons_zero, List.set_cons_succ]))
          (refine Drawn.gen_take (i := 3) rfl (by kernel_rfl) (by kernel_rfl) (by kernel_rfl) (by kernel_rfl) (by omega) (by first | assumption | exact hS0) (by first | exact .inr ⟨by rfl, rfl⟩ | exact .inl ⟨by rfl, by intro w2 hS; obtain ⟨ca, cb⟩ := hS; go_simp; first | done | with_reducible rfl | exact ⟨rfl, rfl⟩⟩) ?_; (try simp only [Act.put, List.setIfInBounds_toArray, List.set_cons_zero, List.set_cons_succ]))
          (refine Drawn.gen_take (i := 4) rfl (by kernel_rfl) (by kernel_rfl) (by kernel_rfl) (by kernel_rfl) (by omega) (by first | assumption | exact hS0) (by first | exact .inr ⟨by rfl, rfl⟩ | exact .inl ⟨by rfl, by intro w2 hS; obtain ⟨ca, cb⟩ := hS; go_simp; first | done | with_reducible rfl | exact ⟨rfl, rfl⟩⟩) ?_; (try simp only [Act.put, List.setIfInBounds_toArray, List.set_cons_zero, List.set_cons_succ]))
          (refine Drawn.gen_take (i := 5) rfl (by kernel_rfl) (by kernel_rfl) (by kernel_rfl) (by kernel_rfl) (by omega) (by first | assumption | exact hS0) (by first | exact .inr ⟨by rfl, rfl⟩ | exact .inl ⟨by rfl, by intro w2 hS; obtain ⟨ca, cb⟩ := hS; go_simp; first | done | with_reducible rfl | exact ⟨rfl, rfl⟩⟩) ?_; (try simp only [Act.put, List.setIfInBounds_toArray, List.set_cons_zero, List.set_cons_succ]))
          (refine Drawn.gen_take (i := 6) rfl (by kernel_rfl) (by kernel_rfl) (by kernel_rfl) (by kernel_rfl) (by omega) (by first | assumption | exact hS0) (by first | exact .inr ⟨by rfl, rfl⟩ | exact .inl ⟨by rfl, by intro w2 hS; obtain ⟨ca, cb⟩ := hS; go_simp; first | done | with_reducible rfl | exact ⟨rfl, rfl⟩⟩) ?_; (try simp only [Act.put, List.setIfInBounds_toArray, List.set_cons_zero, List.set_cons_succ]))
          (refine Drawn.gen_take (i := 7) rfl (by kernel_rfl) (by kernel_rfl) (by kernel_rfl) (by kernel_rfl) (by omega) (by first | assumption | exact hS0) (by first | exact .inr ⟨by rfl, rfl⟩ | exact .inl ⟨by rfl, by intro w2 hS; obtain ⟨ca, cb⟩ := hS; go_simp; first | done | with_reducible rfl | exact ⟨rfl, rfl⟩⟩) ?_; (try simp only [Act.put, List.setIfInBounds_toArray, List.set_cons_zero, List.set_cons_succ]))
          (refine Drawn.gen_take (i := 8) rfl (by kernel_rfl) (by kernel_rfl) (by kernel_rfl) (by kernel_rfl) (by omega) (by assumption) (reads_box HBZ.out (by rfl) rfl) ?_; (try simp only [Act.put, List.setIfInBounds_toArray, List.set_cons_zero, List.set_cons_succ]))
          refine Drawn.gen_one (i := 9) (by kernel_rfl) rfl (by rfl) ?_
          refine Drawn.Step.value (by go_simp; first | done | with_reducible rfl | exact ⟨rfl, rfl⟩) ?_; refine ⟨by first | (intro hlt; exact absurd hlt (by decide)) | (intro _; exact hlt), ?_⟩; (try simp only [Act.put, List.setIfInBounds_toArray, List.set_cons_zero, List.set_cons_succ])
          refine Drawn.gen_one (i := 10) (by kernel_rfl) rfl (by rfl) ?_
          refine Drawn.Step.skip (exec_store (.tmp 58) (.tmp 57) rfl rfl rfl HST.out) ?_
          refine ⟨fun hlt => absurd hlt (by decide), ?_⟩
          (try simp only [Act.put, List.setIfInBounds_toArray, List.set_cons_zero, List.set_cons_succ])
          refine Drawn.gen_end (by kernel_rfl) ?_
          go_wp2
          go_roundw
          case rel => exact ⟨k + 1, by omega, by go_num, by rw [← hstep.out]; exact HD8.out, by rw [← hstep.out]; exact HG8.out, HO8.out⟩
          case measure => simp [intOf]; omega
        · obtain rfl : k = n := by omega
          rw [List.take_of_length_le (by rw [HN.out]; exact Nat.le_refl _)] at hd hg
          have HD8 := Lib.hid hd
          have HG8 := Lib.hid hg
          clear hd hg ho
          go_wp2
          go_ret2
          rw [HT7.out]
          exact ⟨rfl, _, HD8.out, HG8.out⟩

end Go.Proofs.Ytbkocceemfhhbaa.Fix
