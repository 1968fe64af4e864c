/- The function to range over that tells a box, and then, kid by kid, what is in it. -/
import Derived.Test.YtmjnlnnedjmcfaaTrRange
import Derived.Shelf.Abstract
namespace Go.Proofs.Ytmjnlnnedjmcfaa.Fix
open Go.ChangeShapes Go.WideShapes Go.ChangeAt Go.RowKit Go.Shelf
set_option linter.unusedVariables false
set_option linter.unusedSimpArgs false
set_option maxRecDepth 100000
attribute [local go_sem] Oper.semAt_some

theorem whole_any (t : Nat) (x : Int) (w : World) : Calls Try.prog 41 #[.pointer (some ⟨t, 0, none⟩), .int .i64 x] w fun e w' => e = .returned (.func (.func 54) #[] #[.pointer (some ⟨w.heap.size, 0, none⟩), .pointer (some ⟨w.heap.size + 1, 0, none⟩)]) ∧
    w' = (w.alloc (.cells #[.pointer (some ⟨t, 0, none⟩)] 24)).alloc (.cells #[.int .i64 x] 3) := by
  have hmf : ∀ (fn : Fn) (first cap : Array Value) (w : World), (Instr.makeFunc fn first cap).run Try.prog w = .ok (.func fn first cap) w := fun _ _ _ _ => rfl
  go_enter Try.func41, Try.ntmps41
  go_wp2
  go_ret
  exact ⟨rfl, rfl⟩

theorem reads_lookup {ops : Array Oper} {S : World → Prop} {o : Oper} {a : Act} {ty : TypeId} {x y : Operand} {m z v : Value} (hw : Region.wanted o (yielded ops a.tmps) = true) (ho : o.op = .lookup ty x y false) (hx : a.eval x = m) (hy : a.eval y = z)
    (hrun : ∀ W, S W → (Instr.lookup ty m z false).run Try.prog W = .ok v W) : Drawn.Reads Try.prog ops S o v a :=
  .inl ⟨hw, fun W hS => by unfold execOp; simp only [ho, hx, hy, Sem.run_bind, Sem.run_pure, hrun W hS, Result.andThen_ok]⟩

/-- how many have been told ahead of kid k -/
def told (T : Tr.T) (f : Nat) (l : List Int) (k : Nat) : Nat := ((l.take k).flatMap (Tr.sub T f)).length

theorem told_succ (T : Tr.T) (f : Nat) {l : List Int} {k : Nat} (h : k < l.length) : told T f l (k + 1) = told T f l k + (Tr.sub T f (l.getD k 0)).length := by
  unfold told
  rw [take_snoc_int l k h, List.flatMap_append, List.length_append]
  simp
theorem told_all (T : Tr.T) (f : Nat) (l : List Int) : told T f l l.length = (l.flatMap (Tr.sub T f)).length := by unfold told; rw [List.take_length]
theorem told_at (T : Tr.T) (f : Nat) {l : List Int} {k i : Nat} (h : k < l.length) (hi : i < (Tr.sub T f (l.getD k 0)).length) : told T f l k + i < (l.flatMap (Tr.sub T f)).length ∧ (l.flatMap (Tr.sub T f)).getD (told T f l k + i) 0 = (Tr.sub T f (l.getD k 0)).getD i 0 := by
  have e : l.flatMap (Tr.sub T f) = (l.take k).flatMap (Tr.sub T f) ++ (Tr.sub T f (l.getD k 0) ++ (l.drop (k + 1)).flatMap (Tr.sub T f)) := by
    conv => lhs; rw [← List.take_append_drop (k + 1) l, take_snoc_int l k h]
    simp [List.flatMap_append, List.append_assoc]
  have e1 : ((l.take k).flatMap (Tr.sub T f)).length = told T f l k := rfl
  rw [e]
  generalize l.getD k 0 = y at *
  constructor
  · simp only [List.length_append, e1]; omega
  · unfold List.getD
    rw [List.getElem?_append_right (by omega), e1, Nat.add_sub_cancel_left, List.getElem?_append_left hi]

theorem Went.with_ {S S' S2 : Nat → Prop} {W W' W5 W6 : World} {yb : Nat} (h : Went S S' W W') (hy : W.heap.size ≤ yb ∧ yb < W'.heap.size) (hb : Below W'.heap.size W' W5) (k : Went (fun b => S' b ∨ b = yb) S2 W5 W6) : Went S S2 W W6 := by
  have e1 := h.1.size
  have e2 := hb.size
  have e3 := k.1.size
  refine ⟨⟨h.1.1.trans ((hb.mono (Nat.zero_le _)).trans k.1.1), fun b hlt hm => ?_⟩, fun b hs => ?_⟩
  · rw [k.1.2 b (by omega) (fun q => ?_), hb.block b (by omega), h.1.2 b hlt hm]
    rcases q with q | q
    · rcases h.2 b q with q | q
      · exact hm q
      · omega
    · omega
  · rcases k.2 b hs with (q | q) | q
    · rcases h.2 b q with q | q
      · exact .inl q
      · exact .inr (by omega)
    · exact .inr (by omega)
    · exact .inr (by omega)
theorem Went.sub {S S' S2 : Nat → Prop} {W W' : World} (h : Went S S' W W') (k : ∀ b, S2 b → S' b) : Went S S2 W W' := ⟨h.1, fun b hb => h.2 b (k b hb)⟩
theorem Went.more {S S' M : Nat → Prop} {W W' W'' : World} (h : Went S S' W W') (k : Out M W' W'') (hm : ∀ b, M b → W.heap.size ≤ b) : Went S S' W W'' := by
  have e1 := h.1.size
  have e2 := k.size
  refine ⟨⟨h.1.1.trans k.1, fun b hb hn => ?_⟩, fun b hb => (h.2 b hb).imp_right fun q => ⟨q.1, by omega⟩⟩
  rw [k.2 b (by omega) (fun q => by have := hm b q; omega), h.1.2 b hb hn]
theorem KS.ints_of {W : World} {A : Option Addr} {n c : Nat} {l : List Int} (h : KS W (.slice A n c) l) : Ints W A l ∧ l.length = n := by
  obtain ⟨A', c', e, hI, _⟩ := h.ints
  injection e with e1 e2 e3
  subst e1
  exact ⟨hI, e2.symm⟩

set_option maxHeartbeats 4000000 in
theorem whole_in (f : Nat) : ∀ (x : Int) (nn lp tb ib t n : Nat) (L : Lay) (T : Tr.T) (J : Nat → (Nat → Prop) → World → Prop) (Jx : (Nat → Prop) → World → Prop) (S : Nat → Prop) (W : World), Tr.Fit T f x → Rep W t L T n →
    At W tb (.cells #[.pointer (some ⟨t, 0, none⟩)] 24) → At W ib (.cells #[.int .i64 x] 3) → (∀ b, S b → b < W.heap.size ∧ ¬ owned t L T b ∧ b ≠ tb ∧ b ≠ ib) → Stab J → StabX Jx →
    (∀ m i S W, i < (Tr.sub T f x).length → J i S W → YieldAt Fence.wide m Try.prog lp #[.int .i64 ((Tr.sub T f x).getD i 0)] W (YPost J Jx i S W)) → J 0 S W →
    CallsIn Fence.wide nn Try.prog 54 #[.func (.yield lp) #[] #[], .pointer (some ⟨tb, 0, none⟩), .pointer (some ⟨ib, 0, none⟩)] W (IPost J Jx (Tr.sub T f x).length S W) := by
  induction f with
  | zero => intro x nn lp tb ib t n L T J Jx S W h; exact h.elim
  | succ f ih =>
    intro x nn lp tb ib t n L T J Jx S W hfit hR htb hib hS hJ hJx hY h0
    obtain ⟨nd, hT, hk⟩ := hfit
    have hsub := Tr.sub_some (f := f) hT
    obtain ⟨fl, hfl⟩ : ∃ fl, fl = nd.kids.flatMap (Tr.sub T f) := ⟨_, rfl⟩
    rw [← hfl] at hsub
    rw [hsub] at hY ⊢
    obtain ⟨yb, hyb⟩ : ∃ yb, yb = W.heap.size := ⟨_, rfl⟩
    obtain ⟨W1, hW1⟩ : ∃ W1, W1 = W.alloc (.cells #[.func (.yield lp) #[] #[]] 46) := ⟨_, rfl⟩
    have hB1 : Below W.heap.size W W1 := by rw [hW1]; exact Below.alloc' (Below.refl _ _) _
    have hA1 : At W1 yb (.cells #[.func (.yield lp) #[] #[]] 46) := by rw [hW1, hyb]; exact At.new _ _
    have hR1 := hR.after hB1
    have htb1 := htb.keep hB1
    have hib1 := hib.keep hB1
    have hJ1 := hJ 0 S (fun _ => False) W W1 h0 (Out.of_below hB1) (fun _ _ q => q)
    have hSy : ∀ b, S b → b < yb := fun b hb => by rw [hyb]; exact (hS b hb).1
    have hw1 : Went S S W W1.drew := Went.of_below hB1.drew
    have HS := Lib.hid hS
    have HY := Lib.hid hY
    have HJ := Lib.hid hJ
    have HJX := Lib.hid hJx
    have HK := Lib.hid hk
    have HFL := Lib.hid hfl
    have HSUB := Lib.hid hsub
    have HR0 := Lib.hid hR
    have HW0 := Lib.hid hyb
    have HTB := Lib.hid htb
    clear hS hY hJ hJx hk hfl hsub hR htb hib h0 hB1
    refine callsIn_of_wp_marks Try.func54 rfl trivial ?_ rfl
    simp only [Try.ntmps54, List.size_toArray, List.length_cons, List.length_nil, Nat.reduceAdd, Nat.reduceSub, Array.replicate_succ, Array.replicate_zero, List.push_toArray, List.append_toArray, List.nil_append, List.cons_append]
    gi_wp2
    rw [← hyb, ← hW1]
    clear hyb hW1
    refine wpIn_wide.2 ?_
    have hS0 : W1.drew.cell? ⟨tb, 0, none⟩ = some (.pointer (some ⟨t, 0, none⟩)) ∧ W1.drew.cell? ⟨ib, 0, none⟩ = some (.int .i64 x) ∧ Rep W1.drew t L T n ∧ W1.drew = W1.drew := ⟨htb1.cell 0, hib1.cell 0, hR1.after (Below.refl _ _).drew, rfl⟩
    refine Drawn.wp_region_gen (S := (fun W' => W'.cell? ⟨tb, 0, none⟩ = some (.pointer (some ⟨t, 0, none⟩)) ∧ W'.cell? ⟨ib, 0, none⟩ = some (.int .i64 x) ∧ Rep W' t L T n ∧ W' = W1.drew)) 5 (by kernel_rfl) ?_ ?_
    · exact hS0
    intro hS1
    (refine Drawn.gen_take (i := 0) rfl (by kernel_rfl) (by kernel_rfl) (by kernel_rfl) (by kernel_rfl) (by omega) (by first | assumption | exact hS0) (by first | exact .inr ⟨by rfl, rfl⟩ | exact .inl ⟨by rfl, by intro w2 hS; obtain ⟨ca, cb, hr, he⟩ := hS; go_simp; first | done | with_reducible rfl | exact ⟨rfl, rfl⟩⟩) ?_; (try simp only [Act.put, List.setIfInBounds_toArray, List.set_cons_zero, List.set_cons_succ]))
    (refine Drawn.gen_take (i := 2) rfl (by kernel_rfl) (by kernel_rfl) (by kernel_rfl) (by kernel_rfl) (by omega) (by first | assumption | exact hS0) (by first | exact .inr ⟨by rfl, rfl⟩ | exact .inl ⟨by rfl, by intro w2 hS; obtain ⟨ca, cb, hr, he⟩ := hS; go_simp; first | done | with_reducible rfl | exact ⟨rfl, rfl⟩⟩) ?_; (try simp only [Act.put, List.setIfInBounds_toArray, List.set_cons_zero, List.set_cons_succ]))
    refine Drawn.gen_one (i := 1) (by kernel_rfl) rfl (by rfl) ?_
    refine Drawn.Step.call (by go_simp; first | done | with_reducible rfl | exact ⟨rfl, rfl⟩) (tall_any hS1.2.2.1) ?_
    rintro e w4 ⟨rfl, rfl⟩
    refine ⟨_, rfl, fun _ => hS1, ?_⟩
    (try simp only [Act.put, List.setIfInBounds_toArray, List.set_cons_zero, List.set_cons_succ])
    (refine Drawn.gen_take (i := 3) rfl (by kernel_rfl) (by kernel_rfl) (by kernel_rfl) (by kernel_rfl) (by omega) (by assumption) (reads_lookup (by rfl) rfl rfl rfl (fun W h => h.2.2.1.look_some hT)) ?_; (try simp only [Act.put, List.setIfInBounds_toArray, List.set_cons_zero, List.set_cons_succ]))
    (refine Drawn.gen_take (i := 4) rfl (by kernel_rfl) (by kernel_rfl) (by kernel_rfl) (by kernel_rfl) (by omega) (by assumption) (by first | exact .inr ⟨by rfl, rfl⟩ | exact .inl ⟨by rfl, by intro w2 hS; go_simp; first | done | with_reducible rfl | exact ⟨rfl, rfl⟩⟩) ?_; (try simp only [Act.put, List.setIfInBounds_toArray, List.set_cons_zero, List.set_cons_succ]))
    refine Drawn.gen_end (by kernel_rfl) ?_
    have hA2 := hA1.drew
    have hR2 := hS0.2.2.1
    have htb2 := htb1.drew
    have hib2 := hib1.drew
    have hJ2 := HJ.out 0 S (fun _ => False) _ _ hJ1 (Out.drew (Out.refl _ _)) (fun _ _ q => q)
    clear hA1 hR1 htb1 hib1 hJ1 hS0 hS1
    generalize W1.drew = W2 at *
    obtain ⟨fn, tmps, assign, body, hy, hRd⟩ := HY.out (nn - 1) 0 S W2 (by simp) hJ2
    have hy' : (Instr.yield lp #[.int .i64 x]).run Try.prog W2 = .ok (.round lp fn tmps assign body) W2 := hy
    have cy := hA2.cell 0
    have ci := hib2.cell 0
    simp at cy ci
    clear hy
    have hdp : ∀ k : Nat, (Fence.wide.depth.isSome = true → 1 ≤ k) := fun k h => by simp [Fence.wide] at h
    gi_wp2
    refine ⟨hdp _, hRd.mono ?_⟩
    rintro e W3 ⟨S3, hw3, (⟨rfl, hJ3⟩ | ⟨rfl, hJx3⟩)⟩
    · have hR3 := hR2.out (M := S) (fun b hb q => (HS.out b q).2.1 hb) hw3.1
      have htb3 := htb2.out (fun q => (HS.out _ q).2.2.1 rfl) hw3.1
      have hA3 := hA2.out (fun q => Nat.lt_irrefl _ (hSy _ q)) hw3.1
      have hw03 := hw1.trans hw3
      have hS3 : ∀ b, S3 b → ¬ owned t L T b ∧ b ≠ tb ∧ b ≠ yb ∧ b < W3.heap.size := fun b hb => by
        have e1 := hw1.1.size
        have e2 := hw3.1.size
        have e4 := hA2.lt
        have e5 := HW0.out
        rcases hw3.2 b hb with q | q
        · have := HS.out b q
          exact ⟨this.2.1, this.2.2.1, Nat.ne_of_lt (hSy b q), by omega⟩
        · refine ⟨fun h => ?_, ?_, by omega, by omega⟩
          · have := hR2.lt h; omega
          · have := htb2.lt; omega
      have c1 := hR3.cKids hT
      obtain ⟨A, c, hv, hI, _⟩ := (hR3.row x nd hT).ints
      have hlen := (hR3.small x nd hT).2.2.2.2
      rw [hv] at c1
      generalize hls : nd.kids = l at *
      generalize hm : l.length = mm at *
      have HM := Lib.hid hm
      have HV := Lib.hid hv
      have HLS := Lib.hid hls
      clear hI hm hv hls hRd hy' cy ci hJ2 hA2 htb2 hib2 hw3
      gi_wp2
      refine wpIn_loop (fun a' W' => ∃ (k : Nat) (S' : Nat → Prop) (Ds : List Nat) (u6 u7 u26 u27 u28 u29 u30 u31 u32 u33 u34 u35 u36 u37 : Value), k ≤ mm ∧ J (1 + told T f l k) S' W' ∧ Went S S' W W' ∧ (Ds.Nodup ∧ ∀ D ∈ Ds, W.heap.size ≤ D ∧ ¬ S' D ∧ W'.heap[D]? = some (.deferred (some []))) ∧ At W' yb (.cells #[.func (.yield lp) #[] #[]] 46) ∧ (∀ b, S' b → ¬ owned t L T b ∧ b ≠ tb ∧ b ≠ yb ∧ b < W'.heap.size) ∧
        a' = { tmps := #[Value.func (Fn.yield lp) #[] #[], Value.pointer (some ⟨tb, 0, none⟩), Value.pointer (some ⟨ib, 0, none⟩), Value.pointer (some ⟨yb, 0, none⟩), Value.pointer (some ⟨L.bl x, 0, none⟩), undef, u6, u7,
          Value.pointer (some ⟨t, 0, none⟩), Value.map (some L.mb), Value.int IntKind.i64 x, Value.pointer (some ⟨L.bl x, 0, none⟩), Value.pointer (some ⟨L.bl x, 0, none⟩), Value.bool false, Value.bool false, Value.func (Fn.yield lp) #[] #[], Value.int IntKind.i64 x,
          Value.bool true, Value.bool false, Value.bool false, Value.pointer (some ⟨L.bl x, 0, none⟩), Value.pointer (some ⟨L.bl x, 0, none⟩), Value.pointer (some ⟨L.bl x, 1, none⟩),
          Value.slice A mm c, Value.int IntKind.i64 (mm : Int), Value.int IntKind.i64 (k : Int), u26, u27, u28, u29, u30, u31, u32, u33, u34, u35, u36, u37], defers := marks Ds }) (fun a' _ => mm - (intOf (a'.tmps.getD 25 undef)).toNat) ?start ?round
      case start =>
        exact ⟨0, S3, [], _, _, _, _, _, _, _, _, _, _, _, _, _, _, Nat.zero_le _, by simpa [told] using hJ3, hw03, ⟨.nil, fun D hD => by cases hD⟩, hA3, hS3, rfl⟩
      case round =>
        clear hJ3 hw03 hS3 hA3 htb3 hR3 c1
        rintro a' W' ⟨k, S', Ds, u6, u7, u26, u27, u28, u29, u30, u31, u32, u33, u34, u35, u36, u37, hkm, hJk, hw, ⟨hDn, hD⟩, hA', hS', rfl⟩
        have hR' := HR0.out.out (M := S) (fun b hb q => (HS.out b q).2.1 hb) hw.1
        have htb' := HTB.out.out (fun q => (HS.out _ q).2.2.1 rfl) hw.1
        have hI := hR'.row x nd hT
        rw [HV.out, HLS.out] at hI
        have hI' := hI.ints_of.1
        clear hI
        by_cases hlt : k < mm
        · obtain ⟨b, o, rfl, lb, hcell⟩ := hI'.at_ (k := k) (by rw [HM.out]; exact hlt)
          have hfz := HK.out (l.getD k 0) (by rw [List.getD, List.getElem?_eq_getElem (by rw [HM.out]; exact hlt)]; exact List.getElem_mem _)
          have hts := told_succ T f (l := l) (k := k) (by rw [HM.out]; exact hlt)
          have hta := fun i hi => told_at T f (l := l) (k := k) (i := i) (by rw [HM.out]; exact hlt) hi
          rw [← HFL.out] at hta
          generalize l.getD k 0 = z at *
          have ct := htb'.cell 0
          simp at ct
          have hB5 : Below W'.heap.size W' ((W'.alloc (.cells #[.pointer (some ⟨t, 0, none⟩)] 24)).alloc (.cells #[.int .i64 z] 3)) := Below.alloc' (Below.alloc' (Below.refl _ _) _) _
          have hA5 : At ((W'.alloc (.cells #[.pointer (some ⟨t, 0, none⟩)] 24)).alloc (.cells #[.int .i64 z] 3)) W'.heap.size (.cells #[.pointer (some ⟨t, 0, none⟩)] 24) := (At.new _ _).alloc _
          have hA6 : At ((W'.alloc (.cells #[.pointer (some ⟨t, 0, none⟩)] 24)).alloc (.cells #[.int .i64 z] 3)) (W'.heap.size + 1) (.cells #[.int .i64 z] 3) := At.new' _ (by simp)
          generalize hW5 : (W'.alloc (.cells #[.pointer (some ⟨t, 0, none⟩)] 24)).alloc (.cells #[.int .i64 z] 3) = W5 at *
          gi_wp2_with ((try refine ⟨trivial, ?_⟩); (try refine ⟨hdp _, ?_⟩); gi_at_call 41; refine (callsIn_wide.2 (whole_any t z W')).mono ?_; rintro e w' ⟨rfl, rfl⟩; rw [hW5])
          have e5 := hB5.size
          have hR5 := hR'.after hB5
          have hA5y := hA'.keep hB5
          have hybl := hA'.lt
          have hy0 : W.heap.size ≤ yb := Nat.le_of_eq HW0.out.symm
          have hy1 : yb ≤ W.heap.size := Nat.le_of_eq HW0.out
          obtain ⟨q, hq⟩ : ∃ q : Nat → Int, Hid (∀ i, q i = (Tr.sub T f z).getD i 0) := ⟨_, Lib.hid fun _ => rfl⟩
          have hJ5 := HJ.out (1 + told T f l k) S' (fun _ => False) W' W5 hJk (Out.of_below hB5) (fun _ _ q => q)
          have hlt1 := hA5.lt
          have hlt2 := hA6.lt
          refine range_own (gf := 54) (first := #[]) (lb := #[.pointer (some ⟨W'.heap.size, 0, none⟩), .pointer (some ⟨W'.heap.size + 1, 0, none⟩)]) rfl (enters_of Try.func54 (by kernel_rfl) rfl) (Tr.sub T f z).length (fun i => #[.int .i64 (q i)]) (fun _ => rfl)
            (fun i S2 V => ∃ S1, (∀ b, S2 b ↔ S1 b ∨ b = yb) ∧ (∀ b, S1 b → b ≠ yb) ∧ J (1 + told T f l k + i) S1 V ∧ At V yb (.cells #[.func (.yield lp) #[] #[]] 46))
            (fun S2 V => ∃ S1, (∀ b, S1 b → S2 b) ∧ Jx S1 V)
            ?stab ?stabx (fun b => S' b ∨ b = yb) (fun b hb => by rcases hb with hb | hb; (have := (hS' b hb).2.2.2; omega); omega) ⟨S', fun b => Iff.rfl, fun b hb => (hS' b hb).2.2.1, hJ5, hA5y⟩
            ?hit (fun i t => (t.setIfInBounds 32 (.int .i64 (q i))).setIfInBounds 7 (.int .i64 (q i))) ?assign ?body ?done ?stop
          case stab =>
            rintro i S2 M V V' ⟨S1, h1, h2, h3, h4⟩ ho hm
            exact ⟨S1, h1, h2, HJ.out _ _ _ _ _ h3 ho (fun b hb => hm b ((h1 b).2 (.inl hb))), h4.out (hm yb ((h1 yb).2 (.inr rfl))) ho⟩
          case stabx =>
            rintro S2 M V V' ⟨S1, h1, h2⟩ ho hm
            exact ⟨S1, h1, HJX.out _ _ _ _ h2 ho (fun b hb => hm b (h1 b hb))⟩
          case hit =>
            intro lp2 J2 Jx2 S1 V hb hs1 hj2 hjx2 hy2 h02
            refine ih z _ lp2 _ _ t n L T J2 Jx2 S1 V hfz (hR5.after hb) (hA5.keep hb) (hA6.keep hb) (fun b hs => ?_) hj2 hjx2 (fun m i S W h1 h2 => by rw [← hq.out i]; exact hy2 m i S W h1 h2) h02
            obtain ⟨h1, h2⟩ := hs1 b hs
            rcases h1 with (h1 | h1) | h1
            · have := hS' b h1
              exact ⟨h2, this.1, by omega, by omega⟩
            · subst h1
              refine ⟨h2, fun q => ?_, by omega, by omega⟩
              have := HR0.out.lt q
              omega
            · refine ⟨h2, fun q => ?_, by omega, by omega⟩
              have := hR5.lt q
              omega
          case assign =>
            intro l1 m1 i V G hi hG
            simp only [List.setIfInBounds_toArray, List.set_cons_zero, List.set_cons_succ] at hG
            gi_wp2
            first | exact hG | simpa using hG
          case body =>
            rintro l1 m1 i S2 V hi ⟨S1, h1, h2, h3, h4⟩
            obtain ⟨hti, hte⟩ := hta i hi
            have hyy := HY.out (m1 - 1) (1 + told T f l k + i) S1 V (by simp only [List.length_cons]; omega) h3
            rw [show (x :: fl).getD (1 + told T f l k + i) 0 = q i by rw [hq.out, ← hte, show 1 + told T f l k + i = (told T f l k + i) + 1 by omega]; rfl] at hyy
            obtain ⟨fn2, tmps2, assign2, body2, hyq, hRq⟩ := hyy
            have cyb := h4.cell 0
            simp at cyb
            generalize q i = y at *
            simp only [List.setIfInBounds_toArray, List.set_cons_zero, List.set_cons_succ]
            gi_wp2
            refine ⟨hdp _, RoundIn.mono (F := Fence.wide.inRound l1) hRq ?_⟩
            rintro e V3 ⟨S3', hw3, (⟨rfl, hJ3⟩ | ⟨rfl, hJx3⟩)⟩
            · have hyl := h4.lt
              gi_wp2
              refine ⟨fun b => S3' b ∨ b = yb, ⟨hw3.1.mono fun b _ hb => (h1 b).2 (.inl hb), fun b hb => ?_⟩, S3', fun b => Iff.rfl, fun b hb => ?_, hJ3, h4.out (fun hb => h2 yb hb rfl) hw3.1⟩
              · rcases hb with hb | hb
                · rcases hw3.2 b hb with hb | hb
                  · exact .inl ((h1 b).2 (.inl hb))
                  · exact .inr hb
                · exact .inl ((h1 b).2 (.inr hb))
              · rcases hw3.2 b hb with hb | hb
                · exact h2 b hb
                · omega
            · gi_wp2
              exact ⟨S3', ⟨hw3.1.mono fun b _ hb => (h1 b).2 (.inl hb), fun b hb => (hw3.2 b hb).imp_left fun hb => (h1 b).2 (.inl hb)⟩, S3', fun b hb => hb, hJx3⟩
          case done =>
            rintro D S2 V hDl hw5 hDS ⟨S1, h1, h2, h3, h4⟩ hDo
            have hwW := hw.with_ ⟨hy0, hybl⟩ hB5 hw5
            have e6 := hw5.1.size
            have hkl : (k : Int) < mm := by omega
            gi_wp2
            refine ⟨⟨k + 1, S1, D :: Ds, _, _, _, _, _, _, _, _, _, _, _, _, _, _, by omega, ?_, hwW.sub (fun b hb => (h1 b).2 (.inl hb)), ⟨List.nodup_cons.2 ⟨fun hm => ?_, hDn⟩, fun E hE => ?_⟩, h4, fun b hb => ?_, rfl⟩, ?_⟩
            · rw [hts, ← Nat.add_assoc]; exact h3
            · have := (Array.getElem?_eq_some_iff.1 (hD D hm).2.2).1
              omega
            · rcases List.mem_cons.1 hE with rfl | hE
              · exact ⟨by omega, fun q => hDS ((h1 _).2 (.inl q)), hDo⟩
              · obtain ⟨q1, q2, q3⟩ := hD E hE
                have q4 := (Array.getElem?_eq_some_iff.1 q3).1
                have q5 : E ≠ yb := fun e => by subst e; have := (show At W' E _ from q3).uniq hA'; cases this
                refine ⟨q1, fun q => ?_, ?_⟩
                · rcases hw5.2 E ((h1 E).2 (.inl q)) with (q | q) | q
                  · exact q2 q
                  · exact q5 q
                  · omega
                · rw [hw5.1.2 E (by omega) (fun q => q.elim q2 q5), hB5.block E q4]; exact q3
            · rcases hw5.2 b ((h1 b).2 (.inl hb)) with (q | q) | q
              · have := hS' b q
                exact ⟨this.1, this.2.1, this.2.2.1, by omega⟩
              · exact absurd q (h2 b hb)
              · refine ⟨fun r => ?_, by have := htb'.lt; omega, by omega, q.2⟩
                have := hR5.lt r
                omega
            · simp [intOf]; omega
          case stop =>
            rintro D S2 V hDl hw5 hDS ⟨S1, h1, h2⟩ hDo
            have hwW := hw.with_ ⟨hy0, hybl⟩ hB5 hw5
            have hE : ∀ E ∈ D :: Ds, W.heap.size ≤ E ∧ ¬ S2 E ∧ V.heap[E]? = some (.deferred (some [])) := fun E hE => by
              rcases List.mem_cons.1 hE with rfl | hE
              · exact ⟨by omega, hDS, hDo⟩
              · obtain ⟨q1, q2, q3⟩ := hD E hE
                have q4 := (Array.getElem?_eq_some_iff.1 q3).1
                have q5 : E ≠ yb := fun e => by subst e; have := (show At W' E _ from q3).uniq hA'; cases this
                refine ⟨q1, fun q => ?_, ?_⟩
                · rcases hw5.2 E q with (q | q) | q
                  · exact q2 q
                  · exact q5 q
                  · omega
                · rw [hw5.1.2 E (by omega) (fun q => q.elim q2 q5), hB5.block E q4]; exact q3
            have hnd : (D :: Ds).Nodup := List.nodup_cons.2 ⟨fun hm => by have := (Array.getElem?_eq_some_iff.1 (hD D hm).2.2).1; omega, hDn⟩
            gi_wp2
            exact leaves_marks (D :: Ds) V hnd (fun E q => (hE E q).2.2) fun W7 ho => ⟨_, results_none rfl _ _ _, ⟨⟨_, rfl⟩, S1, (hwW.sub h1).more ho (fun b hb => (hE b hb).1), .inr (HJX.out _ _ _ _ h2 ho (fun b hb q => (hE b q).2.1 (h1 b hb)))⟩⟩
        · obtain rfl : k = mm := by omega
          gi_wp2
          refine leaves_marks Ds W' hDn (fun E q => (hD E q).2.2) fun W7 ho => ⟨_, results_none rfl _ _ _, ⟨⟨_, rfl⟩, S', hw.more ho (fun b hb => (hD b hb).1), .inl ?_⟩⟩
          rw [HFL.out, ← told_all, HM.out, Nat.add_comm]
          exact HJ.out _ _ _ _ _ hJk ho (fun b hb q => (hD b q).2.1 hb)
    · gi_wp2
      exact ⟨_, results_none rfl _ _ _, ⟨⟨_, rfl⟩, S3, hw1.trans hw3, .inr hJx3⟩⟩

end Go.Proofs.Ytmjnlnnedjmcfaa.Fix
