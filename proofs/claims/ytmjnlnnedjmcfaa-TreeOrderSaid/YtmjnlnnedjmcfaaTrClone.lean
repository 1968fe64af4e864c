/- The contract of Clone of a tree. -/
import Derived.Test.YtmjnlnnedjmcfaaTrPar
namespace Go.Proofs.Ytmjnlnnedjmcfaa.Fix
open Go.ChangeShapes Go.WideShapes Go.ChangeAt Go.RowKit Go.Shelf
set_option linter.unusedVariables false
set_option linter.unusedSimpArgs false
set_option maxRecDepth 100000

theorem exec_box {w : World} {o : Oper} {a : Act} {t : TypeId} (x : Operand) (ho : o.op = .box t x) {cs : Array Value} (hx : a.eval x = .agg cs) : (execOp a.eval o).run Try.prog w = .ok (.value (.pointer (some ⟨w.heap.size, 0, none⟩))) (w.alloc (.cells cs t)) := by
  unfold execOp
  simp only [ho, hx, Sem.run_bind, Instr.box, newVar, newRow, run_newObj_alloc, Sem.run_pure, Result.andThen_ok]
  rfl
theorem exec_build {w : World} {o : Oper} {a : Act} (t : TypeId) (ps : Array (Nat × Operand)) (ho : o.op = .build t ps) {v : Value} (qs : Array (Nat × Value)) (hq : (ps.map fun p => (p.1, a.eval p.2)) = qs) (hrun : (Instr.build t qs).run Try.prog w = .ok v w) : (execOp a.eval o).run Try.prog w = .ok (.value v) w := by
  unfold execOp; simp only [ho, hq, Sem.run_bind, hrun, Result.andThen_ok, Sem.run_pure]
theorem exec_mapUpdate {w w' : World} {o : Oper} {a : Act} {t : TypeId} (x y z : Operand) (ho : o.op = .mapUpdate t x y z) {m k v : Value} (hx : a.eval x = m) (hy : a.eval y = k) (hz : a.eval z = v) (hrun : (Instr.mapUpdate t m k v).run Try.prog w = .ok () w') : (execOp a.eval o).run Try.prog w = .ok .skip w' := by
  unfold execOp; simp only [ho, hx, hy, hz, Sem.run_bind, hrun, Result.andThen_ok, Sem.run_pure]

theorem reads_load_sty {ops : Array Oper} {S : World → Prop} {o : Oper} {a : Act} (hw : Region.wanted o (yielded ops a.tmps) = true) (x : Operand) (ho : o.op = .load 43 x) {b k : Nat} (hx : a.eval x = .pointer (some ⟨b, k, none⟩)) {s : Re.St} (hs : ∀ w, S w → StyAt w b k s) : Drawn.Reads Try.prog ops S o (.agg (cells s)) a :=
  .inl ⟨hw, fun w h => by unfold execOp; simp only [ho, hx, Sem.run_bind, load_sty (hs w h), Result.andThen_ok, Sem.run_pure]⟩

theorem make_hint (n : Int) (w : World) : (Instr.makeMap 70 (some (.int .i64 n))).run Try.prog w = .ok (.map (some w.heap.size)) (w.alloc (.map #[] 0)) := by kernel_rfl

theorem ranges_out {M : Nat → Prop} {W W' : World} {k : TypeId} {b r n : Nat} {D : DataW Nat} {left : Lit → Bool} {cnt : Nat} (h : W.ranges Try.prog k ptR b r n D left cnt) (hb : ¬ M b) (hr : ¬ M r) (ho : Out M W W') : W'.ranges Try.prog k ptR b r n D left cnt := by
  have h1 := h.owns.lt
  have h2 := h.lt
  obtain ⟨es, clock, since, seen, c0, e1, F, hs, hD, e2, rest⟩ := h
  exact ⟨es, clock, since, seen, c0, (ho.2 b h1 hb).trans e1, F, hs, hD, (ho.2 r h2 hr).trans e2, rest⟩

/-- the boxes that are done -/
def Td (T : Tr.T) (left : Lit → Bool) : Tr.T := fun z => if left (.int .i64 z) = true then none else T z
theorem Td_struck {T : Tr.T} {left : Lit → Bool} {x : Int} {nd : Tr.Nd} (hx : T x = some nd) : Td T (fun kl => left kl && !kl.sameKey (.int .i64 x)) = Tr.set (Td T left) x nd := by
  funext z
  unfold Td Tr.set
  by_cases e : z = x
  · subst e
    simp [hx, WideAt.sameKey_self (keyLit z)]
  · have : (Lit.int .i64 z).sameKey (.int .i64 x) = false := by
      cases h : (Lit.int .i64 z).sameKey (.int .i64 x) with
      | false => rfl
      | true => exact absurd (WideAt.sameKey_eq h) (key_ne e)
    simp [this, e]
theorem Td_none {T : Tr.T} {left : Lit → Bool} (h : ∀ kl, left kl = false) : Td T left = T := by funext z; simp [Td, h]

set_option maxHeartbeats 4000000 in
theorem tclone_any {w : World} {t n : Nat} {L : Lay} {T : Tr.T} (h : Inv w t L T n) : Calls Try.prog 29 #[.pointer (some ⟨t, 0, none⟩)] w fun e w' => (∃ t', e = .returned (.pointer (some ⟨t', 0, none⟩)) ∧ ∃ L', Inv w' t' L' T n ∧ ∀ b, owned t' L' T b → w.heap.size ≤ b) ∧ Below w.heap.size w w' := by
  have hmm := make_hint (n : Int) w
  have keyL := tlen_any h.rep
  have hn4 : n ≤ 4096 := by have := h.wf.ord_small; have := h.num; omega
  have HI := Lib.hid h
  clear h
  go_enter Try.func29, Try.ntmps29
  go_upto_region 2 with (go_at_call 27; (with_reducible refine keyL.mono ?_); rintro e w'' ⟨rfl, rfl⟩)
  have hp1 := PM.made w
  have hB1 : Below w.heap.size w (w.alloc (.map #[] 0)) := Below.alloc' (Below.refl _ _) _
  have hs1 : (w.alloc (.map #[] 0)).heap.size = w.heap.size + 1 := by simp
  generalize w.alloc (.map #[] 0) = W1 at *
  have hr1 := HI.out.rep.after hB1
  obtain ⟨D, hown, hsz, hD⟩ := hr1.map
  have keyA := tall_any hr1
  go_wp2_with (first | (go_at_call 38; (with_reducible refine keyA.mono ?_); rintro e w' ⟨rfl, rfl⟩) | (at_range; refine wpList_range_own _ rfl _ 70 rfl 3 67 keyLaw Try.underlying70 ptR L.mb n D rfl hown ?_; intro w0 hrg0 hg0 hs0) | go_in)
  go_frame
  have hB0 : Below w.heap.size w w0 := hB1.trans ((Out.grown (M := fun _ => False) hg0 (fun b e => by cases e)).below (by omega) (fun b _ q => q))
  have hlt1 := hr1.lt (.inr (.inl rfl))
  have hPar0 : Par w0 ⟨w.heap.size, fun _ => 0, fun _ => .slice none 0 0⟩ (Td T (Maps.has D)) w.heap.size 0 := by
    have hn : ∀ z, Wf z → Td T (Maps.has D) z = none := fun z hz => by
      unfold Td
      split
      · rfl
      · rename_i hh
        rw [(hD z hz).2] at hh
        cases hT : T z with
        | none => rfl
        | some nd => rw [hT] at hh; exact absurd rfl hh
    have hn2 : ∀ z nd, Td T (Maps.has D) z = some nd → False := fun z nd hz => by
      have : T z = some nd := by
        unfold Td at hz
        split at hz
        · cases hz
        · exact hz
      rw [hn z (hr1.wf this)] at hz; cases hz
    refine ⟨(hp1.out (M := fun _ => False) (fun q => q) (Out.grown hg0 (fun b e => by cases e))).congr fun z hz => by rw [hn z hz]; rfl, fun z nd hz => (hn2 z nd hz).elim, fun z nd hz => (hn2 z nd hz).elim, fun y z hy => ?_, fun y z g hy => ?_, fun b hb => ?_⟩
    · obtain ⟨yd, hyd⟩ := Option.ne_none_iff_exists'.1 hy
      exact (hn2 y yd hyd).elim
    · obtain ⟨yd, hyd⟩ := Option.ne_none_iff_exists'.1 hy
      exact (hn2 y yd hyd).elim
    · rcases hb with rfl | ⟨z, nd, hz, _⟩
      · exact Nat.le_refl _
      · exact (hn2 z nd hz).elim
  have hown0 : ∀ b, ownedP ⟨w.heap.size, fun _ => 0, fun _ => .slice none 0 0⟩ (Td T (Maps.has D)) b → b ≠ W1.heap.size := fun b hb e => by
    rcases hb with rfl | ⟨z, nd, hz, _⟩
    · simp only at e; omega
    · have hT : T z = some nd := by
        unfold Td at hz
        split at hz
        · cases hz
        · exact hz
      unfold Td at hz
      rw [(hD z (hr1.wf hT)).2, hT] at hz
      cases hz
  generalize hrr : W1.heap.size = r at *
  have HD := Lib.hid hD
  clear hmm hp1 hr1 hown hg0 keyA hB1 hD
  go_loopw [4] (fun _ wr => ∃ left cnt L2 m, wr.ranges Try.prog 3 ptR L.mb r n D left cnt ∧ L2.mb = w.heap.size ∧ Par wr L2 (Td T left) w.heap.size m ∧ (∀ z, left (.int .i64 z) = true → Wf z → T z ≠ none) ∧ m + cnt ≤ n ∧ (∀ b, ownedP L2 (Td T left) b → b ≠ r) ∧ Below w.heap.size w wr) (fun _ wr => wr.rangeLeft L.mb r)
  case atStart =>
    exact ⟨_, _, _, 0, hrg0, rfl, hPar0, fun z hz hw e => (by rw [(HD.out z hw).2, e] at hz; cases hz), by omega, hown0, hB0⟩
  case round =>
    obtain ⟨left, cnt, L2, m, hrg, hmb, hP, hlv, hmc, hor, hB⟩ := hrel
    go_wp2_with (first | (at_next; refine wpList_next_ranges _ rfl _ rfl 3 keyLaw ptR (Value.int .i64) ptr (fun key kl hk => by obtain ⟨x, rfl, _⟩ := Maps.keyOf_int_inv Try.underlying3 hk; exact ⟨x, rfl⟩) (fun v y hv => by obtain ⟨c, rfl, _⟩ := ptR_some hv; exact ⟨c, rfl⟩) L.mb r n _ _ _ rfl hrg ?_ ?_) | go_in)
    · intro hc0 hl0
      rw [Td_none (T := T) hl0] at hP hor
      have hBn : Below wr.heap.size wr (wr.alloc (.cells #[.map (some w.heap.size)] 72)) := Below.alloc' (Below.refl _ _) _
      have hP2 := hP.after hBn
      have hm : m = n := (PM.count (Tr.ord T) hP.map HI.out.wf.nodup_ord (fun z hz => by obtain ⟨nd, hnd⟩ := HI.out.wf.mem_ord.1 hz; exact HI.out.rep.wf hnd) (fun z _ => by
        rw [HI.out.wf.mem_ord]
        cases T z <;> simp)).trans HI.out.num
      have hRep : Hid (Inv (wr.alloc (.cells #[.map (some w.heap.size)] 72)) wr.heap.size L2 T n) := Lib.hid ⟨⟨hmb ▸ At.new _ _, hm ▸ hP2.map, hP2.box, hP2.row, hP2.inj, hP2.apart, HI.out.rep.small⟩, HI.out.wf, HI.out.num⟩
      have hNew : Hid (∀ b, owned wr.heap.size L2 T b → w.heap.size ≤ b) := Lib.hid fun b hb => by
        rcases hb with rfl | hb
        · exact hB.size
        · exact hP.new b hb
      have HBF := Lib.hid (hB.trans (hBn.mono hB.size))
      clear hP hor hBn hP2 hrg hlv hB
      go_wp2_with (refine wpList_build (by rfl) 72 _ rfl #[(0, .map (some w.heap.size))] (by simp only [List.map_toArray, List.map_cons, List.map_nil]; rfl) (build_tree _ _) ?_)
      go_ret
      exact ⟨⟨_, rfl, L2, hRep.out, hNew.out⟩, HBF.out⟩
    · intro x c kl y1 y2 w2 cnt1 hkey hlx hR hat hrg1 hlt hg1 hs2 hen
      obtain ⟨x', ex, rfl, hxw⟩ := Maps.keyOf_int_inv Try.underlying3 hkey
      injection ex with _ ex
      subst ex
      obtain ⟨c', ec, ey⟩ := ptR_some hR
      injection ey with ey _
      have hne := hlv x hlx hxw
      obtain ⟨nd, hx⟩ := Option.ne_none_iff_exists'.1 hne
      have e1 := hat .nil
      rw [(HD.out x hxw).1, hx] at e1
      rw [ey] at e1
      have e2 := ptD_inj e1
      rw [ec, ← e2] at hen ⊢
      simp only [Option.map_some, ptr] at hen ⊢
      have hO1 : Out (fun b => b = w.heap.size + 1) wr w2 := Out.grown hg1 (fun b e => by injection e with e; exact e.symm)
      have hB2 : Below w.heap.size w w2 := hB.trans (hO1.below hB.size (fun b hb q => by omega))
      have hP2 := hP.out (M := fun b => b = w.heap.size + 1) (fun b hb q => hor b hb (q.trans hs1.symm)) hO1
      go_upto_region 5 with (fail)
      have hB3 : Below w2.heap.size w2 w2.drew := (Below.refl _ _).drew
      have hr3 := HI.out.rep.after (hB2.trans (hB3.mono hB2.size))
      have hP3 := hP2.after hB3
      have hrg3 := ranges_out (M := fun _ => False) hrg1 (fun q => q) (fun q => q) (Out.of_below hB3)
      have hB4 := hB2.trans (hB3.mono hB2.size)
      have hs3 := hB3.size
      obtain ⟨A, cc, hv, _⟩ := (hr3.row x nd hx).ints
      have hS0 : w2.drew.cell? ⟨L.bl x, 0, none⟩ = some (.int .i64 nd.up) ∧ w2.drew.cell? ⟨L.bl x, 1, none⟩ = some (.slice A nd.kids.length cc) ∧ StyAt w2.drew (L.bl x) 2 nd.sty := ⟨hr3.cUp hx, hv ▸ hr3.cKids hx, hr3.sty hx⟩
      have key := clone_any (hr3.row x nd hx) (by have := (hr3.small x nd hx).2.2.2.2; omega)
      rw [hv] at key
      have hRB : Hid (∀ W, Below w2.drew.heap.size w2.drew W → Rep W t L T n) := Lib.hid fun W hb => hr3.after hb
      have hPB : Hid (∀ W, Below w2.drew.heap.size w2.drew W → Par W L2 (Td T left) w.heap.size m) := Lib.hid fun W hb => hP3.after hb
      have HB4 := Lib.hid hB4
      have HRG := Lib.hid hrg3
      have HV := Lib.hid hv
      have HX := Lib.hid hx
      have HLV := Lib.hid hlv
      have HOR := Lib.hid hor
      have hcl := Lib.hid (show _ from hrg.left_eq)
      have hmlt := hr3.lt (.inr (.inl rfl))
      have HLX := Lib.hid hlx
      have hLmb : L.mb ≠ w.heap.size := fun e => by have := HI.out.rep.lt (b := L.mb) (.inr (.inl rfl)); omega
      clear hr3 hP3 hrg3 hB4 hv hR hrg hP hlv hor hB hg1 hkey hat ec ey hne e1 e2 hO1 hB2 hP2 hrg1 hen hB3 hlx hrr hs0 hrg0 hlt1 hown0 hPar0 hB0
      subst hs1
      refine Drawn.wp_region_gen (S := (fun W' => W'.cell? ⟨L.bl x, 0, none⟩ = some (.int .i64 nd.up) ∧ W'.cell? ⟨L.bl x, 1, none⟩ = some (.slice A nd.kids.length cc) ∧ StyAt W' (L.bl x) 2 nd.sty)) 18 (by kernel_rfl) ?_ ?_
      · exact hS0
      intro hS1
      (refine Drawn.gen_take (i := 0) rfl (by kernel_rfl) (by kernel_rfl) (by kernel_rfl) (by kernel_rfl) (by omega) (by assumption) (by first | exact .inr ⟨by rfl, rfl⟩ | exact .inl ⟨by rfl, by intro w2 hS; go_simp; first | done | with_reducible rfl | exact ⟨rfl, rfl⟩⟩) ?_; (try simp only [Act.put, List.setIfInBounds_toArray, List.set_cons_zero, List.set_cons_succ]))
      (refine Drawn.gen_take (i := 1) rfl (by kernel_rfl) (by kernel_rfl) (by kernel_rfl) (by kernel_rfl) (by omega) (by assumption) (by first | exact .inr ⟨by rfl, rfl⟩ | exact .inl ⟨by rfl, by intro w2 hS; go_simp; first | done | with_reducible rfl | exact ⟨rfl, rfl⟩⟩) ?_; (try simp only [Act.put, List.setIfInBounds_toArray, List.set_cons_zero, List.set_cons_succ]))
      (refine Drawn.gen_take (i := 2) rfl (by kernel_rfl) (by kernel_rfl) (by kernel_rfl) (by kernel_rfl) (by omega) (by assumption) (by first | exact .inr ⟨by rfl, rfl⟩ | exact .inl ⟨by rfl, by intro w2 hS; go_simp; first | done | with_reducible rfl | exact ⟨rfl, rfl⟩⟩) ?_; (try simp only [Act.put, List.setIfInBounds_toArray, List.set_cons_zero, List.set_cons_succ]))
      (refine Drawn.gen_take (i := 3) rfl (by kernel_rfl) (by kernel_rfl) (by kernel_rfl) (by kernel_rfl) (by omega) (by first | assumption | exact hS0) (by first | exact .inr ⟨by rfl, rfl⟩ | exact .inl ⟨by rfl, by intro w2 hS; obtain ⟨ca, cb, cc2⟩ := hS; go_simp; first | done | with_reducible rfl | exact ⟨rfl, rfl⟩⟩) ?_; (try simp only [Act.put, List.setIfInBounds_toArray, List.set_cons_zero, List.set_cons_succ]))
      (refine Drawn.gen_take (i := 4) rfl (by kernel_rfl) (by kernel_rfl) (by kernel_rfl) (by kernel_rfl) (by omega) (by first | assumption | exact hS0) (by first | exact .inr ⟨by rfl, rfl⟩ | exact .inl ⟨by rfl, by intro w2 hS; obtain ⟨ca, cb, cc2⟩ := hS; go_simp; first | done | with_reducible rfl | exact ⟨rfl, rfl⟩⟩) ?_; (try simp only [Act.put, List.setIfInBounds_toArray, List.set_cons_zero, List.set_cons_succ]))
      (refine Drawn.gen_take (i := 5) rfl (by kernel_rfl) (by kernel_rfl) (by kernel_rfl) (by kernel_rfl) (by omega) (by first | assumption | exact hS0) (by first | exact .inr ⟨by rfl, rfl⟩ | exact .inl ⟨by rfl, by intro w2 hS; obtain ⟨ca, cb, cc2⟩ := hS; go_simp; first | done | with_reducible rfl | exact ⟨rfl, rfl⟩⟩) ?_; (try simp only [Act.put, List.setIfInBounds_toArray, List.set_cons_zero, List.set_cons_succ]))
      (refine Drawn.gen_take (i := 6) rfl (by kernel_rfl) (by kernel_rfl) (by kernel_rfl) (by kernel_rfl) (by omega) (by assumption) (by first | exact .inr ⟨by rfl, rfl⟩ | exact .inl ⟨by rfl, by intro w2 hS; go_simp; first | done | with_reducible rfl | exact ⟨rfl, rfl⟩⟩) ?_; (try simp only [Act.put, List.setIfInBounds_toArray, List.set_cons_zero, List.set_cons_succ]))
      (refine Drawn.gen_take (i := 7) rfl (by kernel_rfl) (by kernel_rfl) (by kernel_rfl) (by kernel_rfl) (by omega) (by first | assumption | exact hS0) (by first | exact .inr ⟨by rfl, rfl⟩ | exact .inl ⟨by rfl, by intro w2 hS; obtain ⟨ca, cb, cc2⟩ := hS; go_simp; first | done | with_reducible rfl | exact ⟨rfl, rfl⟩⟩) ?_; (try simp only [Act.put, List.setIfInBounds_toArray, List.set_cons_zero, List.set_cons_succ]))
      (refine Drawn.gen_take (i := 8) rfl (by kernel_rfl) (by kernel_rfl) (by kernel_rfl) (by kernel_rfl) (by omega) (by first | assumption | exact hS0) (by first | exact .inr ⟨by rfl, rfl⟩ | exact .inl ⟨by rfl, by intro w2 hS; obtain ⟨ca, cb, cc2⟩ := hS; go_simp; first | done | with_reducible rfl | exact ⟨rfl, rfl⟩⟩) ?_; (try simp only [Act.put, List.setIfInBounds_toArray, List.set_cons_zero, List.set_cons_succ]))
      (refine Drawn.gen_take (i := 9) rfl (by kernel_rfl) (by kernel_rfl) (by kernel_rfl) (by kernel_rfl) (by omega) (by first | assumption | exact hS0) (by first | exact .inr ⟨by rfl, rfl⟩ | exact .inl ⟨by rfl, by intro w2 hS; obtain ⟨ca, cb, cc2⟩ := hS; go_simp; first | done | with_reducible rfl | exact ⟨rfl, rfl⟩⟩) ?_; (try simp only [Act.put, List.setIfInBounds_toArray, List.set_cons_zero, List.set_cons_succ]))
      (refine Drawn.gen_take (i := 11) rfl (by kernel_rfl) (by kernel_rfl) (by kernel_rfl) (by kernel_rfl) (by omega) (by assumption) (by first | exact .inr ⟨by rfl, rfl⟩ | exact .inl ⟨by rfl, by intro w2 hS; go_simp; first | done | with_reducible rfl | exact ⟨rfl, rfl⟩⟩) ?_; (try simp only [Act.put, List.setIfInBounds_toArray, List.set_cons_zero, List.set_cons_succ]))
      (refine Drawn.gen_take (i := 12) rfl (by kernel_rfl) (by kernel_rfl) (by kernel_rfl) (by kernel_rfl) (by omega) (by first | assumption | exact hS0) (by first | exact .inr ⟨by rfl, rfl⟩ | exact .inl ⟨by rfl, by intro w2 hS; obtain ⟨ca, cb, cc2⟩ := hS; go_simp; first | done | with_reducible rfl | exact ⟨rfl, rfl⟩⟩) ?_; (try simp only [Act.put, List.setIfInBounds_toArray, List.set_cons_zero, List.set_cons_succ]))
      (refine Drawn.gen_take (i := 13) rfl (by kernel_rfl) (by kernel_rfl) (by kernel_rfl) (by kernel_rfl) (by omega) (by first | assumption | exact hS0) (by first | exact .inr ⟨by rfl, rfl⟩ | exact .inl ⟨by rfl, by intro w2 hS; obtain ⟨ca, cb, cc2⟩ := hS; go_simp; first | done | with_reducible rfl | exact ⟨rfl, rfl⟩⟩) ?_; (try simp only [Act.put, List.setIfInBounds_toArray, List.set_cons_zero, List.set_cons_succ]))
      (refine Drawn.gen_take (i := 14) rfl (by kernel_rfl) (by kernel_rfl) (by kernel_rfl) (by kernel_rfl) (by omega) (by assumption) (reads_load_sty (by rfl) (.tmp 30) rfl rfl (fun W h => h.2.2)) ?_; (try simp only [Act.put, List.setIfInBounds_toArray, List.set_cons_zero, List.set_cons_succ]))
      refine Drawn.gen_one (i := 10) (by kernel_rfl) rfl (by rfl) ?_
      refine Drawn.Step.call (by go_simp; first | done | with_reducible rfl | exact ⟨rfl, rfl⟩) key ?_
      rintro e w4 ⟨⟨v4, rfl, hown4⟩, hb4⟩
      have hr4 := hRB.out w4 hb4
      refine ⟨_, rfl, fun _ => ⟨hr4.cUp HX.out, HV.out ▸ hr4.cKids HX.out, hr4.sty HX.out⟩, ?_⟩
      (try simp only [Act.put, List.setIfInBounds_toArray, List.set_cons_zero, List.set_cons_succ])
      obtain ⟨A4, c4, hv4, _⟩ := KS.ints (l := nd.kids) (rowBase hown4 (Nat.zero_le _))
      subst hv4
      have hP4 := hPB.out w4 hb4
      have hB45 : Below w4.heap.size w4 (w4.alloc (.cells (bcells nd.up (.slice A4 nd.kids.length c4) nd.sty) 69)) := Below.alloc' (Below.refl _ _) _
      have hA5 : At (w4.alloc (.cells (bcells nd.up (.slice A4 nd.kids.length c4) nd.sty) 69)) w4.heap.size (.cells (bcells nd.up (.slice A4 nd.kids.length c4) nd.sty) 69) := At.new _ _
      have hr5 := hr4.after hB45
      have hP5 := hP4.after hB45
      have hTd : Td T left x = none := by unfold Td; rw [if_pos HLX.out]
      obtain ⟨W6, hmu, p6, ho6⟩ := hP5.map.store (by simp [maxLen]; omega) hxw (by rw [hTd]; rfl) w4.heap.size
      have hr6 := hr5.out (M := fun b => b = L2.mb) (fun b hb q => by have := HI.out.rep.lt hb; omega) ho6
      have hks4 : KS w4 (.slice A4 nd.kids.length c4) nd.kids := rowBase hown4 (Nat.zero_le _)
      have hs4 := hb4.size
      have hg4 : ∀ g, (Value.slice A4 nd.kids.length c4).ownBlock = some g → w2.drew.heap.size ≤ g := fun g hg => (World.ownsRow.lt hown4 g hg).1
      have hg5 : ∀ g, (Value.slice A4 nd.kids.length c4).ownBlock = some g → g < w4.heap.size := fun g hg => (World.ownsRow.lt hown4 g hg).2
      have hB4 := HB4.out.size
      have hlt3 : ∀ b, ownedP L2 (Td T left) b → b < w2.drew.heap.size := fun b hb => (hPB.out _ (Below.refl _ _)).lt hb
      have hP6 := hP5.add hTd hA5 (hks4.after hB45) (by omega) (fun g hg => by have := hg4 g hg; omega) (fun hb => by have := hlt3 _ hb; omega) (fun g hg hb => by have := hlt3 _ hb; have := hg4 g hg; omega) ho6 p6
      have hO36 : Out (fun b => b = w.heap.size) w2.drew W6 := (Out.of_below (hb4.trans (hB45.mono hs4))).trans (hmb ▸ ho6)
      have hrl := (HRG.out.lt)
      have hrg6 := ranges_out HRG.out (M := fun b => b = w.heap.size) hLmb (fun q => by omega) hO36
      rw [hmb] at hmu
      have HR6 := Lib.hid hrg6
      have HP6 := Lib.hid hP6
      have HB6 := Lib.hid (HB4.out.trans (hO36.below hB4 (fun b hb q => by omega)))
      have HMU := Lib.hid hmu
      have HHR5 := Lib.hid hr5
      have HHR6 := Lib.hid hr6
      clear hr5 hr6 hP4 hP5 hP6 hrg6 hO36 hmu p6 ho6 hB45 hA5
      refine Drawn.gen_one (i := 15) (by kernel_rfl) rfl (by rfl) ?_
      refine Drawn.Step.value (exec_build 69 _ rfl #[(0, .int .i64 nd.up), (1, .slice A4 nd.kids.length c4), (2, .agg (cells nd.sty))] (by simp only [List.map_toArray, List.map_cons, List.map_nil]; rfl) (build_box _ _ _ _ _ _)) ?_
      refine ⟨fun _ => ⟨hr4.cUp HX.out, HV.out ▸ hr4.cKids HX.out, hr4.sty HX.out⟩, ?_⟩
      (try simp only [Act.put, List.setIfInBounds_toArray, List.set_cons_zero, List.set_cons_succ])
      refine Drawn.gen_one (i := 16) (by kernel_rfl) rfl (by rfl) ?_
      refine Drawn.Step.value (exec_box (.tmp 32) rfl rfl) ?_
      refine ⟨fun _ => ⟨HHR5.out.cUp HX.out, HV.out ▸ HHR5.out.cKids HX.out, HHR5.out.sty HX.out⟩, ?_⟩
      (try simp only [Act.put, List.setIfInBounds_toArray, List.set_cons_zero, List.set_cons_succ])
      refine Drawn.gen_one (i := 17) (by kernel_rfl) rfl (by rfl) ?_
      refine Drawn.Step.skip (exec_mapUpdate (.tmp 17) (.tmp 18) (.tmp 33) rfl rfl rfl rfl HMU.out) ?_
      refine ⟨fun _ => ⟨HHR6.out.cUp HX.out, HV.out ▸ HHR6.out.cKids HX.out, HHR6.out.sty HX.out⟩, ?_⟩
      (try simp only [Act.put, List.setIfInBounds_toArray, List.set_cons_zero, List.set_cons_succ])
      refine Drawn.gen_end (by kernel_rfl) ?_
      go_roundw
      case rel =>
        refine ⟨_, _, _, _, _, _, _, _, _, _, _, _, _, _, _, _, _, _, _, _, _, _, _, _, ⟨_, cnt1, ⟨L2.mb, fun y => if y = x then w4.heap.size else L2.bl y, fun y => if y = x then .slice A4 nd.kids.length c4 else L2.sl y⟩, m + 1, HR6.out, hmb, ?_, ?_, by omega, ?_, HB6.out⟩, rfl⟩
        · rw [Td_struck HX.out]; exact HP6.out
        · intro z hz hzw
          have hz2 : left (.int .i64 z) = true := by
            cases e : left (.int .i64 z) with
            | true => rfl
            | false => rw [e] at hz; exact hz
          exact HLV.out z hz2 hzw
        · rw [Td_struck HX.out]
          intro b hb
          have h1 := HOR.out
          rcases hb with e | ⟨y, yd, hy, e⟩
          · exact h1 b (.inl e)
          · by_cases ey : y = x
            · subst ey
              simp only [if_true] at e
              rcases e with e | e
              · omega
              · have := hg4 b e; omega
            · rw [Tr.set_other _ _ ey] at hy
              simp only [if_neg ey] at e
              exact h1 b (.inr ⟨y, yd, hy, e⟩)
      case measure => rw [HR6.out.left_eq, hcl.out]; exact hlt

end Go.Proofs.Ytmjnlnnedjmcfaa.Fix
