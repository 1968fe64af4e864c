/- The contract of share of the layer flex: weights gathered, parts, and sizes, in two ranges over a method value. -/
import Derived.Test.YtefofdjkinbfgaaFlexFreeze
import Derived.Test.YtefofdjkinbfgaaDrawnGen
import Derived.Test.YtefofdjkinbfgaaFlexShare
import Derived.Test.YtefofdjkinbfgaaFlexC
namespace Go.Proofs.Ytefofdjkinbfgaa.Fix
open Go.ChangeShapes Go.WideShapes Go.ChangeAt Go.RowKit Go.Shelf
set_option linter.unusedVariables false
attribute [local go_sem] Oper.semAt_some

theorem ownsRow_below {W w : World} {base : Nat} {e : TypeId} {sz : Nat} {v : Value} {k : Nat} {xs : List Value} (h : W.ownsRow base e sz v k xs) (hb : Below W.heap.size W w) : w.ownsRow base e sz v k xs := by
  refine h.kept (row := none) ⟨hb.os, hb.tape, hb.output, hb.size, fun k hk _ => hb.block k hk⟩ ?_
  rcases h.2 with ⟨rfl, _⟩ | ⟨g, cap, cur, rfl, _⟩
  · exact .inl rfl
  · exact .inr (by simp [Value.ownBlock])

theorem At.row {W w : World} {b base k : Nat} {vs : Array Value} {T : TypeId} {v : Value} {xs : List Value} (h : At W b (.cells vs T)) (hT : T ≠ 3) (ho : W.ownsRow base 3 1 v k xs) (hg : W.grownBy w v.ownBlock) : At w b (.cells vs T) := by
  refine (hg.block b h.lt fun e => ?_).trans h
  rcases ho.2 with ⟨rfl, _⟩ | ⟨g, cap, cur, rfl, _, hgb, _⟩
  · simp [Value.ownBlock] at e
  · have e' : b = g := by simpa [Value.ownBlock] using e
    subst e'
    unfold At at h
    rw [h] at hgb
    injection hgb with hgb
    injection hgb with _ hgb
    exact hT hgb

theorem Blk.row {W w : World} {I n base k : Nat} {S : Nat → Fe.St} {v : Value} {xs : List Value} (h : Blk W I n S) (ho : W.ownsRow base 3 1 v k xs) (hg : W.grownBy w v.ownBlock) : Blk w I n S := by
  obtain ⟨vs, h, r⟩ := h
  exact ⟨vs, h.row (by decide) ho hg, r⟩

/-- A number more behind a row of one's own; all other blocks are as they were. -/
theorem append_kept {W : World} {base k : Nat} {v : Value} {xs : List Int} (x : Int) (hown : W.ownsRow base 3 1 v k (xs.map (Value.int .i64))) (hbase : base ≤ W.heap.size) (hk : k ≤ 10000) :
    ∃ g c w', (Builtin.append_ #[32, 32] 32 #[v, .slice (some ⟨W.heap.size, 0, none⟩) 1 1]).run Try.prog (W.alloc (.cells #[.int .i64 x] 3)) = .ok (.slice (some ⟨g, 0, none⟩) (k + 1) c) w' ∧
      w'.ownsRow base 3 1 (.slice (some ⟨g, 0, none⟩) (k + 1) c) (k + 1) ((xs ++ [x]).map (Value.int .i64)) ∧ (W.alloc (.cells #[.int .i64 x] 3)).grownBy w' v.ownBlock := by
  obtain ⟨i0, hi0, hz0, hz1, hz2⟩ := info_parts intZero
  obtain ⟨v', w', hr, ho, hg, _, _⟩ := run_append_own_at (P := Try.prog) (w := W.alloc (.cells #[.int .i64 x] 3)) base 32 32 3 i0 (.int .i64 0) 1 8 Try.underlying32 hi0 hz0 hz1 hz2 rfl (by decide) v k _ (hown.alloc _) ⟨W.heap.size, 0, none⟩ 1 1 [.int .i64 x] rfl
    (by intro j u hj
        match j, hj with
        | 0, hj => simp at hj; subst hj; simp [Addr.add])
    (by simp [Value.oneCell']) (by simp only [maxLen]; omega) (by omega) (by simp; omega)
  obtain ⟨g, c, rfl⟩ := ownsRow_succ ho
  exact ⟨g, c, w', hr, by rw [List.map_append]; exact ho, hg⟩

theorem Below.row {N : Nat} {w0 W w : World} {base k : Nat} {v : Value} {xs : List Value} (h : Below N w0 W) (ho : W.ownsRow base 3 1 v k xs) (hg : W.grownBy w v.ownBlock) (hN : N ≤ base) (hW : N ≤ W.heap.size) : Below N w0 w := by
  refine h.grown hg hW (fun j e => ?_)
  rcases ho.2 with ⟨rfl, _⟩ | ⟨g, cap, cur, rfl, hb, _⟩
  · simp [Value.ownBlock] at e
  · have e' : j = g := by simpa [Value.ownBlock, eq_comm] using e
    omega

theorem KeepsOthers.row {W w : World} {base k : Nat} {v : Value} {xs : List Value} (ho : W.ownsRow base 3 1 v k xs) (hg : W.grownBy w v.ownBlock) : KeepsOthers W w :=
  KeepsOthers.of_grownBy hg fun j o ej hj => by
    rcases ho.2 with ⟨rfl, _⟩ | ⟨g, cap, cur, rfl, _, hgb, _⟩
    · simp [Value.ownBlock] at ej
    · obtain rfl : g = j := by simpa [Value.ownBlock] using ej
      rw [hgb] at hj; cases hj; rfl

theorem ints_of_row_own {w : World} {base : Nat} {v : Value} {n : Nat} {l : List Int} (h : w.ownsRow base 3 1 v n (l.map (Value.int .i64))) (hm : n ≤ maxLen) : ∃ A c, v = .slice A n c ∧ Ints w A l ∧ l.length = n := by
  have hl : l.length = n := by simpa using h.1
  obtain ⟨A, c, rfl, hI⟩ := ints_of_own h hm
  exact ⟨A, c, by rw [hl], hI, hl⟩

theorem Ints.turn {W : World} {A : Option Addr} {l : List Int} {r : Nat} {o' : Obj} (h : Ints W A l) (hW : W.heap[r]? = some o') (hc : o'.isCells = false) (o : Obj) : Ints (W.putObj r o) A l := by
  refine ⟨h.1, fun h0 => ?_⟩
  obtain ⟨b, off, rfl, hcell⟩ := h.2 h0
  exact ⟨b, off, rfl, fun k hk => cell_kept (hcell k hk) (grownBy_putObj' W r o) (fun r' e => by cases e; exact ⟨o', hW, hc⟩)⟩

theorem Ints.off {W : World} {b off g k : Nat} {l : List Int} (h : Ints W (some ⟨b, off, none⟩) l) (hne : b ≠ g) (v : Value) : Ints (W.setCell ⟨g, k, none⟩ v) (some ⟨b, off, none⟩) l := by
  refine ⟨h.1, fun h0 => ?_⟩
  obtain ⟨b', off', e, hcell⟩ := h.2 h0
  injection e with e
  injection e with e1 e2
  subst e1; subst e2
  exact ⟨b, off, rfl, fun k' hk => (World.cell?_of_block (Below.heap_setCell W ⟨g, k, none⟩ v b hne)).trans (hcell k' hk)⟩

theorem run_append_op {P : Program} {w w' : World} {o : Oper} {a : Act} (s x : Operand) (t : TypeId) (ho : o.op = .call { callee := .builtin .append, args := #[s, x], argTypes := #[t, t] }) {v u v' : Value} (hs : a.eval s = v) (hx : a.eval x = u)
    (hrun : (Builtin.append_ #[t, t] o.type #[v, u]).run P w = .ok v' w') : (execOp a.eval o).run P w = .ok (.value v') w' := by
  unfold execOp
  simp only [ho, resolve, invoke, builtin, Sem.run_bind, Sem.run_pure, Result.andThen_ok, List.map_toArray, List.map_cons, List.map_nil, hs, hx, hrun]

theorem xclamp5 (b lo hi g s n : Int) (w : World) : Calls Try.prog 12 #[.agg #[.int .i64 b, .int .i64 lo, .int .i64 hi, .int .i64 g, .int .i64 s], .int .i64 n] w fun e w' => e = .returned (.int .i64 (Fe.clamp ⟨b, lo, hi, g, s⟩ n)) ∧ Below w.heap.size w w' := xclamp_any ⟨b, lo, hi, g, s⟩ n w

set_option maxRecDepth 100000 in
set_option maxHeartbeats 4000000 in
theorem mshare_any (N R I n : Nat) (room : Int) (gr : Bool) (S : Nat → Fe.St) (w : World) (h : RowW w R I n room gr S) (hn : n ≤ 64) (hN : N ≤ I ∧ N ≤ w.heap.size) (hs : Sound S n) (hr : 0 ≤ room ∧ room ≤ 67108864) :
    Calls Try.prog 24 #[.pointer (some ⟨R, 0, none⟩)] w fun e w' => (∃ v, e = .returned v) ∧ RowW w' R I n room gr (Fe.shared gr room n S) ∧ Below N w w' := by
  have hmf : ∀ (fn : Fn) (first cap : Array Value) (w : World), (Instr.makeFunc fn first cap).run Try.prog w = .ok (.func fn first cap) w := fun _ _ _ _ => rfl
  have hR := h.1.lt
  have hI := h.2.lt
  have HR := Lib.hid h
  have HS := Lib.hid hs
  clear h hs
  refine (callsIn_wide (n := 5)).1 ?_
  refine callsIn_of_wp_marks Try.func24 rfl trivial ?_ rfl
  simp only [Try.ntmps24, List.size_toArray, List.length_cons, List.length_nil, Nat.reduceAdd, Nat.reduceSub, Array.replicate_succ, Array.replicate_zero, List.push_toArray, List.append_toArray, List.nil_append, List.cons_append]
  gi_wp2
  obtain ⟨W0, hA1, hA2, hrow, hB, hRW, hsz, hW⟩ : ∃ W0, At W0 w.heap.size (.cells #[.pointer (some ⟨R, 0, none⟩)] 46) ∧ At W0 (w.heap.size + 1 + 1) (.cells #[.slice (some ⟨w.heap.size + 1, 0, none⟩) 0 0] 32) ∧
      W0.ownsRow w.heap.size 3 1 (.slice (some ⟨w.heap.size + 1, 0, none⟩) 0 0) 0 [] ∧ Below N w W0 ∧ RowW W0 R I n room gr S ∧ W0.heap.size = w.heap.size + 3 ∧
      (((w.alloc (.cells #[.pointer (some ⟨R, 0, none⟩)] 46)).alloc (.cells #[] 3)).alloc (.cells #[.slice (some ⟨w.heap.size + 1, 0, none⟩) 0 0] 32)) = W0 := by
    refine ⟨_, ((At.new w _).alloc _).alloc _, At.new' _ (by simp), ?_, (((Below.refl _ _).alloc hN.2 _).alloc (by simp; omega) _).alloc (by simp; omega) _, ((HR.out.alloc _).alloc _).alloc _, by simp, rfl⟩
    have bR : At ((w.alloc (.cells #[.pointer (some ⟨R, 0, none⟩)] 46)).alloc (.cells #[] 3)) (w.heap.size + 1) (.cells #[] 3) := At.new' _ (by simp)
    exact ⟨by simp, .inr ⟨w.heap.size + 1, 0, #[], rfl, by omega, bR.alloc _, Nat.le_refl _, by simp [maxLen], by simp, by simp⟩⟩
  rw [hW]
  clear hW
  refine range_places (n := 5) (gf := 30) (first := #[.pointer (some ⟨R, 0, none⟩)]) (lb := #[]) rfl (enters_of Try.func30 (by kernel_rfl) rfl) n (fun i => (S i).f) (fun i => #[.int .i64 (Fe.pl S i : Nat), .pointer (some ⟨I, i * 8, none⟩)]) (fun _ => rfl)
    (fun i W => RowW W R I n room gr S ∧ At W w.heap.size (.cells #[.pointer (some ⟨R, 0, none⟩)] 46) ∧ (∃ v, At W (w.heap.size + 1 + 1) (.cells #[v] 32) ∧ W.ownsRow w.heap.size 3 1 v (Fe.pl S i) ((Fe.ws gr S i).map (Value.int .i64))) ∧ Below N w W)
    (fun W => False)
    (fun i W r o o' h hr hW hc => ⟨h.1.turn (by omega) (by omega) o, h.2.1.turn (by omega) o, by obtain ⟨v, h1, h2⟩ := h.2.2.1; exact ⟨v, h1.turn (by omega) o, ownsRow_putObj h2 o hW hc⟩, Below.turn h.2.2.2 (by omega) hW o⟩)
    (fun W r o o' h hr hW _ => h)
    (fun o1 o2 => ⟨(hRW.alloc o1).alloc o2, (hA1.alloc o1).alloc o2, ⟨_, (hA2.alloc o1).alloc o2, (hrow.alloc o1).alloc o2⟩, (hB.alloc (by omega) o1).alloc (by simp; omega) o2⟩)
    (fun lp J Jx W hV hs hY hJ => loose_in 4 R I n room (Fe.sg gr) S hn lp J Jx W (fun i W h => (hV i W h).1.sees i) hs hY hJ)
    (fun i W hi hf h => ⟨h.1, h.2.1, by simp only [Fe.pl, Fe.ws, hf, if_true]; exact h.2.2.1, h.2.2.2⟩)
    (fun i t => ((t.setIfInBounds 12 (.int .i64 (Fe.pl S i : Nat))).setIfInBounds 13 (.pointer (some ⟨I, i * 8, none⟩))).setIfInBounds 4 (.pointer (some ⟨I, i * 8, none⟩))) ?assign ?body ?done ?stop
  case assign =>
    intro l i W G hi hG
    (simp only [List.setIfInBounds_toArray, List.set_cons_zero, List.set_cons_succ] at hG)
    gi_wp2
    first | exact hG | simpa using hG
  case body =>
    rintro l i W hi hf ⟨hR1, hB1, ⟨v, hV, hown⟩, hBl⟩
    have hb1 := hB1.lt
    have hb2 := hV.lt
    have hpl := Fe.pl_le S i
    obtain ⟨hs1, _⟩ := HS.out i hi
    have hP : Fe.pl S (i + 1) = Fe.pl S i + 1 := by simp [Fe.pl, hf]
    have hWs : Fe.ws gr S (i + 1) = Fe.ws gr S i ++ [Fe.wt gr (S i).x] := by simp [Fe.ws, hf]
    have HP := Lib.hid hP
    have HWs := Lib.hid hWs
    clear hP hWs
    (simp only [List.setIfInBounds_toArray, List.set_cons_zero, List.set_cons_succ])
    gi_upto_region 4 with (fail)
    refine Drawn.round_gen (S := (fun W' => W'.cell? ⟨w.heap.size + 1 + 1, 0, none⟩ = some v ∧ W'.cell? ⟨w.heap.size, 0, none⟩ = some (.pointer (some ⟨R, 0, none⟩)))) 6 (by kernel_rfl) (by kernel_rfl) (by rintro ⟨_, _, hh⟩; exact hh) ?_ ?_
    · exact ⟨hV.cell 0, hB1.cell 0⟩
    intro hS0
    (refine Drawn.gen_take (i := 0) rfl (by kernel_rfl) (by kernel_rfl) (by kernel_rfl) (by kernel_rfl) (by omega) (by first | assumption | exact hS0) (by first | exact .inr ⟨by rfl, rfl⟩ | exact .inl ⟨by rfl, by intro w2 hS; obtain ⟨q1, q2⟩ := hS; go_simp; first | done | with_reducible rfl | exact ⟨rfl, rfl⟩⟩) ?_; (try simp only [Act.put, List.setIfInBounds_toArray, List.set_cons_zero, List.set_cons_succ]))
    (refine Drawn.gen_take (i := 1) rfl (by kernel_rfl) (by kernel_rfl) (by kernel_rfl) (by kernel_rfl) (by omega) (by first | assumption | exact hS0) (by first | exact .inr ⟨by rfl, rfl⟩ | exact .inl ⟨by rfl, by intro w2 hS; obtain ⟨q1, q2⟩ := hS; go_simp; first | done | with_reducible rfl | exact ⟨rfl, rfl⟩⟩) ?_; (try simp only [Act.put, List.setIfInBounds_toArray, List.set_cons_zero, List.set_cons_succ]))
    (refine Drawn.gen_take (i := 2) rfl (by kernel_rfl) (by kernel_rfl) (by kernel_rfl) (by kernel_rfl) (by omega) (by first | assumption | exact hS0) (by first | exact .inr ⟨by rfl, rfl⟩ | exact .inl ⟨by rfl, by intro w2 hS; obtain ⟨q1, q2⟩ := hS; go_simp; first | done | with_reducible rfl | exact ⟨rfl, rfl⟩⟩) ?_; (try simp only [Act.put, List.setIfInBounds_toArray, List.set_cons_zero, List.set_cons_succ]))
    refine Drawn.gen_one (i := 3) (by kernel_rfl) rfl (by rfl) ?_
    refine Drawn.Step.call (by go_simp; first | done | with_reducible rfl | exact ⟨rfl, rfl⟩) (weight_any R I n i room gr S _ hR1.drew hi hs1) ?_
    rintro e w3 ⟨rfl, hb⟩
    replace hb : Below W.heap.size W w3 := Below.after2 (Below.refl _ _).drew (Nat.le_refl _) hb
    have hV3 := hV.keep hb
    have hB3 := hB1.keep hb
    have hown3 := ownsRow_below hown hb
    have hR3 := hR1.keep hb
    have hBl3 := Below.trans hBl (hb.mono (by omega))
    have hz3 := hb.size
    refine ⟨_, rfl, fun _ => ⟨hV3.cell 0, hB3.cell 0⟩, ?_⟩
    (try simp only [Act.put, List.setIfInBounds_toArray, List.set_cons_zero, List.set_cons_succ])
    obtain ⟨g, c, w4, hrun, hown4, hg4⟩ := append_kept (Fe.wt gr (S i).x) hown3 (by omega) (by omega)
    refine Drawn.gen_one (i := 4) (by kernel_rfl) rfl (by rfl) ?_
    refine Drawn.Step.value (by go_simp; first | done | with_reducible rfl | exact ⟨rfl, rfl⟩) ?_; refine ⟨by first | (intro hlt; exact absurd hlt (by decide)) | (intro _; exact ⟨(hV3.alloc _).cell 0, (hB3.alloc _).cell 0⟩), ?_⟩; (try simp only [Act.put, List.setIfInBounds_toArray, List.set_cons_zero, List.set_cons_succ])
    have hV4 := (hV3.alloc (.cells #[.int .i64 (Fe.wt gr (S i).x)] 3)).row (by decide) (hown3.alloc _) hg4
    have hB4 := (hB3.alloc (.cells #[.int .i64 (Fe.wt gr (S i).x)] 3)).row (by decide) (hown3.alloc _) hg4
    have hz4 := hV4.thaw 0
    have hc4 : w4.cell? ⟨w.heap.size + 1 + 1, 0, none⟩ = some v := hV4.cell 0
    have hl4 := hV4.lt
    refine Drawn.gen_one (i := 5) (by kernel_rfl) rfl (by rfl) ?_
    refine Drawn.Step.value (run_append_op (.tmp 14) (.tmp 18) 32 rfl rfl rfl hrun) ⟨fun _ => ⟨hV4.cell 0, hB4.cell 0⟩, ?_⟩
    (try simp only [Act.put, List.setIfInBounds_toArray, List.set_cons_zero, List.set_cons_succ])
    refine Drawn.gen_one (i := 6) (by kernel_rfl) rfl (by rfl) ?_
    refine Drawn.Step.skip (by go_simp; first | done | with_reducible rfl | exact ⟨rfl, rfl⟩) ?_; refine ⟨by first | (intro hlt; exact absurd hlt (by decide)) | (intro _; omega), ?_⟩; (try simp only [Act.put])
    refine Drawn.gen_end (by kernel_rfl) ?_
    gi_wp2
    refine ⟨(KeepsFrom.of_below hb).trans ((((KeepsOthers.alloc _ _).trans (KeepsOthers.row (hown3.alloc _) hg4)).trans (KeepsOthers.setCell _ _ _)).from _), ?_, ?_, ⟨_, hV4.set 0 _, ?_⟩, ?_⟩
    · exact RowW.off ⟨At.row (hR3.1.alloc _) (by decide) (hown3.alloc _) hg4, (hR3.2.alloc _).row (hown3.alloc _) hg4⟩ (by omega) (by omega) _
    · exact hB4.off (by omega) _ _
    · rw [HP.out, HWs.out]
      exact hown4.kept (grownBy_setCell' w4 _ _) (.inr (Boxed.not_row (show Boxed w4 _ _ _ from hV4) (by decide) hown4).symm)
    · exact Below.setCell (Below.row (hBl3.alloc (by omega) _) (hown3.alloc _) hg4 hN.2 (by simp; omega)) (by simp; omega) _
  case stop => exact fun D W hD h _ => h.elim
  case done =>
    rintro D W hD ⟨hR1, hB1, ⟨v, hV, hown⟩, hBl⟩ hK
    have hlD := (Array.getElem?_eq_some_iff.1 hK).1
    have hpl := Fe.pl_le S n
    obtain ⟨A, c, rfl, hIw, hL⟩ := ints_of_row_own hown (by unfold maxLen; omega)
    have hb1 := hB1.lt
    have hb2 := hV.lt
    clear hown hA1 hA2 hrow hB hRW HR
    gi_upto_region 5 with (fail)
    refine wpIn_wide.2 (Drawn.wp_behind (fun a0 a W5 => ∃ b B5, a = { a0 with tmps := ((((a0.tmps.setIfInBounds 20 (.pointer (some ⟨R, 0, none⟩))).setIfInBounds 21 (.int .i64 (Fe.free gr room S n))).setIfInBounds 22 (.slice A (Fe.pl S n) c)).setIfInBounds 23 (.slice (some ⟨b, 0, none⟩) (Fe.pl S n) (Fe.pl S n))).setIfInBounds 5 (.pointer (some ⟨B5, 0, none⟩)) } ∧
      W.heap.size ≤ b ∧ W.heap.size ≤ B5 ∧ At W5 B5 (.cells #[.slice (some ⟨b, 0, none⟩) (Fe.pl S n) (Fe.pl S n)] 32) ∧ Ints W5 (some ⟨b, 0, none⟩) (Fe.parts gr room S n) ∧ Below W.heap.size W W5) ?_ ?_)
    · refine Drawn.wp_region_gen (S := (fun W' => W'.cell? ⟨w.heap.size + 1 + 1, 0, none⟩ = some (.slice A (Fe.pl S n) c) ∧ W'.cell? ⟨w.heap.size, 0, none⟩ = some (.pointer (some ⟨R, 0, none⟩)))) 5 (by kernel_rfl) ?_ ?_
      · exact ⟨hV.cell 0, hB1.cell 0⟩
      intro hS0
      have hx : Below W.heap.size W W.drew := (Below.refl _ _).drew
      (refine Drawn.gen_take (i := 0) rfl (by kernel_rfl) (by kernel_rfl) (by kernel_rfl) (by kernel_rfl) (by omega) (by first | assumption | exact hS0) (by first | exact .inr ⟨by rfl, rfl⟩ | exact .inl ⟨by rfl, by intro w2 hS; obtain ⟨q1, q2⟩ := hS; go_simp; first | done | with_reducible rfl | exact ⟨rfl, rfl⟩⟩) ?_; (try simp only [Act.put, List.setIfInBounds_toArray, List.set_cons_zero, List.set_cons_succ]))
      (refine Drawn.gen_take (i := 2) rfl (by kernel_rfl) (by kernel_rfl) (by kernel_rfl) (by kernel_rfl) (by omega) (by first | assumption | exact hS0) (by first | exact .inr ⟨by rfl, rfl⟩ | exact .inl ⟨by rfl, by intro w2 hS; obtain ⟨q1, q2⟩ := hS; go_simp; first | done | with_reducible rfl | exact ⟨rfl, rfl⟩⟩) ?_; (try simp only [Act.put, List.setIfInBounds_toArray, List.set_cons_zero, List.set_cons_succ]))
      refine Drawn.gen_two (i := 1) (j := 4) (by kernel_rfl) rfl rfl (by rfl) (by rfl) ?_ ?_
      · refine Drawn.Step.call (by go_simp; first | done | with_reducible rfl | exact ⟨rfl, rfl⟩) (free_any R I n room gr S _ (hR1.keep hx) HS.out hn hr) ?_
        rintro e w3 ⟨rfl, hb⟩
        replace hx := Below.after2 hx (Nat.le_refl _) hb
        clear hb
        refine ⟨_, rfl, fun _ => ⟨(hV.keep hx).cell 0, (hB1.keep hx).cell 0⟩, ?_⟩
        (try simp only [Act.put, List.setIfInBounds_toArray, List.set_cons_zero, List.set_cons_succ])
        refine Drawn.gen_two (i := 3) (j := 4) (by kernel_rfl) rfl rfl (by rfl) (by rfl) ?_ ?_
        · refine Drawn.Step.call (by go_simp; first | done | with_reducible rfl | exact ⟨rfl, rfl⟩) (share_any A (Fe.ws gr S n) _ c (Fe.free gr room S n) _ (hIw.after hx) hL (by omega)) ?_
          rintro e w4 ⟨⟨b, rfl, hbb, hIb⟩, hb⟩
          have hx3 := hx.size
          replace hx := Below.after2 hx (Nat.le_refl _) hb
          clear hb
          refine ⟨_, rfl, fun _ => ⟨(hV.keep hx).cell 0, (hB1.keep hx).cell 0⟩, ?_⟩
          (try simp only [Act.put, List.setIfInBounds_toArray, List.set_cons_zero, List.set_cons_succ])
          refine Drawn.gen_one (i := 4) (by kernel_rfl) rfl (by rfl) ?_
          refine Drawn.Step.value (by go_simp; first | done | with_reducible rfl | exact ⟨rfl, rfl⟩) ?_; refine ⟨by first | (intro hlt; exact absurd hlt (by decide)) | (intro _; exact ⟨((hV.keep hx).alloc _).cell 0, ((hB1.keep hx).alloc _).cell 0⟩), ?_⟩; (try simp only [Act.put, List.setIfInBounds_toArray, List.set_cons_zero, List.set_cons_succ])
          have hx4 := hx.size
          refine Drawn.gen_one (i := 5) (by kernel_rfl) rfl (by rfl) ?_
          refine Drawn.Step.skip (by go_simp; first | done | with_reducible rfl | exact ⟨rfl, rfl⟩) ?_; refine ⟨by first | (intro hlt; exact absurd hlt (by decide)) | (intro _; omega), ?_⟩; (try simp only [Act.put])
          refine Drawn.gen_end (by kernel_rfl) ?_
          exact ⟨rfl, b, w4.heap.size, rfl, by omega, by omega, At.new _ _, hIb.after (Below.alloc' (Below.refl _ _) _), Below.alloc' hx _⟩
        · refine Drawn.Step.value (u := .pointer (some ⟨w3.heap.size, 0, none⟩)) (w' := w3.alloc (.cells #[.slice none 0 0] 32)) (by go_simp; first | done | with_reducible rfl | exact ⟨rfl, rfl⟩) ?_
          obtain ⟨w9, hw9, hA9, hb9, hz0, hs9⟩ : ∃ w9, w9 = w3.alloc (.cells #[.slice none 0 0] 32) ∧ At w9 w3.heap.size (.cells #[.slice none 0 0] 32) ∧ Below w3.heap.size w3 w9 ∧ w9.heap.size = w3.heap.size + 1 ∧ W.heap.size ≤ w3.heap.size := ⟨_, rfl, At.new _ _, Below.alloc' (Below.refl _ _) _, by simp, hx.size⟩
          rw [← hw9]
          clear hw9
          generalize w3.heap.size = B5 at *
          replace hx := Below.trans hx (hb9.mono (by omega))
          clear hb9
          refine ⟨fun _ => ⟨(hV.keep hx).cell 0, (hB1.keep hx).cell 0⟩, ?_⟩
          (try simp only [Act.put, List.setIfInBounds_toArray, List.set_cons_zero, List.set_cons_succ])
          refine Drawn.gen_one (i := 3) (by kernel_rfl) rfl (by rfl) ?_
          refine Drawn.Step.call (by go_simp; first | done | with_reducible rfl | exact ⟨rfl, rfl⟩) (share_any A (Fe.ws gr S n) _ c (Fe.free gr room S n) _ (hIw.after hx) hL (by omega)) ?_
          rintro e w4 ⟨⟨b, rfl, hbb, hIb⟩, hb⟩
          have hx3 := hx.size
          replace hx := Below.after2 hx (Nat.le_refl _) hb
          replace hA9 := hA9.keep hb
          have hc9 : w4.cell? ⟨B5, 0, none⟩ = some (.slice none 0 0) := hA9.cell 0
          have hz9 := hA9.thaw 0
          have hl9 := hA9.lt
          have hx4 := hx.size
          clear hb
          refine ⟨_, rfl, fun _ => ⟨(hV.keep hx).cell 0, (hB1.keep hx).cell 0⟩, ?_⟩
          (try simp only [Act.put, List.setIfInBounds_toArray, List.set_cons_zero, List.set_cons_succ])
          refine Drawn.gen_one (i := 5) (by kernel_rfl) rfl (by rfl) ?_
          refine Drawn.Step.skip (by go_simp; first | done | with_reducible rfl | exact ⟨rfl, rfl⟩) ?_; refine ⟨by first | (intro hlt; exact absurd hlt (by decide)) | (intro _; omega), ?_⟩; (try simp only [Act.put])
          refine Drawn.gen_end (by kernel_rfl) ?_
          exact ⟨rfl, b, B5, rfl, by omega, by omega, hA9.set 0 _, hIb.off (by omega) _, Below.setCell hx (by omega) _⟩
      · refine Drawn.Step.value (u := .pointer (some ⟨W.drew.heap.size, 0, none⟩)) (w' := W.drew.alloc (.cells #[.slice none 0 0] 32)) (by go_simp; first | done | with_reducible rfl | exact ⟨rfl, rfl⟩) ?_
        obtain ⟨w9, hw9, hA9, hb9, hz0, hs9⟩ : ∃ w9, w9 = W.drew.alloc (.cells #[.slice none 0 0] 32) ∧ At w9 W.drew.heap.size (.cells #[.slice none 0 0] 32) ∧ Below W.drew.heap.size W.drew w9 ∧ w9.heap.size = W.drew.heap.size + 1 ∧ W.heap.size ≤ W.drew.heap.size := ⟨_, rfl, At.new _ _, Below.alloc' (Below.refl _ _) _, by simp, hx.size⟩
        rw [← hw9]
        clear hw9
        generalize W.drew.heap.size = B5 at *
        replace hx := Below.trans hx (hb9.mono (by omega))
        clear hb9
        refine ⟨fun _ => ⟨(hV.keep hx).cell 0, (hB1.keep hx).cell 0⟩, ?_⟩
        (try simp only [Act.put, List.setIfInBounds_toArray, List.set_cons_zero, List.set_cons_succ])
        refine Drawn.gen_one (i := 1) (by kernel_rfl) rfl (by rfl) ?_
        refine Drawn.Step.call (by go_simp; first | done | with_reducible rfl | exact ⟨rfl, rfl⟩) (free_any R I n room gr S _ (hR1.keep hx) HS.out hn hr) ?_
        rintro e w3 ⟨rfl, hb⟩
        replace hx := Below.after2 hx (Nat.le_refl _) hb
        replace hA9 := hA9.keep hb
        have hl9 := hA9.lt
        clear hb
        refine ⟨_, rfl, fun _ => ⟨(hV.keep hx).cell 0, (hB1.keep hx).cell 0⟩, ?_⟩
        (try simp only [Act.put, List.setIfInBounds_toArray, List.set_cons_zero, List.set_cons_succ])
        refine Drawn.gen_one (i := 3) (by kernel_rfl) rfl (by rfl) ?_
        refine Drawn.Step.call (by go_simp; first | done | with_reducible rfl | exact ⟨rfl, rfl⟩) (share_any A (Fe.ws gr S n) _ c (Fe.free gr room S n) _ (hIw.after hx) hL (by omega)) ?_
        rintro e w4 ⟨⟨b, rfl, hbb, hIb⟩, hb⟩
        have hx3 := hx.size
        replace hx := Below.after2 hx (Nat.le_refl _) hb
        replace hA9 := hA9.keep hb
        have hc9 : w4.cell? ⟨B5, 0, none⟩ = some (.slice none 0 0) := hA9.cell 0
        have hz9 := hA9.thaw 0
        have hl9 := hA9.lt
        have hx4 := hx.size
        clear hb
        refine ⟨_, rfl, fun _ => ⟨(hV.keep hx).cell 0, (hB1.keep hx).cell 0⟩, ?_⟩
        (try simp only [Act.put, List.setIfInBounds_toArray, List.set_cons_zero, List.set_cons_succ])
        refine Drawn.gen_one (i := 5) (by kernel_rfl) rfl (by rfl) ?_
        refine Drawn.Step.skip (by go_simp; first | done | with_reducible rfl | exact ⟨rfl, rfl⟩) ?_; refine ⟨by first | (intro hlt; exact absurd hlt (by decide)) | (intro _; omega), ?_⟩; (try simp only [Act.put])
        refine Drawn.gen_end (by kernel_rfl) ?_
        exact ⟨rfl, b, B5, rfl, by omega, by omega, hA9.set 0 _, hIb.off (by omega) _, Below.setCell hx (by omega) _⟩
    · rintro a W5 ⟨b, B5, rfl, hbb, hB5, hA5, hI5, hx⟩
      simp only [List.setIfInBounds_toArray, List.set_cons_zero, List.set_cons_succ]
      have hcB : W5.cell? ⟨w.heap.size, 0, none⟩ = some (.pointer (some ⟨R, 0, none⟩)) := (hB1.keep hx).cell 0
      have hlB := (hB1.keep hx).lt
      gi_wp2
      have hx5 := hx.size
      have hlW := hBl.size
      refine range_places (n := 5) (gf := 30) (first := #[.pointer (some ⟨R, 0, none⟩)]) (lb := #[]) rfl (enters_of Try.func30 (by kernel_rfl) rfl) n (fun i => (S i).f) (fun i => #[.int .i64 (Fe.pl S i : Nat), .pointer (some ⟨I, i * 8, none⟩)]) (fun _ => rfl)
        (fun i W => RowW W R I n room gr (mix S (Fe.sharedBy gr (Fe.parts gr room S n) S) i) ∧ At W w.heap.size (.cells #[.pointer (some ⟨R, 0, none⟩)] 46) ∧ At W B5 (.cells #[.slice (some ⟨b, 0, none⟩) (Fe.pl S n) (Fe.pl S n)] 32) ∧ Ints W (some ⟨b, 0, none⟩) (Fe.parts gr room S n) ∧ Below N w W ∧ W.heap[D]? = some (.deferred (some [])))
        (fun W => False)
        (fun i W r o o' h hr hW hc => ⟨h.1.turn (by omega) (by omega) o, h.2.1.turn (by omega) o, h.2.2.1.turn (by have := hA5.lt; omega) o, h.2.2.2.1.turn hW hc o, Below.turn h.2.2.2.2.1 (by omega) hW o, (World.putObj_heap_other (by omega)).trans h.2.2.2.2.2⟩)
        (fun W r o o' h hr hW _ => h)
        (fun o1 o2 => ⟨by rw [mix_zero]; exact ((hR1.keep hx).alloc o1).alloc o2, ((hB1.keep hx).alloc o1).alloc o2, (hA5.alloc o1).alloc o2, (hI5.after (Below.alloc' (Below.refl _ _) o1)).after (Below.alloc' (Below.refl _ _) o2), ((Below.trans hBl (hx.mono (by omega))).alloc (by omega) o1).alloc (by simp; omega) o2, (At.alloc (At.keep (show At W D _ from hK) hx) o1).alloc o2⟩)
        (fun lp J Jx W hV hs hY hJ => loose_in 4 R I n room (Fe.sg gr) S hn lp J Jx W (fun i W h => (hV i W h).1.mixed) hs hY hJ)
        (fun i W hi hf h => ⟨by rw [mix_same (by simp [Fe.sharedBy, hf])]; exact h.1, h.2⟩)
        (fun i t => (((t.setIfInBounds 26 (.int .i64 (Fe.pl S i : Nat))).setIfInBounds 27 (.pointer (some ⟨I, i * 8, none⟩))).setIfInBounds 6 (.int .i64 (Fe.pl S i : Nat))).setIfInBounds 7 (.pointer (some ⟨I, i * 8, none⟩))) ?assign ?body ?done ?stop
      case assign =>
        intro l i W G hi hG
        (simp only [List.setIfInBounds_toArray, List.set_cons_zero, List.set_cons_succ] at hG)
        gi_wp2
        first | exact hG | simpa using hG
      case stop => exact fun D W hD h _ => h.elim
      case done =>
        rintro D2 W2 hD2 ⟨hR2, hB2, hA2, hI2, hBl2, hK1⟩ hK2
        gi_wp2
        have hl2 := (Array.getElem?_eq_some_iff.1 hK2).1
        refine ⟨by simp, .inl ⟨_, _, rfl, run_takeDeferred hK2, ?_⟩⟩
        have hK3 : (W2.putObj D2 (.deferred none)).heap[D]? = some (.deferred (some [])) := (World.putObj_heap_other (by omega)).trans hK1
        refine ⟨by simp, .inl ⟨_, _, rfl, run_takeDeferred hK3, ?_⟩⟩
        exact ⟨_, results_none rfl _ _ _, ⟨_, rfl⟩, ⟨((hR2.turn (by omega) (by omega) _).turn (by omega) (by omega) _).1, (((hR2.turn (by omega) (by omega) _).turn (by omega) (by omega) _).2.same (mix_all _ _ _))⟩, Below.turn (Below.turn hBl2 (by omega) hK2 _) (by omega) hK3 _⟩
      case body =>
        rintro l i W6 hi hf ⟨hR2, hB2, hA2, hI2, hBl2, hD2⟩
        have hne := hR2.ne
        have hp := Fe.pl_lt S hi hf
        obtain ⟨⟨⟨hb1, hb2⟩, _⟩, _⟩ := HS.out i hi
        have hpn : (Fe.parts gr room S n).length = Fe.pl S n := by unfold Fe.parts; rw [Fe.share_length, Fe.ws_length]
        have hpv : 0 ≤ (Fe.parts gr room S n).getD (Fe.pl S i) 0 ∧ (Fe.parts gr room S n).getD (Fe.pl S i) 0 ≤ 67108864 := by
          unfold Fe.parts
          rw [Fe.share_get _ _ (by rw [Fe.ws_length]; exact hp)]
          exact Fe.part_bd _ _ (by rw [Fe.ws_length]; exact hp)
        obtain ⟨b', o', eA, hbl, hpc⟩ := hI2.at_ (k := Fe.pl S i) (by rw [hpn]; exact hp)
        injection eA with eA
        injection eA with e1 e2
        subst e1; subst e2
        rw [Nat.zero_add] at hpc
        obtain ⟨l2, d0, d1, d2, d3, d4, d5, d6, d7⟩ := hR2.2.fields hi
        obtain ⟨l3, r0, r1, r2⟩ := hR2.cells
        have hcB : W6.cell? ⟨w.heap.size, 0, none⟩ = some (.pointer (some ⟨R, 0, none⟩)) := hB2.cell 0
        have hlB := hB2.lt
        have hcA : W6.cell? ⟨B5, 0, none⟩ = some (.slice (some ⟨b, 0, none⟩) (Fe.pl S n) (Fe.pl S n)) := hA2.cell 0
        have hlA := hA2.lt
        rw [mix_ge (Nat.le_refl _)] at d0 d1 d2 d3 d4 d5 d6 d7
        have HT : Hid (Fe.sharedBy gr (Fe.parts gr room S n) S i = ⟨(S i).x, Fe.clamp (S i).x (Fe.want gr (Fe.parts gr room S n) S i), Fe.clamp (S i).x (Fe.want gr (Fe.parts gr room S n) S i) - Fe.want gr (Fe.parts gr room S n) S i, false⟩) := Lib.hid (by simp [Fe.sharedBy, hf])
        have HWt : Hid (IntKind.i64.wrap ((S i).x.b + IntKind.i64.wrap (Fe.sg gr * (Fe.parts gr room S n).getD (Fe.pl S i) 0)) = Fe.want gr (Fe.parts gr room S n) S i ∧ -67108864 ≤ Fe.want gr (Fe.parts gr room S n) S i ∧ Fe.want gr (Fe.parts gr room S n) S i ≤ 68157440) := Lib.hid (by
          unfold Fe.want
          have hq : -67108864 ≤ Fe.sg gr * (Fe.parts gr room S n).getD (Fe.pl S i) 0 ∧ Fe.sg gr * (Fe.parts gr room S n).getD (Fe.pl S i) 0 ≤ 67108864 := by cases gr <;> simp only [Fe.sg, Bool.false_eq_true, if_false, if_true] <;> omega
          rw [IntWalk.i64_in (Fe.sg gr * _) (by omega), IntWalk.i64_in _ (by omega)]
          exact ⟨rfl, by omega, by omega⟩)
        have FIN : ∀ (W8 : World) (cl wt : Int), cl = Fe.clamp (S i).x (Fe.want gr (Fe.parts gr room S n) S i) → wt = Fe.want gr (Fe.parts gr room S n) S i → Below W6.heap.size W6 W8 →
            roundEnd W5.heap.size (fun W => RowW W R I n room gr (mix S (Fe.sharedBy gr (Fe.parts gr room S n) S) (i + 1)) ∧ At W w.heap.size (.cells #[.pointer (some ⟨R, 0, none⟩)] 46) ∧ At W B5 (.cells #[.slice (some ⟨b, 0, none⟩) (Fe.pl S n) (Fe.pl S n)] 32) ∧ Ints W (some ⟨b, 0, none⟩) (Fe.parts gr room S n) ∧ Below N w W ∧ W.heap[D]? = some (.deferred (some []))) (fun _ => False) W6 .normal { tmps := #[], defers := [] }
              ((W8.setCell ⟨I, i * 8 + 5, none⟩ (.int .i64 cl)).setCell ⟨I, i * 8 + 6, none⟩ (.int .i64 (cl - wt))) := by
          intro W8 cl wt hcl hwt hb8
          have hR8 := hR2.keep hb8
          have b1 : Blk (W8.setCell ⟨I, i * 8 + 5, none⟩ (.int .i64 cl)) I n (fun k => if k = i then ⟨(S i).x, cl, (S i).m, false⟩ else mix S (Fe.sharedBy gr (Fe.parts gr room S n) S) i k) := by
            refine hR8.2.put hi (by omega) (by simp [fld]) ?_ (fun k hk hkn => by simp [hkn])
            intro q hq hqn
            simp only [if_true]
            rw [mix_ge (Nat.le_refl _)]
            unfold fld
            rw [hf]
            (repeat' split) <;> first | rfl | omega
          have b2 : Blk ((W8.setCell ⟨I, i * 8 + 5, none⟩ (.int .i64 cl)).setCell ⟨I, i * 8 + 6, none⟩ (.int .i64 (cl - wt))) I n (mix S (Fe.sharedBy gr (Fe.parts gr room S n) S) (i + 1)) := by
            refine b1.put hi (by omega) ?_ ?_ ?_
            · rw [mix_at, HT.out, hcl, hwt]; simp [fld]
            · intro q hq hqn
              rw [mix_at, HT.out, ← hcl, ← hwt]
              simp only [if_true]
              unfold fld
              (repeat' split) <;> first | rfl | omega
            · intro k hk hkn
              rw [mix_off _ _ hkn]
              simp [hkn]
          have hz8 := hb8.size
          refine ⟨((KeepsFrom.of_below hb8).trans (((KeepsOthers.setCell _ _ _).trans (KeepsOthers.setCell _ _ _)).from _)), ⟨(hR8.1.off (by omega) _ _).off (by omega) _ _, b2⟩, ((hB2.keep hb8).off (by omega) _ _).off (by omega) _ _, ((hA2.keep hb8).off (by omega) _ _).off (by omega) _ _, ((hI2.after hb8).off (by omega) _).off (by omega) _, Below.setCell (Below.setCell (Below.trans hBl2 (hb8.mono (by have := hBl2.size; omega))) hN.1 _) hN.1 _, ?_⟩
          exact (KeepsOthers.setCell _ _ _).same _ _ ((KeepsOthers.setCell _ _ _).same _ _ ((hb8.block D (Array.getElem?_eq_some_iff.1 hD2).1).trans hD2) rfl) rfl
        replace FIN := Lib.hid FIN
        clear d5 d6 d7 hI2 hA2 HT hpv hpn hb1 hb2
        have HR2 := Lib.hid hR2
        clear hR2
        generalize hx9 : (S i).x = x at *
        have HX := Lib.hid hx9
        clear hx9
        obtain ⟨x0, x1, x2, x3, x4⟩ := x
        dsimp only at d0 d1 d2 d3 d4 HWt
        generalize hwt : Fe.want gr (Fe.parts gr room S n) S i = wt at *
        replace hwt := Lib.hid hwt
        generalize (Fe.parts gr room S n).getD (Fe.pl S i) 0 = pv at *
        generalize Fe.sg gr = way at *
        have hpl2 : (Fe.pl S i : Int) < (Fe.pl S n : Int) := by omega
        simp only [List.setIfInBounds_toArray, List.set_cons_zero, List.set_cons_succ]
        gi_upto_region 9 with (fail)
        refine Drawn.round_fast (Below.refl _ _) (by kernel_rfl) (by kernel_rfl) (by kernel_rfl) (by kernel_rfl) (by rintro ⟨_, _, hh⟩; exact hh) ?_
        (repeat (first | (refine Drawn.seq_skip (by rfl) ?_; (try simp only [Act.put, List.setIfInBounds_toArray, List.set_cons_zero, List.set_cons_succ])) | (refine Drawn.seq_call (o := ⟨_, .call ⟨.value _, _, _⟩, _, _, _, _⟩) (by rfl) (by intro w2 hS; go_simp; first | done | with_reducible rfl | exact ⟨rfl, rfl⟩) (by intro w2 hS; first | ((with_reducible refine (cut_any _ _).mono ?_); rintro e w' ⟨rfl, rfl⟩; exact ⟨rfl, hS⟩)) ?_; (try simp only [Act.put, List.setIfInBounds_toArray, List.set_cons_zero, List.set_cons_succ])) | (refine Drawn.seq_value (by rfl) (by intro w2 hS; obtain ⟨hc, hf⟩ := bcell hS; go_simp; first | done | with_reducible rfl | exact ⟨rfl, rfl⟩) ?_; (try simp only [Act.put, List.setIfInBounds_toArray, List.set_cons_zero, List.set_cons_succ]))))
        refine Drawn.seq_end ?_; intro w2 hS
        rw [HWt.out.1]
        obtain ⟨l4, e0, e1, e2, e3, e4, e5, e6, e7⟩ := (HR2.out.keep hS).2.fields hi
        rw [mix_ge (Nat.le_refl _)] at e0 e1 e2 e3 e4
        rw [HX.out] at e0 e1 e2 e3 e4
        dsimp only at e0 e1 e2 e3 e4
        obtain ⟨t1, t2⟩ := HWt.out.2
        have k1 := (Fe.clamp_bd ⟨x0, x1, x2, x3, x4⟩ wt).1
        have k2 := (Fe.clamp_bd ⟨x0, x1, x2, x3, x4⟩ wt).2
        obtain ⟨cl, hcl⟩ : ∃ cl, cl = Fe.clamp ⟨x0, x1, x2, x3, x4⟩ wt := ⟨_, rfl⟩
        rw [← hcl] at k1 k2
        have hw9 : IntKind.i64.wrap (cl - wt) = cl - wt := IntWalk.i64_in _ (by omega)
        have HCL := Lib.hid hcl
        clear hcl e5 e6 e7 d0 d1 d2 d3 d4 r0 r1 r2 hcB hcA hpc
        gi_upto_region 11 with (refine ⟨trivial, ?_⟩; gi_at_call 12; refine (CallsIn.inRound l (callsIn_wide.2 (xclamp5 x0 x1 x2 x3 x4 wt _))).mono ?_; rintro e w7 ⟨rfl, hb7⟩; rw [← HCL.out]; have hx7 := Below.after2 hS (Nat.le_refl _) hb7; clear hb7 hS e0 e1 e2 e3 e4 l4; obtain ⟨l5, -, -, -, -, -, e5, e6, -⟩ := (HR2.out.keep hx7).2.fields hi; have z5 := (HR2.out.keep hx7).2.thaw (i * 8 + 5); have z6 := (HR2.out.keep hx7).2.thaw (i * 8 + 6))
        gi_wp2
        exact FIN.out w7 cl wt HCL.out rfl hx7

end Go.Proofs.Ytefofdjkinbfgaa.Fix
