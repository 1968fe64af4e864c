/- The contract of Break of the layer lines: a range over a function. -/
import Derived.Test.YtabmlohobbbnbaaLin
import Derived.RangeFuncBox
import Derived.RangeFuncLeaves
import Derived.OwnWalkIn
import Derived.TacticsInMore
import Derived.LoopNIn
import Derived.LoopIn
import Derived.Sort.CutIn
import Derived.Maps.AppendAt
namespace Go.Proofs.Ytabmlohobbbnbaa.Fix
open Go.ChangeShapes Go.WideShapes Go.ChangeAt Go.RowKit
set_option linter.unusedVariables false
attribute [local go_sem] Oper.semAt_some

/-- What a round keeps: all below n₀, and the four boxes behind B. -/
def KpB (n₀ B : Nat) (W W' : World) : Prop := Below n₀ W W' ∧ ∀ k t v, B < k → k < B + 5 → t ≠ 31 → Boxed W k t v → Boxed W' k t v

theorem KpB.refl (n₀ B : Nat) (W : World) : KpB n₀ B W W := ⟨Below.refl _ _, fun _ _ _ _ _ _ h => h⟩

theorem KpB.trans {n₀ B : Nat} {X Y Z : World} (h : KpB n₀ B X Y) (k : KpB n₀ B Y Z) : KpB n₀ B X Z := ⟨h.1.trans k.1, fun i t v h1 h2 h3 h4 => k.2 i t v h1 h2 h3 (h.2 i t v h1 h2 h3 h4)⟩

theorem KpB.of_below {n₀ B : Nat} {W W' : World} (h : Below W.heap.size W W') (hn : n₀ ≤ W.heap.size) : KpB n₀ B W W' :=
  ⟨h.mono hn, fun i t v _ _ _ hb => (h.block i hb.lt).trans hb⟩

theorem KpB.putObj {n₀ B : Nat} {w : World} (hn : n₀ ≤ w.heap.size) (hB : B + 5 ≤ w.heap.size) (W : World) (l : Nat) (o o' : Obj) (hl : w.heap.size ≤ l) (h : W.heap[l]? = some o) (hc : o.isCells = false) (hw : o.isWalk = false) : KpB n₀ B W (W.putObj l o') :=
  ⟨belowK_b hn W l o o' hl h hc hw, fun i t v _ h2 _ hb => (World.putObj_heap_other (by omega)).trans hb⟩

theorem grown_of_below {W W' : World} (h : Below W.heap.size W W') : W.grownBy W' none := ⟨h.os, h.tape, h.output, h.size, fun k hk _ => h.block k hk⟩

theorem each_any (A : Option Addr) (n c : Nat) (room gap : Int) (wrap : Bool) (w : World) :
    Calls Try.prog 18 #[.slice A n c, .int .i64 room, .int .i64 gap, .bool wrap] w fun e w' => e = .returned (.func (.func 25) #[] #[.pointer (some ⟨w.heap.size, 0, none⟩), .pointer (some ⟨w.heap.size + 1, 0, none⟩), .pointer (some ⟨w.heap.size + 2, 0, none⟩), .pointer (some ⟨w.heap.size + 3, 0, none⟩)]) ∧
      w' = (((w.alloc (.cells #[.slice A n c] 22)).alloc (.cells #[.int .i64 room] 3)).alloc (.cells #[.int .i64 gap] 3)).alloc (.cells #[.bool wrap] 4) := by
  have hmf : ∀ (fn : Fn) (first cap : Array Value) (w : World), (Instr.makeFunc fn first cap).run Try.prog w = .ok (.func fn first cap) w := fun _ _ _ _ => rfl
  go_enter Try.func18, Try.ntmps18
  go_wp2
  go_ret
  exact ⟨rfl, rfl⟩

theorem seq_sliced {P : Program} {ops : Array Oper} {Q : Exit → Act → World → Prop} {S : World → Prop} {k : Nat} {o : Oper} {os : List Oper} {a : Act} {t : TypeId} {x : Operand} {lo hi mx : Option Operand} {v : Value} (ho : o.op = .slice t x lo hi mx) (hw : Region.wanted o (yielded ops a.tmps) = true)
    (hrun : ∀ w, (Instr.sliceAt t (a.eval x) (lo.map a.eval) (hi.map a.eval) (mx.map a.eval)).run P w = .ok v w) (h : Drawn.DetSeq P ops Q S k os (a.put o.dst v)) : Drawn.DetSeq P ops Q S (k + 1) (o :: os) a :=
  Drawn.seq_value hw (fun w _ => by unfold execOp; simp only [ho, Sem.run_bind, Sem.run_pure, hrun, Result.andThen_ok]) h

def encL (x : Nat × Nat) : Array Value := #[.int .i64 (x.1 : Int), .int .i64 (x.2 : Int)]

theorem count_at (A : Option Addr) (l : List Int) (n c : Nat) (room gap : Int) (wrap : Bool) (w : World) (q : Nat) (hI : Ints w A l) (hl : l.length = n) (h0 : 0 < n) (hn : n ≤ 100000) (hq : q = Li.cnt room gap wrap l) :
    Calls Try.prog 26 #[.slice A n c, .int .i64 room, .int .i64 gap, .bool wrap] w fun e w' => e = .returned (.int .i64 (q : Nat)) ∧ w = w' := hq ▸ count_any A l n c room gap wrap w hI hl h0 hn

set_option maxRecDepth 100000 in
set_option maxHeartbeats 4000000 in
theorem iter_in (n : Nat) (hn1 : 1 ≤ n) (lp n₀ B : Nat) (A : Option Addr) (l : List Int) (m c : Nat) (room gap : Int) (wrap : Bool) (hl : l.length = m) (hm : m ≤ 10000) (hcap : m ≤ c) (J Jx : List (Nat × Nat) → World → Prop)
    (hY : ∀ pre x W, J pre W → pre.length < (Li.brk room gap wrap l).length → YieldAt Fence.wide (n - 1) Try.prog lp (encL x) W fun e W' =>
      (e = .returned (.bool true) ∧ J (pre ++ [x]) W' ∧ KpB n₀ B W W') ∨ (e = .returned (.bool false) ∧ Jx (pre ++ [x]) W'))
    (W : World) (hJ : AbidesFrom W.heap.size J) (hn₀ : n₀ ≤ W.heap.size) (b1 : Boxed W (B + 1) 22 (.slice A m c)) (b2 : Boxed W (B + 2) 3 (.int .i64 room)) (b3 : Boxed W (B + 3) 3 (.int .i64 gap)) (b4 : Boxed W (B + 4) 4 (.bool wrap))
    (hI : Ints W A l) (hA : 0 < l.length → ∀ x, A = some x → x.block < n₀) (h0 : J [] W) :
    CallsIn Fence.wide n Try.prog 25 #[.func (.yield lp) #[] #[], .pointer (some ⟨B + 1, 0, none⟩), .pointer (some ⟨B + 2, 0, none⟩), .pointer (some ⟨B + 3, 0, none⟩), .pointer (some ⟨B + 4, 0, none⟩)] W fun e W' => (∃ v, e = .returned v) ∧
      ((∃ ys, ys = Li.brk room gap wrap l ∧ J ys W') ∨ (∃ pre, True ∧ Jx pre W')) := by
  have HL := Lib.hid hl
  have HI := Lib.hid hI
  have HA := Lib.hid hA
  have HY := Lib.hid hY
  have HJ := Lib.hid hJ
  have HB1 := Lib.hid b1
  have HB2 := Lib.hid b2
  have HB3 := Lib.hid b3
  have HB4 := Lib.hid b4
  clear hl hI hA hY hJ b1 b2 b3 b4
  refine callsIn_of_wp Try.func25 rfl trivial ?_ rfl
  simp only [Try.ntmps25, List.size_toArray, List.length_cons, List.length_nil, Nat.reduceAdd, Nat.reduceSub, Array.replicate_succ, Array.replicate_zero, List.push_toArray, List.append_toArray, List.nil_append, List.cons_append]
  gi_wp2
  gi_loopw [6, 7] (fun vf _ wr => ∃ (k : Nat) (pre : List (Nat × Nat)), vf = .int .i64 k ∧ k ≤ m ∧ Hid (pre ++ Li.tail room gap wrap l k = Li.brk room gap wrap l) ∧ J pre wr ∧ KpB n₀ B W wr) (fun vf _ _ => m - (intOf vf).toNat)
  case atStart => exact ⟨0, [], rfl, by omega, Lib.hid rfl, h0, KpB.refl _ _ _⟩
  case round =>
    obtain ⟨k, pre, rfl, hk, HP, hJs, hK⟩ := hrel
    have p1 := hK.2 _ _ _ (by omega) (by omega) (by decide) HB1.out
    have p2 := hK.2 _ _ _ (by omega) (by omega) (by decide) HB2.out
    have p3 := hK.2 _ _ _ (by omega) (by omega) (by decide) HB3.out
    have p4 := hK.2 _ _ _ (by omega) (by omega) (by decide) HB4.out
    have c1 := p1.cell
    have c2 := p2.cell
    have c3 := p3.cell
    have c4 := p4.cell
    have l1 := p1.lt
    have l2 := p2.lt
    have l3 := p3.lt
    have l4 := p4.lt
    clear p1 p2 p3 p4
    by_cases hlt : k < m
    · have hltz : (k : Int) < (m : Int) := by omega
      have HI0 : Hid (Ints wr A l) := Lib.hid (HI.out.keep hK.1 HA.out)
      have I1 := HI0.out.from_ k c (by rw [HL.out]; omega) (by rw [HL.out]; exact hcap)
      have F1 := slice_from A m c k (by omega)
      generalize hA1 : (if c = k then A else A.map (·.add (k * 1))) = A1 at *
      have HI1 := Lib.hid I1
      have HF1 := Lib.hid F1
      obtain ⟨r, r1, r2⟩ : ∃ r, r + k ≤ m ∧ m ≤ r + k := ⟨m - k, by omega, by omega⟩
      have HR : Hid (m - k = r) := Lib.hid (by omega)
      have HL1 : Hid ((l.drop k).length = r) := Lib.hid (by rw [List.length_drop, HL.out]; omega)
      replace HF1 := Lib.hid HF1.out
      rw [HR.out] at HF1
      clear hA1 I1 F1
      obtain ⟨s, hs⟩ : ∃ s, s = Li.stop room gap wrap l k := ⟨_, rfl⟩
      have hks : k < s := by rw [hs]; exact Li.stop_gt _ _ _ _ _
      have hsm : s ≤ m := by rw [hs, ← HL.out]; exact Li.stop_le _ _ _ _ (by rw [HL.out]; exact hlt)
      have ht := Li.tail_step room gap wrap l (at_ := k) (by rw [HL.out]; exact hlt)
      rw [← hs] at ht
      have HT := Lib.hid ht
      obtain ⟨q, hq⟩ : ∃ q, q = Li.cnt room gap wrap (l.drop k) := ⟨_, rfl⟩
      have hsq1 : s ≤ k + q := by rw [hs, hq]; exact Nat.le_refl _
      have hsq2 : k + q ≤ s := by rw [hs, hq]; exact Nat.le_refl _
      have w1 : IntKind.i64.wrap ((k : Int) + (q : Int)) = (s : Int) := by rw [IntWalk.i64_in _ (by omega)]; omega
      have HQ := Lib.hid hq
      clear hs ht hq
      have lw := hK.1.size
      gi_upto_region 2 with (fail)
      refine wpIn_wide.2 ?_
      refine Drawn.wp_region_from (Below.refl _ _) (by kernel_rfl) (by kernel_rfl) (by kernel_rfl) ?_
      (repeat (first | (refine seq_sliced rfl (by rfl) (HF1.out) ?_; (try simp only [Act.put, List.setIfInBounds_toArray, List.set_cons_zero, List.set_cons_succ])) | (refine Drawn.seq_skip (by rfl) ?_; (try simp only [Act.put, List.setIfInBounds_toArray, List.set_cons_zero, List.set_cons_succ])) | (refine Drawn.seq_call (o := ⟨_, .call ⟨.value _, _, _⟩, _, _, _, _⟩) (by rfl) (by intro w2 hS; go_simp; first | done | with_reducible rfl | exact ⟨rfl, rfl⟩) (by intro w2 hS; first | ((with_reducible refine (count_at _ _ _ _ _ _ _ _ _ (HI1.out.after hS) HL1.out (by omega) (by omega) HQ.out).mono ?_); rintro e w' ⟨rfl, rfl⟩; exact ⟨rfl, hS⟩)) ?_; (try simp only [Act.put, List.setIfInBounds_toArray, List.set_cons_zero, List.set_cons_succ])) | (refine Drawn.seq_value (by rfl) (by intro w2 hS; obtain ⟨hc, hf⟩ := bcell hS; go_simp; first | done | with_reducible rfl | exact ⟨rfl, rfl⟩) ?_; (try simp only [Act.put, List.setIfInBounds_toArray, List.set_cons_zero, List.set_cons_succ]))))
      refine Drawn.seq_end ?_; intro w2 hS
      have hJ2 := HJ.out pre wr w2 none hJs (grown_of_below hS) (fun r e => by cases e)
      have hK2 := hK.trans (KpB.of_below hS (Nat.le_trans hn₀ lw))
      have hlen : pre.length < (Li.brk room gap wrap l).length := by
        rw [← HP.out, HT.out, List.length_append, List.length_cons]; omega
      obtain ⟨fn, tmps, assign, body, hy, hR⟩ := HY.out pre (k, s) w2 hJ2 hlen
      simp only [encL] at hy
      clear hS hJs hK c1 c2 c3 c4 l1 l2 l3 l4
      gi_wp2
      refine hR.mono ?_
      rintro e W3 (⟨rfl, hJ3, hk3⟩ | ⟨rfl, hJx3⟩)
      · gi_wp2
        go_roundw
        case rel => exact ⟨s, pre ++ [(k, s)], rfl, hsm, Lib.hid (by rw [← HP.out, HT.out, List.append_assoc]; rfl), hJ3, hK2.trans hk3⟩
        case measure => simp [intOf]; omega
      · gi_wp2
        refine bodyPost_ret (results_none rfl _ _ _) rfl ?_
        exact ⟨⟨_, rfl⟩, .inr ⟨_, trivial, hJx3⟩⟩
    · have hltz : ¬ (k : Int) < (m : Int) := by omega
      have HE : Hid (pre = Li.brk room gap wrap l) := Lib.hid (by rw [← HP.out, Li.tail_end _ _ _ _ (by rw [HL.out]; omega), List.append_nil])
      gi_wp2
      go_end0
      refine ⟨⟨_, rfl⟩, .inl ?_⟩
      first | exact ⟨_, HE.out, hJs⟩ | (rw [← HE.out]; exact hJs)

end Go.Proofs.Ytabmlohobbbnbaa.Fix
