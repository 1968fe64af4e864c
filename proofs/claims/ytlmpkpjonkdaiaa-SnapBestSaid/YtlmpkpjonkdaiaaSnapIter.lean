/- The iterator of the layer snap, which tells the stops. -/
import Derived.Test.YtlmpkpjonkdaiaaSnapRow
import Derived.RangeFuncBox
import Derived.RangeFuncLeaves
import Derived.OwnWalkIn
import Derived.TacticsInMore
import Derived.LoopNIn
import Derived.LoopIn
import Derived.Sort.CutIn
import Derived.Maps.AppendAt
import Derived.Maps.OwnIn
namespace Go.Proofs.Ytlmpkpjonkdaiaa.Fix
open Go.ChangeShapes Go.WideShapes Go.ChangeAt Go.RowKit
set_option linter.unusedVariables false
attribute [local go_sem] Oper.semAt_some

/-- What a round keeps: all below n₀, and the three boxes behind B. -/
def KpS (n₀ B : Nat) (W W' : World) : Prop := Below n₀ W W' ∧ ∀ k t v, B < k → k < B + 4 → Boxed W k t v → Boxed W' k t v

theorem KpS.refl (n₀ B : Nat) (W : World) : KpS n₀ B W W := ⟨Below.refl _ _, fun _ _ _ _ _ h => h⟩

theorem KpS.trans {n₀ B : Nat} {X Y Z : World} (h : KpS n₀ B X Y) (k : KpS n₀ B Y Z) : KpS n₀ B X Z := ⟨h.1.trans k.1, fun i t v h1 h2 h3 => k.2 i t v h1 h2 (h.2 i t v h1 h2 h3)⟩

theorem KpS.of_below {n₀ B : Nat} {W W' : World} (h : Below W.heap.size W W') (hn : n₀ ≤ W.heap.size) : KpS n₀ B W W' :=
  ⟨h.mono hn, fun i t v _ _ hb => (h.block i hb.lt).trans hb⟩

theorem KpS.putObj {n₀ B : Nat} {w : World} (hn : n₀ ≤ w.heap.size) (hB : B + 4 ≤ w.heap.size) (W : World) (l : Nat) (o o' : Obj) (hl : w.heap.size ≤ l) (h : W.heap[l]? = some o) (hc : o.isCells = false) (hw : o.isWalk = false) : KpS n₀ B W (W.putObj l o') :=
  ⟨belowK_b hn W l o o' hl h hc hw, fun i t v _ h2 hb => (World.putObj_heap_other (by omega)).trans hb⟩

theorem grown_of_belowS {W W' : World} (h : Below W.heap.size W W') : W.grownBy W' none := ⟨h.os, h.tape, h.output, h.size, fun k hk _ => h.block k hk⟩

theorem seach_any (A : Option Addr) (n c : Nat) (p mo : Int) (w : World) :
    Calls Try.prog 33 #[.slice A n c, .int .i64 p, .int .i64 mo] w fun e w' => e = .returned (.func (.func 38) #[] #[.pointer (some ⟨w.heap.size, 0, none⟩), .pointer (some ⟨w.heap.size + 1, 0, none⟩), .pointer (some ⟨w.heap.size + 2, 0, none⟩)]) ∧
      w' = ((w.alloc (.cells #[.slice A n c] 23)).alloc (.cells #[.int .i64 p] 3)).alloc (.cells #[.int .i64 mo] 3) := by
  have hmf : ∀ (fn : Fn) (first cap : Array Value) (w : World), (Instr.makeFunc fn first cap).run Try.prog w = .ok (.func fn first cap) w := fun _ _ _ _ => rfl
  go_enter Try.func33, Try.ntmps33
  go_wp2
  go_ret
  exact ⟨rfl, rfl⟩

theorem snat_at {lo hi e p z : Int} {s : Bool} (w : World) (hp : p ≤ 9223372036854775807) (hz : z = Sn.at_ lo hi e p) (hs : s = Sn.snaps e) :
    Calls Try.prog 12 #[.agg #[.int .i64 lo, .int .i64 hi, .int .i64 e], .int .i64 p] w fun x w' => x = .returned (.tuple #[.int .i64 z, .bool s]) ∧ Below w.heap.size w w' := by
  subst hz; subst hs; exact snat_any _ _ _ _ _ hp

/-- What an area's round comes to: its At, whether it has one, and whether it is a stop. -/
theorem inn_cases (a : Sn.Ar) (p m z : Int) (s : Bool) (hz : z = Sn.at_ a.lo a.hi a.e p) (hs : s = Sn.snaps a.e) :
    (Sn.inn a p m = false ∧ s = false) ∨ (Sn.inn a p m = false ∧ s = true ∧ z < 0) ∨ (Sn.inn a p m = false ∧ s = true ∧ 0 ≤ z ∧ max m 0 < z) ∨ (Sn.inn a p m = true ∧ s = true ∧ 0 ≤ z ∧ z ≤ max m 0) := by
  subst hz; subst hs
  cases h : Sn.inn a p m
  · cases h2 : Sn.snaps a.e
    · exact .inl ⟨rfl, rfl⟩
    · rcases Sn.inn_false h with h3 | h3 | h3
      · rw [h2] at h3; cases h3
      · exact .inr (.inl ⟨rfl, rfl, h3⟩)
      · exact .inr (.inr (.inl ⟨rfl, rfl, by omega, h3⟩))
  · obtain ⟨h1, h2, h3⟩ := Sn.inn_true h
    exact .inr (.inr (.inr ⟨rfl, h1, h2, h3⟩))

set_option maxRecDepth 100000 in
set_option maxHeartbeats 4000000 in
theorem siter_in (n : Nat) (hn1 : 1 ≤ n) (lp n₀ B : Nat) (A : Option Addr) (l : Nat → Sn.Ar) (m c : Nat) (p mo : Int) (hp : p ≤ 9223372036854775807) (hm : m ≤ 10000) (J Jx : List Int → World → Prop)
    (hY : ∀ pre x W, J pre W → pre.length < m → YieldAt Fence.wide (n - 1) Try.prog lp #[.int .i64 x] W fun e W' =>
      (e = .returned (.bool true) ∧ J (pre ++ [x]) W' ∧ KpS n₀ B W W') ∨ (e = .returned (.bool false) ∧ Jx (pre ++ [x]) W'))
    (W : World) (hJ : AbidesFrom W.heap.size J) (hn₀ : n₀ ≤ W.heap.size) (b1 : Boxed W (B + 1) 23 (.slice A m c)) (b2 : Boxed W (B + 2) 3 (.int .i64 p)) (b3 : Boxed W (B + 3) 3 (.int .i64 mo))
    (hI : Areas W A l m) (hA : 0 < m → ∀ x, A = some x → x.block < n₀) (h0 : J [] W) :
    CallsIn Fence.wide n Try.prog 38 #[.func (.yield lp) #[] #[], .pointer (some ⟨B + 1, 0, none⟩), .pointer (some ⟨B + 2, 0, none⟩), .pointer (some ⟨B + 3, 0, none⟩)] W fun e W' => (∃ v, e = .returned v) ∧
      ((∃ ys, ys = Sn.stops l p mo m ∧ J ys W') ∨ (∃ pre, True ∧ Jx pre W')) := by
  have HI := Lib.hid hI
  have HA := Lib.hid hA
  have HY := Lib.hid hY
  have HJ := Lib.hid hJ
  have HB2 := Lib.hid b2
  have HB3 := Lib.hid b3
  have c1 := b1.cell
  have l1 := b1.lt
  clear hI hA hY hJ b1 b2 b3
  refine callsIn_of_wp Try.func38 rfl trivial ?_ rfl
  simp only [Try.ntmps38, List.size_toArray, List.length_cons, List.length_nil, Nat.reduceAdd, Nat.reduceSub, Array.replicate_succ, Array.replicate_zero, List.push_toArray, List.append_toArray, List.nil_append, List.cons_append]
  gi_wp2
  gi_loopw [11] (fun vf wr => ∃ (k : Nat) (pre : List Int), vf = .int .i64 k ∧ k ≤ m ∧ Hid (pre = Sn.stops l p mo k) ∧ J pre wr ∧ KpS n₀ B W wr) (fun vf _ => m - (intOf vf).toNat)
  case atStart => exact ⟨0, [], rfl, by omega, Lib.hid rfl, h0, KpS.refl _ _ _⟩
  case round =>
    obtain ⟨k, pre, rfl, hk, HP, hJs, hK⟩ := hrel
    have p2 := hK.2 _ _ _ (by omega) (by omega) HB2.out
    have p3 := hK.2 _ _ _ (by omega) (by omega) HB3.out
    have c2 := p2.cell
    have c3 := p3.cell
    have l2 := p2.lt
    have l3 := p3.lt
    clear p2 p3
    by_cases hlt : k < m
    · have hltz : (k : Int) < (m : Int) := by omega
      obtain ⟨b, off, rfl, lb, d0, d1, d2⟩ := (HI.out.keep hK.1 HA.out).at_ hlt
      obtain ⟨z, hz⟩ : ∃ z, z = Sn.at_ (l k).lo (l k).hi (l k).e p := ⟨_, rfl⟩
      obtain ⟨s, hs⟩ : ∃ s, s = Sn.snaps (l k).e := ⟨_, rfl⟩
      have hcs := inn_cases (l k) p mo z s hz hs
      have hyes := Sn.stops_yes (l := l) (p := p) (m := mo) (k := k)
      have hno := Sn.stops_no (l := l) (p := p) (m := mo) (k := k)
      rw [← hz] at hyes
      have HYES := Lib.hid hyes
      have HNO := Lib.hid hno
      clear hyes hno
      have hlen := Sn.stops_len l p mo k
      rw [← HP.out] at hlen
      have HZ := Lib.hid hz
      have HS := Lib.hid hs
      clear hz hs
      generalize (l k).lo = lo at *
      generalize (l k).hi = hi at *
      generalize (l k).e = ed at *
      have lw := hK.1.size
      rcases hcs with ⟨hin, rfl⟩ | ⟨hin, rfl, q1⟩ | ⟨hin, rfl, q1, q2⟩ | ⟨hin, rfl, q1, q2⟩
      · gi_wp2_with (refine ⟨trivial, ?_⟩; gi_at_call 12; refine (callsIn_wide.2 (snat_at _ hp HZ.out HS.out)).mono ?_; rintro e w2 ⟨rfl, hb⟩; have hS : Below wr.heap.size wr w2 := Below.after (Below.alloc' (Below.refl _ _) _) hb; obtain ⟨hc, hf⟩ := bcell hS)
        go_roundw
        case rel => exact ⟨k + 1, pre, by go_num, by omega, Lib.hid (by rw [HNO.out hin]; exact HP.out), HJ.out pre wr w2 none hJs (grown_of_belowS hS) (fun r e => by cases e), hK.trans (KpS.of_below hS (Nat.le_trans hn₀ lw))⟩
        case measure => simp [intOf]; omega
      · have e1 : decide (z < 0) = true := by simp; omega
        gi_wp2_with (refine ⟨trivial, ?_⟩; gi_at_call 12; refine (callsIn_wide.2 (snat_at _ hp HZ.out HS.out)).mono ?_; rintro e w2 ⟨rfl, hb⟩; have hS : Below wr.heap.size wr w2 := Below.after (Below.alloc' (Below.refl _ _) _) hb; obtain ⟨hc, hf⟩ := bcell hS)
        go_roundw
        case rel => exact ⟨k + 1, pre, by go_num, by omega, Lib.hid (by rw [HNO.out hin]; exact HP.out), HJ.out pre wr w2 none hJs (grown_of_belowS hS) (fun r e => by cases e), hK.trans (KpS.of_below hS (Nat.le_trans hn₀ lw))⟩
        case measure => simp [intOf]; omega
      · have e1 : decide (z < 0) = false := by simp; omega
        have e2 : decide (max mo 0 < z) = true := by simp; omega
        gi_wp2_with (refine ⟨trivial, ?_⟩; gi_at_call 12; refine (callsIn_wide.2 (snat_at _ hp HZ.out HS.out)).mono ?_; rintro e w2 ⟨rfl, hb⟩; have hS : Below wr.heap.size wr w2 := Below.after (Below.alloc' (Below.refl _ _) _) hb; obtain ⟨hc, hf⟩ := bcell hS)
        go_roundw
        case rel => exact ⟨k + 1, pre, by go_num, by omega, Lib.hid (by rw [HNO.out hin]; exact HP.out), HJ.out pre wr w2 none hJs (grown_of_belowS hS) (fun r e => by cases e), hK.trans (KpS.of_below hS (Nat.le_trans hn₀ lw))⟩
        case measure => simp [intOf]; omega
      · have e1 : decide (z < 0) = false := by simp; omega
        have e2 : decide (max mo 0 < z) = false := by simp; omega
        gi_wp2_with (refine ⟨trivial, ?_⟩; gi_at_call 12; refine (callsIn_wide.2 (snat_at _ hp HZ.out HS.out)).mono ?_; rintro e w2 ⟨rfl, hb⟩; have hS : Below wr.heap.size wr w2 := Below.after (Below.alloc' (Below.refl _ _) _) hb; obtain ⟨hc, hf⟩ := bcell hS; have hJ2 := HJ.out pre wr w2 none hJs (grown_of_belowS hS) (fun r e => by cases e); have hK2 := hK.trans (KpS.of_below hS (Nat.le_trans hn₀ lw)); obtain ⟨fn, tmps, assign, body, hy, hR⟩ := HY.out pre z w2 hJ2 (by omega))
        refine hR.mono ?_
        rintro e W3 (⟨rfl, hJ3, hk3⟩ | ⟨rfl, hJx3⟩)
        · gi_wp2
          go_roundw
          case rel => exact ⟨k + 1, pre ++ [z], by go_num, by omega, Lib.hid (by rw [HYES.out hin, HP.out]), hJ3, hK2.trans hk3⟩
          case measure => simp [intOf]; omega
        · gi_wp2
          refine bodyPost_ret (results_none rfl _ _ _) rfl ?_
          exact ⟨⟨_, rfl⟩, .inr ⟨_, trivial, hJx3⟩⟩
    · have hltz : ¬ (k : Int) < (m : Int) := by omega
      obtain rfl : k = m := by omega
      gi_wp2
      go_end0
      refine ⟨⟨_, rfl⟩, .inl ?_⟩
      first | exact ⟨_, HP.out, hJs⟩ | (rw [← HP.out]; exact hJs)

end Go.Proofs.Ytlmpkpjonkdaiaa.Fix
