/- MarginOrder: it returns true, and leaves all that was there as it was. -/
import Derived.Test.YtcjoljclijkmcaaMarTells
namespace Go.Proofs.Ytcjoljclijkmcaa.Fix
open Go.ChangeShapes Go.WideShapes Go.ChangeAt Go.RowKit
set_option linter.unusedVariables false

theorem addr_add (b off k : Nat) : (⟨b, off, none⟩ : Addr).add k = ⟨b, off + k, none⟩ := by
  unfold Addr.add; split
  · subst k; rfl
  · rfl

/-- A slice's end from k on, and its beginning up to k. -/
theorem Ints.from_ {w : World} {A : Option Addr} {l : List Int} (h : Ints w A l) (k cap : Nat) (hk : k ≤ l.length) (hc : l.length ≤ cap) : Ints w (if cap = k then A else A.map (·.add (k * 1))) (l.drop k) := by
  refine ⟨by rw [List.length_drop]; have := h.1; omega, fun h0 => ?_⟩
  rw [List.length_drop] at h0
  obtain ⟨b, off, rfl, hcell⟩ := h.2 (by omega)
  rw [if_neg (by omega)]
  refine ⟨b, off + k, by simp [addr_add], fun j hj => ?_⟩
  rw [List.length_drop] at hj
  have := hcell (k + j) (by omega)
  rw [Nat.add_assoc, this]
  simp [List.getD]

theorem Ints.upto {w : World} {A : Option Addr} {l : List Int} (h : Ints w A l) (k cap : Nat) (hk : k ≤ l.length) (hc : l.length ≤ cap) : Ints w (if cap = 0 then A else A.map (·.add (0 * 1))) (l.take k) := by
  refine ⟨by rw [List.length_take]; have := h.1; omega, fun h0 => ?_⟩
  rw [List.length_take] at h0
  obtain ⟨b, off, rfl, hcell⟩ := h.2 (by omega)
  rw [if_neg (by omega)]
  refine ⟨b, off, by simp [addr_add], fun j hj => ?_⟩
  rw [List.length_take] at hj
  rw [hcell j (by omega)]
  simp [List.getD, show j < k by omega]

theorem wpList_sliced {P : Program} {w : World} {ops : Array Oper} {rest : List Oper} {o : Oper} {a : Act} {Q : Exit → Act → World → Prop} {t : TypeId} {x : Operand} {lo hi mx : Option Operand} {v : Value} (ho : o.op = .slice t x lo hi mx) (hw : Region.wanted o (yielded ops a.tmps) = true)
    (hrun : (Instr.sliceAt t (a.eval x) (lo.map a.eval) (hi.map a.eval) (mx.map a.eval)).run P w = .ok v w) (h : wpList P ops Q rest (a.put o.dst v) w) : wpList P ops Q (o :: rest) a w := by
  unfold wpList
  rw [if_pos hw]
  refine .inl ?_
  unfold Oper.wp execOp
  simp only [ho, Sem.run_bind, Sem.run_pure, hrun, Result.andThen_ok]
  exact h

theorem slice_from (A : Option Addr) (n c k : Nat) (hk : k ≤ n) (W : World) : (Instr.sliceAt 22 (.slice A n c) (some (.int .i64 (k : Int))) none none).run Try.prog W = .ok (.slice (if c = k then A else A.map (·.add (k * 1))) (n - k) (c - k)) W := by
  have he : Try.prog.elem 22 = 3 := by kernel_rfl
  have hu : Try.prog.underlying 22 = some (.slice (Try.prog.elem 22)) := by rw [he]; exact Try.underlying22
  obtain ⟨i0, hi0, hz0, hz1, hz2⟩ := info_parts intZero
  rw [run_sliceAt_slice (h := hu), run_slice_l (ht := hu) (h0 := by omega) (h1 := by omega), he]
  simp [sizeOf, typeInfo, hi0, hz1, sliced, go_sem]

theorem slice_upto (A : Option Addr) (n c k : Nat) (hk : k ≤ c) (W : World) : (Instr.sliceAt 22 (.slice A n c) none (some (.int .i64 (k : Int))) none).run Try.prog W = .ok (.slice (if c = 0 then A else A.map (·.add (0 * 1))) k c) W := by
  have he : Try.prog.elem 22 = 3 := by kernel_rfl
  have hu : Try.prog.underlying 22 = some (.slice (Try.prog.elem 22)) := by rw [he]; exact Try.underlying22
  obtain ⟨i0, hi0, hz0, hz1, hz2⟩ := info_parts intZero
  rw [run_sliceAt_slice (h := hu), run_slice_h (ht := hu) (h0 := by omega) (h2 := by omega), he]
  simp [sizeOf, typeInfo, hi0, hz1, sliced, go_sem]

set_option maxHeartbeats 4000000 in
theorem morder_core (A : Option Addr) (l : List Int) (n k c : Nat) (w : World) (hI : Ints w A l) (hn : l.length = n) (hm : n ≤ 1000) (hk : k ≤ n) (hcap : n ≤ c) (hc0 : A = none → c = 0) :
    Calls Try.prog 5 #[.slice A n c, .int .i64 k] w fun e w' => e = .returned (.bool true) ∧ Below w.heap.size w w' := by
  have d1 : decide (1000 < (n : Int)) = false := by simp; omega
  have d2 : decide ((k : Int) < 0) = false := by simp
  have d3 : decide ((n : Int) < k) = false := by simp; omega
  have HN := Lib.hid hn; clear hn
  have HI := Lib.hid hI; clear hI
  have HC := Lib.hid hc0; clear hc0
  go_enter Try.func5, Try.ntmps5
  go_upto_region 7 with (go_at_call 9; with_reducible refine (mworks_any _).mono ?_; rintro e w1 ⟨rfl, hB⟩)
  have W1 := HI.out.after hB
  have F1 := slice_from A n c k hk
  have F2 := slice_upto A n c k (by omega)
  have I1 := W1.from_ k c (by rw [HN.out]; exact hk) (by rw [HN.out]; exact hcap)
  have I2 := HI.out.upto k c (by rw [HN.out]; exact hk) (by rw [HN.out]; exact hcap)
  have n1 : (if c = k then A else A.map (·.add (k * 1))) = none → c - k = 0 := by
    intro h
    cases A with
    | none => rw [HC.out rfl]; omega
    | some x => split at h <;> simp at h
  have n2 : (if c = 0 then A else A.map (·.add (0 * 1))) = none → c = 0 := by
    intro h
    cases A with
    | none => exact HC.out rfl
    | some x => split at h <;> simp at h
  generalize hA1 : (if c = k then A else A.map (·.add (k * 1))) = A1 at *
  generalize hA2 : (if c = 0 then A else A.map (·.add (0 * 1))) = A2 at *
  clear hA1 hA2
  have HC1 : Hid (Fx.coll ([] ++ l.drop k ++ [0] ++ l.take k ++ l) = Fx.coll l) := Lib.hid (Fx.coll_order l k)
  obtain ⟨v1, wa, r1, o1, b1, g1⟩ := append_ints (xs := []) (World.ownsRow_nil _ _ _ _) hB hB.size I1 (m := n - k) (by rw [List.length_drop, HN.out]) n1 (by omega)
  obtain ⟨v2, wb, r2, o2, b2, g2⟩ := append_int 0 o1 b1 g1 (by omega)
  obtain ⟨v3, wc, r3, o3, b3, g3⟩ := append_ints o2 b2 g2 (I2.after b2) (m := k) (by rw [List.length_take, HN.out]; omega) n2 (by omega)
  obtain ⟨v4, wd, r4, o4, b4, g4⟩ := append_ints o3 b3 g3 (HI.out.after b3) (m := n) HN.out HC.out (by omega)
  obtain ⟨A', c', rfl, hI'⟩ := ints_of_own o4 (by simp only [maxLen]; omega)
  have HL : Hid (([] ++ l.drop k ++ [0] ++ l.take k ++ l).length = 0 + (n - k) + 1 + k + n) := Lib.hid (by simp [HN.out]; omega)
  rw [HL.out] at r4
  generalize hN : 0 + (n - k) + 1 + k + n = N at *
  replace F1 := Lib.hid F1
  replace F2 := Lib.hid F2
  have R1 := Lib.hid r1
  have R2 := Lib.hid r2
  have R3 := Lib.hid r3
  have R4 := Lib.hid r4
  have IL := HI.out.after b4
  have C1 := Lib.hid (coll_any A l n c wd IL HN.out)
  have C2 := coll_any A' _ N c' wd hI' HL.out
  rw [HC1.out] at C2
  replace C2 := Lib.hid C2
  clear r1 r2 r3 r4 o1 o2 o3 o4 b1 b2 b3 g1 g2 g3 g4 n1 n2 I1 I2 W1 hB hI'
  go_upto_region 8 with (first | (refine wpList_sliced rfl (by rfl) (F1.out _) ?_) | (at_builtin; refine wpList_append_run (by rfl) _ _ 22 rfl rfl rfl R1.out ?_))
  go_upto_region 9 with (at_builtin; refine wpList_append_run (by rfl) _ _ 22 rfl rfl rfl R2.out ?_)
  go_upto_region 10 with (first | (refine wpList_sliced rfl (by rfl) (F2.out _) ?_) | (at_builtin; refine wpList_append_run (by rfl) _ _ 22 rfl rfl rfl R3.out ?_))
  go_upto_region 11 with (at_builtin; refine wpList_append_run (by rfl) _ _ 22 rfl rfl rfl R4.out ?_)
  go_upto_region 12 with (go_at_call 12; refine C1.out.mono ?_; rintro e w' ⟨rfl, rfl⟩)
  rcases Nat.lt_trichotomy n 1 with h | h | h
  · obtain rfl : n = 0 := by omega
    have e0 : Fx.coll l = 0 := by rw [List.eq_nil_of_length_eq_zero HN.out]; exact Fx.coll_nil
    go_wp2_with (go_at_call 12; refine C2.out.mono ?_; rintro e w' ⟨rfl, rfl⟩)
    go_ret
    exact ⟨rfl, b4⟩
  · subst h
    obtain ⟨b, off, hA, hl, hc⟩ := IL.at_ (k := 0) (by rw [HN.out]; omega)
    obtain ⟨x, hx⟩ : ∃ x, l = [x] := List.length_eq_one_iff.1 HN.out
    have e1 : Fx.coll l = Fx.cut x := by rw [hx]; exact Fx.coll_one x
    rw [hx] at hc
    simp at hc
    clear hx IL
    subst hA
    by_cases hin : -1099511627776 ≤ x ∧ x ≤ 1099511627776
    · have e2 : Fx.cut x = x := Fx.cut_id hin.1 hin.2
      have f1 : decide (1099511627776 < x) = false := by simp; omega
      have f2 : decide (x < -1099511627776) = false := by simp; omega
      rw [e2] at e1
      clear e2 hin
      go_wp2_with (go_at_call 12; refine C2.out.mono ?_; rintro e w' ⟨rfl, rfl⟩)
      go_ret
      exact ⟨rfl, b4⟩
    · by_cases f1 : 1099511627776 < x
      · clear hin
        go_wp2_with (go_at_call 12; refine C2.out.mono ?_; rintro e w' ⟨rfl, rfl⟩)
        go_ret
        exact ⟨rfl, b4⟩
      · have f2 : x < -1099511627776 := by omega
        have f3 : decide (1099511627776 < x) = false := by simp; omega
        clear hin
        go_wp2_with (go_at_call 12; refine C2.out.mono ?_; rintro e w' ⟨rfl, rfl⟩)
        go_ret
        exact ⟨rfl, b4⟩
  · have g1 : ((n : Int) == 1) = false := by simp; omega
    have g0 : ((n : Int) == 0) = false := by simp; omega
    go_wp2_with (go_at_call 12; refine C2.out.mono ?_; rintro e w' ⟨rfl, rfl⟩)
    go_ret
    exact ⟨rfl, b4⟩

theorem morder_out (A : Option Addr) (n c : Nat) (k : Int) (w : World) (hx : n ≤ 9223372036854775807) (h : 1000 < n ∨ k < 0 ∨ (n : Int) < k) :
    Calls Try.prog 5 #[.slice A n c, .int .i64 k] w fun e w' => e = .returned (.bool true) ∧ Below w.heap.size w w' := by
  by_cases h1 : 1000 < n
  · go_enter Try.func5, Try.ntmps5
    go_wp2_with (go_at_call 9; with_reducible refine (mworks_any _).mono ?_; rintro e w1 ⟨rfl, hB⟩)
    go_ret
    exact ⟨rfl, hB⟩
  · have e1 : decide (1000 < (n : Int)) = false := by simp; omega
    by_cases h2 : k < 0
    · go_enter Try.func5, Try.ntmps5
      go_wp2_with (go_at_call 9; with_reducible refine (mworks_any _).mono ?_; rintro e w1 ⟨rfl, hB⟩)
      go_ret
      exact ⟨rfl, hB⟩
    · have e2 : decide (k < 0) = false := by simp; omega
      have h3 : (n : Int) < k := by omega
      clear h
      go_enter Try.func5, Try.ntmps5
      go_wp2_with (go_at_call 9; with_reducible refine (mworks_any _).mono ?_; rintro e w1 ⟨rfl, hB⟩)
      go_ret
      exact ⟨rfl, hB⟩

theorem morder_walk (a : Option Addr) (len cap : Nat) (zs : List Int) (k : Int) (w : World) (h : Row w a len cap zs) :
    Calls Try.prog 5 #[.slice a len cap, .int .i64 k] w fun e w' => e = .returned (.bool true) ∧ Below w.heap.size w w' := by
  have hcap : len ≤ cap := by
    rcases h with ⟨_, rfl, rfl, _⟩ | ⟨_, _, h, _⟩ <;> omega
  obtain ⟨l, rfl, hI, _, _, hc⟩ := ints_of_row h
  by_cases hm : 1000 < l.length ∨ k < 0 ∨ (l.length : Int) < k
  · exact morder_out a l.length cap k w (by have := hI.1; simp only [maxLen] at this; omega) hm
  · obtain ⟨q, rfl⟩ := Int.eq_ofNat_of_zero_le (show 0 ≤ k by omega)
    exact morder_core a l l.length q cap w hI rfl (by omega) (by omega) hcap hc

end Go.Proofs.Ytcjoljclijkmcaa.Fix
