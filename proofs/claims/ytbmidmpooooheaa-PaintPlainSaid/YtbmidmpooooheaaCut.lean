/- Stretches of a slice of integers: l[k:], l[:k], l[i:j] (the first ones as in layer 6). -/
import Derived.Test.YtbmidmpooooheaaMarStackR
set_option maxRecDepth 100000
namespace Go.Proofs.Ytbmidmpooooheaa.Fix
open Go.ChangeShapes Go.WideShapes Go.ChangeAt Go.RowKit
set_option linter.unusedVariables false

theorem addr_add (b off k : Nat) : (⟨b, off, none⟩ : Addr).add k = ⟨b, off + k, none⟩ := by
  unfold Addr.add; split
  · subst k; rfl
  · rfl

/-- A slice's end from k on, and its beginning up to k. -/
theorem Ints.from_ {w : World} {A : Option Addr} {l : List Int} (h : Ints w A l) (k cap : Nat) (hk : k ≤ l.length) (hc : l.length ≤ cap) : Ints w (if cap = k then A else A.map (·.add (k * 1))) (l.drop k) := by
  refine ⟨by rw [List.length_drop]; have := h.1; omega, fun h0 => ?_⟩
  rw [List.length_drop] at h0
  obtain ⟨b, off, rfl, hcell⟩ := h.2 (by omega)
  rw [if_neg (by omega)]
  refine ⟨b, off + k, by simp [addr_add], fun j hj => ?_⟩
  rw [List.length_drop] at hj
  have := hcell (k + j) (by omega)
  rw [Nat.add_assoc, this]
  simp [List.getD]

theorem Ints.upto {w : World} {A : Option Addr} {l : List Int} (h : Ints w A l) (k cap : Nat) (hk : k ≤ l.length) (hc : l.length ≤ cap) : Ints w (if cap = 0 then A else A.map (·.add (0 * 1))) (l.take k) := by
  refine ⟨by rw [List.length_take]; have := h.1; omega, fun h0 => ?_⟩
  rw [List.length_take] at h0
  obtain ⟨b, off, rfl, hcell⟩ := h.2 (by omega)
  rw [if_neg (by omega)]
  refine ⟨b, off, by simp [addr_add], fun j hj => ?_⟩
  rw [List.length_take] at hj
  rw [hcell j (by omega)]
  simp [List.getD, show j < k by omega]

theorem wpList_sliced {P : Program} {w : World} {ops : Array Oper} {rest : List Oper} {o : Oper} {a : Act} {Q : Exit → Act → World → Prop} {t : TypeId} {x : Operand} {lo hi mx : Option Operand} {v : Value} (ho : o.op = .slice t x lo hi mx) (hw : Region.wanted o (yielded ops a.tmps) = true)
    (hrun : (Instr.sliceAt t (a.eval x) (lo.map a.eval) (hi.map a.eval) (mx.map a.eval)).run P w = .ok v w) (h : wpList P ops Q rest (a.put o.dst v) w) : wpList P ops Q (o :: rest) a w := by
  unfold wpList
  rw [if_pos hw]
  refine .inl ?_
  unfold Oper.wp execOp
  simp only [ho, Sem.run_bind, Sem.run_pure, hrun, Result.andThen_ok]
  exact h

theorem slice_from (A : Option Addr) (n c k : Nat) (hk : k ≤ n) (W : World) : (Instr.sliceAt 26 (.slice A n c) (some (.int .i64 (k : Int))) none none).run Try.prog W = .ok (.slice (if c = k then A else A.map (·.add (k * 1))) (n - k) (c - k)) W := by
  have he : Try.prog.elem 26 = 3 := by kernel_rfl
  have hu : Try.prog.underlying 26 = some (.slice (Try.prog.elem 26)) := by rw [he]; exact Try.underlying26
  obtain ⟨i0, hi0, hz0, hz1, hz2⟩ := info_parts intZero
  rw [run_sliceAt_slice (h := hu), run_slice_l (ht := hu) (h0 := by omega) (h1 := by omega), he]
  simp [sizeOf, typeInfo, hi0, hz1, sliced, go_sem]

theorem slice_upto (A : Option Addr) (n c k : Nat) (hk : k ≤ c) (W : World) : (Instr.sliceAt 26 (.slice A n c) none (some (.int .i64 (k : Int))) none).run Try.prog W = .ok (.slice (if c = 0 then A else A.map (·.add (0 * 1))) k c) W := by
  have he : Try.prog.elem 26 = 3 := by kernel_rfl
  have hu : Try.prog.underlying 26 = some (.slice (Try.prog.elem 26)) := by rw [he]; exact Try.underlying26
  obtain ⟨i0, hi0, hz0, hz1, hz2⟩ := info_parts intZero
  rw [run_sliceAt_slice (h := hu), run_slice_h (ht := hu) (h0 := by omega) (h2 := by omega), he]
  simp [sizeOf, typeInfo, hi0, hz1, sliced, go_sem]

/-- A stretch from i up to j. -/
theorem Ints.mid {w : World} {A : Option Addr} {l : List Int} (h : Ints w A l) (i j cap : Nat) (hi : i ≤ j) (hj : j ≤ l.length) (hc : l.length ≤ cap) : Ints w (if cap = i then A else A.map (·.add (i * 1))) ((l.drop i).take (j - i)) := by
  have := Ints.upto (h.from_ i cap (by omega) hc) (j - i) (l.length - i) (by rw [List.length_drop]; omega) (by rw [List.length_drop]; omega)
  refine ⟨this.1, fun h0 => ?_⟩
  obtain ⟨b, off, e, hcell⟩ := this.2 h0
  rw [List.length_take, List.length_drop] at h0
  rw [if_neg (by omega)] at e
  generalize hA : (if cap = i then A else A.map (·.add (i * 1))) = A1 at *
  cases A1 with
  | none => simp at e
  | some x =>
    refine ⟨b, off, ?_, hcell⟩
    have : x.add (0 * 1) = x := by unfold Addr.add; simp
    simpa [this] using e

theorem slice_mid (A : Option Addr) (n c i j : Nat) (hi : i ≤ j) (hj : j ≤ c) (W : World) : (Instr.sliceAt 26 (.slice A n c) (some (.int .i64 (i : Int))) (some (.int .i64 (j : Int))) none).run Try.prog W = .ok (.slice (if c = i then A else A.map (·.add (i * 1))) (j - i) (c - i)) W := by
  have he : Try.prog.elem 26 = 3 := by kernel_rfl
  have hu : Try.prog.underlying 26 = some (.slice (Try.prog.elem 26)) := by rw [he]; exact Try.underlying26
  obtain ⟨i0, hi0, hz0, hz1, hz2⟩ := info_parts intZero
  rw [run_sliceAt_slice (h := hu), run_slice_lh (ht := hu) (h0 := by omega) (h1 := by omega) (h2 := by omega), he]
  simp [sizeOf, typeInfo, hi0, hz1, sliced, go_sem]

end Go.Proofs.Ytbmidmpooooheaa.Fix
