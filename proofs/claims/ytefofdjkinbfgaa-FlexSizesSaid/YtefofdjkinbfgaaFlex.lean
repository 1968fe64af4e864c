/- The contracts of Clamp and Share of the layer flex (and of the document's own answers for them). -/
import Derived.Test.YtefofdjkinbfgaaFlexMath
import Derived.Test.YtefofdjkinbfgaaMarStackR
namespace Go.Proofs.Ytefofdjkinbfgaa.Fix
open Go.ChangeShapes Go.WideShapes Go.ChangeAt Go.RowKit
set_option linter.unusedVariables false


/-- An item as a value. -/
def enc (x : Fe.It) : Value := .agg #[.int .i64 x.b, .int .i64 x.lo, .int .i64 x.hi, .int .i64 x.g, .int .i64 x.s]

theorem rto_any (n m : Int) (w : World) : Calls Try.prog 27 #[.int .i64 n, .int .i64 m] w fun e w' => e = .returned (.int .i64 (if m < (if n < 0 then 0 else n) then m else if n < 0 then 0 else n)) ∧ w = w' := by
  go_enter Try.func27, Try.ntmps27
  go_wp2
  all_goals
    go_ret
    exact ⟨ret_int (by (repeat' split) <;> (try split at *) <;> omega), rfl⟩

theorem cwe_any (n : Int) (w : World) : Calls Try.prog 28 #[.int .i64 n] w fun e w' => e = .returned (.int .i64 (Fe.cw n)) ∧ w = w' := by
  go_enter Try.func28, Try.ntmps28
  go_wp2_with (first | (go_at_call 20; (with_reducible refine (clamp_any _ _ _ _).mono ?_); rintro e w' ⟨rfl, rfl⟩))
  go_ret
  exact ⟨ret_int (Fe.fix_to (by omega) (by omega)), rfl⟩

theorem fto_any (n m : Int) (w : World) (h : 0 ≤ m ∧ m ≤ 1073741824) : Calls Try.prog 20 #[.int .i64 n, .int .i64 0, .int .i64 m] w fun e w' => e = .returned (.int .i64 (Fe.to n m)) ∧ w = w' := by
  rw [← Fe.fix_to h.1 h.2]
  exact clamp_any n 0 m w

theorem rto2_any (n m : Int) (w : World) (h : 0 ≤ m) : Calls Try.prog 27 #[.int .i64 n, .int .i64 m] w fun e w' => e = .returned (.int .i64 (Fe.to n m)) ∧ w = w' := by
  have e : Fe.to n m = (if m < (if n < 0 then 0 else n) then m else if n < 0 then 0 else n) := by unfold Fe.to; (repeat' split) <;> omega
  rw [e]
  exact rto_any n m w

theorem ret_five {a b c d f a' b' c' d' f' : Int} (h1 : a = a') (h2 : b = b') (h3 : c = c') (h4 : d = d') (h5 : f = f') : Ending.returned (.agg #[.int .i64 a, .int .i64 b, .int .i64 c, .int .i64 d, .int .i64 f]) = .returned (.agg #[.int .i64 a', .int .i64 b', .int .i64 c', .int .i64 d', .int .i64 f']) := by rw [h1, h2, h3, h4, h5]

set_option maxHeartbeats 4000000 in
theorem counted_any (x : Fe.It) (w : World) : Calls Try.prog 19 #[enc x] w fun e w' => e = .returned (enc (Fe.cnt x)) ∧ Below w.heap.size w w' := by
  obtain ⟨b, lo, hi, g, s⟩ := x
  simp only [enc, Fe.cnt]
  go_enter Try.func19, Try.ntmps19
  go_wp2
  refine Drawn.wp_region_tail 16 1 (by first | assumption | exact Below.refl _ _) (by kernel_rfl) (by kernel_rfl) rfl (by kernel_rfl) (by kernel_rfl) ?_
  (repeat (first | (refine Drawn.seq_skip (by rfl) ?_; (try simp only [Act.put, List.setIfInBounds_toArray, List.set_cons_zero, List.set_cons_succ])) | (refine Drawn.seq_call (o := ⟨_, .call ⟨.value _, _, _⟩, _, _, _, _⟩) (by rfl) (by intro w2 hS; go_simp; first | done | with_reducible rfl | exact ⟨rfl, rfl⟩) (by intro w2 hS; first | ((with_reducible refine (fto_any _ _ _ (by omega)).mono ?_); rintro e w' ⟨rfl, rfl⟩; exact ⟨rfl, hS⟩)) ?_; (try simp only [Act.put, List.setIfInBounds_toArray, List.set_cons_zero, List.set_cons_succ])) | (refine Drawn.seq_value (by rfl) (by intro w2 hS; obtain ⟨hc, hf⟩ := bcell hS; go_simp; first | done | with_reducible rfl | exact ⟨rfl, rfl⟩) ?_; (try simp only [Act.put, List.setIfInBounds_toArray, List.set_cons_zero, List.set_cons_succ]))))
  refine Drawn.seq_tail ?_; intro w2 hS; obtain ⟨hc, hf⟩ := bcell hS; refine Drawn.text_cons (by rfl) ?_; intro K hK; go_simp; refine hK _ _ (Drawn.text_nil ?_); clear hK K
  go_wp2
  refine bodyPost_ret (v := .agg #[.int .i64 _, .int .i64 _, .int .i64 _, .int .i64 _, .int .i64 _]) (by simp [results, Try.results19, go_sem, *]; first | done | exact ⟨rfl, rfl⟩ | exact ⟨rfl, rfl, rfl, rfl⟩ | exact ⟨rfl, rfl, rfl, rfl, rfl⟩ | rfl) rfl ⟨ret_five rfl rfl rfl rfl rfl, ?_⟩
  (repeat (first | exact Below.refl _ _ | assumption | refine Below.drew ?_ | refine Below.drewN ?_ _ | refine Below.alloc' ?_ _ | refine Below.setCell ?_ (by first | (simp; done) | (simp; omega)) _ | refine Below.after2 ?_ (Nat.le_refl _) (by assumption)))

set_option maxHeartbeats 4000000 in
theorem sound_any (x : Fe.It) (w : World) : Calls Try.prog 21 #[enc x] w fun e w' => e = .returned (enc (Fe.cnt x)) ∧ Below w.heap.size w w' := by
  obtain ⟨b, lo, hi, g, s⟩ := x
  simp only [enc, Fe.cnt]
  go_enter Try.func21, Try.ntmps21
  go_wp2
  refine Drawn.wp_region_tail 16 1 (by first | assumption | exact Below.refl _ _) (by kernel_rfl) (by kernel_rfl) rfl (by kernel_rfl) (by kernel_rfl) ?_
  (repeat (first | (refine Drawn.seq_skip (by rfl) ?_; (try simp only [Act.put, List.setIfInBounds_toArray, List.set_cons_zero, List.set_cons_succ])) | (refine Drawn.seq_call (o := ⟨_, .call ⟨.value _, _, _⟩, _, _, _, _⟩) (by rfl) (by intro w2 hS; go_simp; first | done | with_reducible rfl | exact ⟨rfl, rfl⟩) (by intro w2 hS; first | ((with_reducible refine (rto2_any _ _ _ (by omega)).mono ?_); rintro e w' ⟨rfl, rfl⟩; exact ⟨rfl, hS⟩)) ?_; (try simp only [Act.put, List.setIfInBounds_toArray, List.set_cons_zero, List.set_cons_succ])) | (refine Drawn.seq_value (by rfl) (by intro w2 hS; obtain ⟨hc, hf⟩ := bcell hS; go_simp; first | done | with_reducible rfl | exact ⟨rfl, rfl⟩) ?_; (try simp only [Act.put, List.setIfInBounds_toArray, List.set_cons_zero, List.set_cons_succ]))))
  refine Drawn.seq_tail ?_; intro w2 hS; obtain ⟨hc, hf⟩ := bcell hS; refine Drawn.text_cons (by rfl) ?_; intro K hK; go_simp; refine hK _ _ (Drawn.text_nil ?_); clear hK K
  go_wp2
  refine bodyPost_ret (v := .agg #[.int .i64 _, .int .i64 _, .int .i64 _, .int .i64 _, .int .i64 _]) (by simp [results, Try.results21, go_sem, *]; first | done | exact ⟨rfl, rfl⟩ | exact ⟨rfl, rfl, rfl, rfl⟩ | exact ⟨rfl, rfl, rfl, rfl, rfl⟩ | rfl) rfl ⟨ret_five rfl rfl rfl rfl rfl, ?_⟩
  (repeat (first | exact Below.refl _ _ | assumption | refine Below.drew ?_ | refine Below.drewN ?_ _ | refine Below.alloc' ?_ _ | refine Below.setCell ?_ (by first | (simp; done) | (simp; omega)) _ | refine Below.after2 ?_ (Nat.le_refl _) (by assumption)))

end Go.Proofs.Ytefofdjkinbfgaa.Fix
