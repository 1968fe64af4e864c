/- The contracts of Best of the layer snap, and of the document's own answer for it. -/
import Derived.Test.YtlmpkpjonkdaiaaSnapStops
import Derived.Deep.Cut
namespace Go.Proofs.Ytlmpkpjonkdaiaa.Fix
open Go.ChangeShapes Go.WideShapes Go.ChangeAt Go.RowKit Go.Shelf
set_option linter.unusedVariables false

/-- the three boxes of the closure -/
structure BoxS (w : World) (b1 b2 b3 : Nat) (A : Option Addr) (n c : Nat) (want b : Int) : Prop where
  a1 : At w b1 (.cells #[.slice A n c] 39)
  a2 : At w b2 (.cells #[.int .i64 want] 3)
  a3 : At w b3 (.cells #[.int .i64 b] 3)
  n13 : b1 ≠ b3
  n23 : b2 ≠ b3

theorem BoxS.keep {w w' : World} {b1 b2 b3 : Nat} {A : Option Addr} {n c : Nat} {want b : Int} (h : BoxS w b1 b2 b3 A n c want b) (hb : Below w.heap.size w w') : BoxS w' b1 b2 b3 A n c want b := ⟨h.a1.keep hb, h.a2.keep hb, h.a3.keep hb, h.n13, h.n23⟩
theorem BoxS.put {w : World} {b1 b2 b3 : Nat} {A : Option Addr} {n c : Nat} {want b : Int} (h : BoxS w b1 b2 b3 A n c want b) (x : Int) : BoxS (w.setCell ⟨b3, 0, none⟩ (.int .i64 x)) b1 b2 b3 A n c want x :=
  ⟨h.a1.off h.n13 _ _, h.a2.off h.n23 _ _, h.a3.set 0 _, h.n13, h.n23⟩

/-- whether the one at this place is better -/
def better (s : List Int) (want b : Int) (k : Nat) : Bool := decide (b < 0) || decide (Sn.far (s.getD k 0) want < Sn.far (s.getD b.toNat 0) want)

theorem better_yes {s : List Int} {want : Int} {k : Nat} (h : better s want (Sn.best s want k) k = true) : Sn.best s want (k + 1) = k := by
  unfold better at h
  simp only [Bool.or_eq_true, decide_eq_true_eq] at h
  rw [Sn.best, if_pos h]
theorem better_no {s : List Int} {want : Int} {k : Nat} (h : better s want (Sn.best s want k) k = false) : Sn.best s want (k + 1) = Sn.best s want k := by
  unfold better at h
  simp only [Bool.or_eq_false_iff, decide_eq_false_iff_not] at h
  rw [Sn.best, if_neg (by omega)]

theorem best1_any {w : World} {b1 b2 b3 : Nat} {A : Option Addr} {s : List Int} {n c k : Nat} {want b : Int} {r : Bool} (h : BoxS w b1 b2 b3 A n c want b) (hI : Ints w A s) (hl : s.length = n) (hk : k < n) (hb : b < 0 ∨ ∃ j : Nat, j < n ∧ b = j) (hr : better s want b k = r) :
    Calls Try.prog 34 #[.int .i64 (k : Int), .pointer (some ⟨b3, 0, none⟩), .pointer (some ⟨b1, 0, none⟩), .pointer (some ⟨b2, 0, none⟩)] w fun e w' => e = .returned (.bool r) ∧ Below w.heap.size w w' := by
  obtain ⟨a1, a2, a3, _, _⟩ := h
  obtain ⟨l1, c1⟩ := a1.one
  obtain ⟨l2, c2⟩ := a2.one
  obtain ⟨l3, c3⟩ := a3.one
  have hn := hI.1
  rw [hl] at hn
  simp only [maxLen] at hn
  rcases hb with hb | ⟨j, hj, rfl⟩
  · have e1 : decide (b < 0) = true := by simp; omega
    have HR : Hid (true = r) := Lib.hid (by rw [← hr]; unfold better; rw [e1]; rfl)
    clear a1 a2 a3 hr hI
    go_enter Try.func34, Try.ntmps34
    go_upto_region 1 with (fail)
    refine Drawn.wp_region_from (Below.refl _ _) (by kernel_rfl) (by kernel_rfl) (by kernel_rfl) ?_
    (repeat (first | (refine Drawn.seq_skip (by rfl) ?_; (try simp only [Act.put, List.setIfInBounds_toArray, List.set_cons_zero, List.set_cons_succ])) | (refine Drawn.seq_call (o := ⟨_, .call ⟨.value _, _, _⟩, _, _, _, _⟩) (by rfl) (by intro w2 hS; go_simp; first | done | with_reducible rfl | exact ⟨rfl, rfl⟩) (by intro w2 hS; first | ((with_reducible refine (off_any _ _ _).mono ?_); rintro e w' ⟨rfl, rfl⟩; exact ⟨rfl, hS⟩)) ?_; (try simp only [Act.put, List.setIfInBounds_toArray, List.set_cons_zero, List.set_cons_succ])) | (refine Drawn.seq_value (by rfl) (by intro w2 hS; obtain ⟨hc, hf⟩ := bcell hS; go_simp; first | done | with_reducible rfl | exact ⟨rfl, rfl⟩) ?_; (try simp only [Act.put, List.setIfInBounds_toArray, List.set_cons_zero, List.set_cons_succ]))))
    refine Drawn.seq_end ?_; intro w2 hS
    go_wp2
    go_ret
    exact ⟨ret_bool HR.out, hS⟩
  · have e1 : decide ((j : Int) < 0) = false := by simp
    obtain ⟨ba, oa, hA1, la, ca⟩ := hI.at_ (k := k) (by rw [hl]; exact hk)
    obtain ⟨ba', oa', hA2, la', ca'⟩ := hI.at_ (k := j) (by rw [hl]; exact hj)
    rw [hA1] at hA2
    injection hA2 with hA2
    injection hA2 with hA2 hA3
    subst hA2 hA3 hA1
    have HR : Hid (decide (Sn.far (s.getD k 0) want < Sn.far (s.getD j 0) want) = r) := Lib.hid (by rw [← hr]; unfold better; rw [e1]; rfl)
    clear a1 a2 a3 hr hI
    generalize s.getD k 0 = x at *
    generalize s.getD j 0 = y at *
    go_enter Try.func34, Try.ntmps34
    go_upto_region 1 with (fail)
    refine Drawn.wp_region_from (Below.refl _ _) (by kernel_rfl) (by kernel_rfl) (by kernel_rfl) ?_
    (repeat (first | (refine Drawn.seq_skip (by rfl) ?_; (try simp only [Act.put, List.setIfInBounds_toArray, List.set_cons_zero, List.set_cons_succ])) | (refine Drawn.seq_call (o := ⟨_, .call ⟨.value _, _, _⟩, _, _, _, _⟩) (by rfl) (by intro w2 hS; go_simp; first | done | with_reducible rfl | exact ⟨rfl, rfl⟩) (by intro w2 hS; first | ((with_reducible refine (off_any _ _ _).mono ?_); rintro e w' ⟨rfl, rfl⟩; exact ⟨rfl, hS⟩)) ?_; (try simp only [Act.put, List.setIfInBounds_toArray, List.set_cons_zero, List.set_cons_succ])) | (refine Drawn.seq_value (by rfl) (by intro w2 hS; obtain ⟨hc, hf⟩ := bcell hS; go_simp; first | done | with_reducible rfl | exact ⟨rfl, rfl⟩) ?_; (try simp only [Act.put, List.setIfInBounds_toArray, List.set_cons_zero, List.set_cons_succ]))))
    refine Drawn.seq_end ?_; intro w2 hS
    go_wp2
    go_ret
    exact ⟨ret_bool HR.out, hS⟩

theorem box_made (w : World) (A : Option Addr) (n c : Nat) (want : Int) : BoxS (((w.alloc (.cells #[.slice A n c] 39)).alloc (.cells #[.int .i64 want] 3)).alloc (.cells #[.int .i64 (-1)] 3)) w.heap.size (w.heap.size + 1) (w.heap.size + 1 + 1) A n c want (-1) :=
  ⟨At.alloc (At.alloc (At.new _ _) _) _, At.alloc (At.new' _ (by simp)) _, At.new' _ (by simp), by omega, by omega⟩

set_option maxHeartbeats 1000000 in
theorem best_any (A : Option Addr) (s : List Int) (n c : Nat) (want : Int) (w : World) (hI : Ints w A s) (hl : s.length = n) :
    Calls Try.prog 19 #[.slice A n c, .int .i64 want] w fun e w' => e = .returned (.int .i64 (Sn.best s want n)) ∧ Below w.heap.size w w' := by
  have hmf : ∀ (fn : Fn) (first cap : Array Value) (w : World), (Instr.makeFunc fn first cap).run Try.prog w = .ok (.func fn first cap) w := fun _ _ _ _ => rfl
  have hn := hI.1
  rw [hl] at hn
  simp only [maxLen] at hn
  have HI := Lib.hid hI
  have HL := Lib.hid hl
  clear hI hl
  go_enter Try.func19, Try.ntmps19
  go_upto_region 3 with (fail)
  generalize hW : World.alloc (World.alloc (World.alloc _ _) _) _ = W1
  have hX : BoxS W1 w.heap.size (w.heap.size + 1) (w.heap.size + 1 + 1) A n c want (-1) := hW ▸ box_made w A n c want
  have hB : Below w.heap.size w W1 := hW ▸ Below.alloc' (Below.alloc' (Below.alloc' (Below.refl _ _) _) _) _
  clear hW
  have m3 : w.heap.size ≤ w.heap.size + 1 + 1 := by omega
  generalize w.heap.size + 1 + 1 = b3 at *
  generalize w.heap.size + 1 = b2 at *
  obtain ⟨l1, c1⟩ := hX.a1.one
  go_wp2
  go_loopw [11] (fun i wr => ∃ k : Nat, k ≤ n ∧ i = .int .i64 k ∧ BoxS wr w.heap.size b2 b3 A n c want (Sn.best s want k) ∧ Below w.heap.size w wr) (fun i _ => n - (intOf i).toNat)
  case atStart => exact ⟨0, by omega, rfl, hX, hB⟩
  case round =>
    clear l1 c1
    obtain ⟨k, hk, rfl, hx, hB1⟩ := hrel
    by_cases hlt : k < n
    · have hltz : (k : Int) < (n : Int) := by omega
      have hb : Sn.best s want k < 0 ∨ ∃ j : Nat, j < n ∧ Sn.best s want k = j := by
        by_cases h0 : Sn.best s want k < 0
        · exact .inl h0
        · obtain ⟨j, hj, e⟩ := Sn.best_some h0
          exact .inr ⟨j, by omega, e⟩
      cases hr : better s want (Sn.best s want k) k
      · have hc1 := best1_any hx (HI.out.after hB1) HL.out hlt hb hr
        have HE := Lib.hid (better_no hr)
        clear hr hb
        go_wp2_with (go_at_call 34; with_reducible refine hc1.mono ?_; rintro e w2 ⟨rfl, hb2⟩)
        go_roundw
        case rel => exact ⟨k + 1, by omega, by go_num, by rw [HE.out]; exact hx.keep hb2, Below.after hB1 hb2⟩
        case measure => simp [intOf]; omega
      · have hc1 := best1_any hx (HI.out.after hB1) HL.out hlt hb hr
        have HE := Lib.hid (better_yes hr)
        clear hr hb
        go_wp2_with (go_at_call 34; with_reducible refine hc1.mono ?_; rintro e w2 ⟨rfl, hb2⟩; have hx2 := hx.keep hb2; obtain ⟨l3, c3⟩ := hx2.a3.one; have z3 := hx2.a3.thaw 0)
        go_roundw
        case rel => exact ⟨k + 1, by omega, by go_num, by rw [HE.out]; exact hx2.put _, Below.setCell (Below.after hB1 hb2) m3 _⟩
        case measure => simp [intOf]; omega
    · obtain rfl : k = n := by omega
      obtain ⟨l3, c3⟩ := hx.a3.one
      go_wp2
      go_ret
      exact ⟨rfl, hB1⟩

set_option maxHeartbeats 1000000 in
theorem rbest_any (A : Option Addr) (s : List Int) (n c : Nat) (want : Int) (w : World) (hI : Ints w A s) (hl : s.length = n) :
    Calls Try.prog 20 #[.slice A n c, .int .i64 want] w fun e w' => e = .returned (.int .i64 (Sn.best s want n)) ∧ Below w.heap.size w w' := by
  have hn := hI.1
  rw [hl] at hn
  simp only [maxLen] at hn
  have HI := Lib.hid hI
  have HL := Lib.hid hl
  clear hI hl
  go_enter Try.func20, Try.ntmps20
  go_wp2
  go_loopw [5, 6] (fun b i wr => ∃ k : Nat, k ≤ n ∧ i = .int .i64 k ∧ b = .int .i64 (Sn.best s want k) ∧ Below w.heap.size w wr) (fun _ i _ => n - (intOf i).toNat)
  case atStart => exact ⟨0, by omega, rfl, rfl, Below.refl _ _⟩
  case round =>
    obtain ⟨k, hk, rfl, rfl, hB1⟩ := hrel
    by_cases hlt : k < n
    · have hltz : (k : Int) < (n : Int) := by omega
      have hI := HI.out.after hB1
      by_cases h0 : Sn.best s want k < 0
      · have HE := Lib.hid (show Sn.best s want (k + 1) = k by rw [Sn.best, if_pos (.inl h0)])
        have e1 : decide (Sn.best s want k < 0) = true := by simp; omega
        clear hI
        generalize Sn.best s want k = q at *
        go_upto_region 5 with (fail)
        refine Drawn.wp_region_from (Below.refl _ _) (by kernel_rfl) (by kernel_rfl) (by kernel_rfl) ?_
        (repeat (first | (refine Drawn.seq_skip (by rfl) ?_; (try simp only [Act.put, List.setIfInBounds_toArray, List.set_cons_zero, List.set_cons_succ])) | (refine Drawn.seq_call (o := ⟨_, .call ⟨.value _, _, _⟩, _, _, _, _⟩) (by rfl) (by intro w2 hS; go_simp; first | done | with_reducible rfl | exact ⟨rfl, rfl⟩) (by intro w2 hS; first | ((with_reducible refine (rfar_any _ _ _).mono ?_); rintro e w' ⟨rfl, rfl⟩; exact ⟨rfl, hS⟩)) ?_; (try simp only [Act.put, List.setIfInBounds_toArray, List.set_cons_zero, List.set_cons_succ])) | (refine Drawn.seq_value (by rfl) (by intro w2 hS; obtain ⟨hc, hf⟩ := bcell hS; go_simp; first | done | with_reducible rfl | exact ⟨rfl, rfl⟩) ?_; (try simp only [Act.put, List.setIfInBounds_toArray, List.set_cons_zero, List.set_cons_succ]))))
        refine Drawn.seq_end ?_; intro w2 hS
        go_wp2
        go_roundw
        case rel => exact ⟨k + 1, by omega, by go_num, by rw [HE.out], Below.after hB1 hS⟩
        case measure => simp [intOf]; omega
      · obtain ⟨j, hjk, hj⟩ := Sn.best_some h0
        obtain ⟨ba, oa, hA1, la, ca⟩ := hI.at_ (k := k) (by rw [HL.out]; exact hlt)
        obtain ⟨ba', oa', hA2, la', ca'⟩ := hI.at_ (k := j) (by rw [HL.out]; omega)
        rw [hA1] at hA2
        injection hA2 with hA2
        injection hA2 with hA2 hA3
        subst hA2 hA3 hA1
        have e1 : decide ((j : Int) < 0) = false := by simp
        have hjn : (j : Int) < (n : Int) := by omega
        by_cases hf : Sn.far (s.getD k 0) want < Sn.far (s.getD j 0) want
        · have HE := Lib.hid (Sn.best_nearer hj hf)
          have e2 : decide (Sn.far (s.getD k 0) want < Sn.far (s.getD j 0) want) = true := decide_eq_true hf
          rw [hj]
          clear hI h0 hj hf
          generalize s.getD k 0 = x at *
          generalize s.getD j 0 = y at *
          go_upto_region 5 with (fail)
          refine Drawn.wp_region_from (Below.refl _ _) (by kernel_rfl) (by kernel_rfl) (by kernel_rfl) ?_
          (repeat (first | (refine Drawn.seq_skip (by rfl) ?_; (try simp only [Act.put, List.setIfInBounds_toArray, List.set_cons_zero, List.set_cons_succ])) | (refine Drawn.seq_call (o := ⟨_, .call ⟨.value _, _, _⟩, _, _, _, _⟩) (by rfl) (by intro w2 hS; go_simp; first | done | with_reducible rfl | exact ⟨rfl, rfl⟩) (by intro w2 hS; first | ((with_reducible refine (rfar_any _ _ _).mono ?_); rintro e w' ⟨rfl, rfl⟩; exact ⟨rfl, hS⟩)) ?_; (try simp only [Act.put, List.setIfInBounds_toArray, List.set_cons_zero, List.set_cons_succ])) | (refine Drawn.seq_value (by rfl) (by intro w2 hS; obtain ⟨hc, hf⟩ := bcell hS; go_simp; first | done | with_reducible rfl | exact ⟨rfl, rfl⟩) ?_; (try simp only [Act.put, List.setIfInBounds_toArray, List.set_cons_zero, List.set_cons_succ]))))
          refine Drawn.seq_end ?_; intro w2 hS
          go_wp2
          go_roundw
          case rel => exact ⟨k + 1, by omega, by go_num, by rw [HE.out], Below.after hB1 hS⟩
          case measure => simp [intOf]; omega
        · have HE := Lib.hid (Sn.best_not hj hf)
          have e2 : decide (Sn.far (s.getD k 0) want < Sn.far (s.getD j 0) want) = false := decide_eq_false hf
          rw [hj]
          clear hI h0 hj hf
          generalize s.getD k 0 = x at *
          generalize s.getD j 0 = y at *
          go_upto_region 5 with (fail)
          refine Drawn.wp_region_from (Below.refl _ _) (by kernel_rfl) (by kernel_rfl) (by kernel_rfl) ?_
          (repeat (first | (refine Drawn.seq_skip (by rfl) ?_; (try simp only [Act.put, List.setIfInBounds_toArray, List.set_cons_zero, List.set_cons_succ])) | (refine Drawn.seq_call (o := ⟨_, .call ⟨.value _, _, _⟩, _, _, _, _⟩) (by rfl) (by intro w2 hS; go_simp; first | done | with_reducible rfl | exact ⟨rfl, rfl⟩) (by intro w2 hS; first | ((with_reducible refine (rfar_any _ _ _).mono ?_); rintro e w' ⟨rfl, rfl⟩; exact ⟨rfl, hS⟩)) ?_; (try simp only [Act.put, List.setIfInBounds_toArray, List.set_cons_zero, List.set_cons_succ])) | (refine Drawn.seq_value (by rfl) (by intro w2 hS; obtain ⟨hc, hf⟩ := bcell hS; go_simp; first | done | with_reducible rfl | exact ⟨rfl, rfl⟩) ?_; (try simp only [Act.put, List.setIfInBounds_toArray, List.set_cons_zero, List.set_cons_succ]))))
          refine Drawn.seq_end ?_; intro w2 hS
          go_wp2
          go_roundw
          case rel => exact ⟨k + 1, by omega, by go_num, by rw [HE.out], Below.after hB1 hS⟩
          case measure => simp [intOf]; omega
    · obtain rfl : k = n := by omega
      go_wp2
      go_ret
      exact ⟨rfl, hB1⟩

end Go.Proofs.Ytlmpkpjonkdaiaa.Fix
