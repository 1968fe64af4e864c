/- SpanMoves and SpanFits: each returns true, and leaves all that was there as it was. -/
import Derived.Test.YtganeapoipiiaaaSpanLaws
import Derived.Deep.Cut
import Derived.IntWalk
namespace Go.Proofs.Ytganeapoipiiaaa.Fix
open Go.ChangeShapes Go.WideShapes Go.ChangeAt Go.RowKit
set_option linter.unusedVariables false

set_option maxHeartbeats 4000000 in
theorem moves_walk (a s d n : Int) (w : World) : Calls Try.prog 6 #[.int .i64 a, .int .i64 s, .int .i64 d, .int .i64 n] w fun e w' => e = .returned (.bool true) ∧ Below w.heap.size w w' := by
  have q := run_eql_span
  by_cases h : (-1073741824 ≤ a ∧ a ≤ 1073741824) ∧ (0 ≤ s ∧ s ≤ 1073741824) ∧ (-1073741824 ≤ d ∧ d ≤ 1073741824) ∧ (-1073741824 ≤ n ∧ n ≤ 1073741824)
  · obtain ⟨⟨a1, a2⟩, ⟨s1, s2⟩, ⟨d1, d2⟩, ⟨n1, n2⟩⟩ := h
    have e1 : Fx.cut a = a := Fx.cut_id (by omega) (by omega)
    have e2 : Fx.mx s 0 = s := Fx.mx_zero s1
    have e3 : Fx.add a s = a + s := Fx.add_plain (by omega) (by omega) (by omega) (by omega)
    have e4 : Fx.add a d = a + d := Fx.add_plain (by omega) (by omega) (by omega) (by omega)
    have e5 : Fx.add (a + s) d = a + s + d := Fx.add_plain (by omega) (by omega) (by omega) (by omega)
    have e6 : Fx.size (a + d) (a + s + d) = s := by rw [Fx.size_plain (by omega) (by omega) (by omega)]; omega
    have e7 : Fx.size a (a + s) = s := by rw [Fx.size_plain (by omega) (by omega) (by omega)]; omega
    have e8 : Fx.add (a + d) (-d) = a := by rw [Fx.add_plain (by omega) (by omega) (by omega) (by omega)]; omega
    have e9 : Fx.add (a + s + d) (-d) = a + s := by rw [Fx.add_plain (by omega) (by omega) (by omega) (by omega)]; omega
    have e10 : Fx.has (a + d) (a + s + d) (n + d) = Fx.has a (a + s) n := by rw [Bool.eq_iff_iff, Fx.has_iff, Fx.has_iff]; omega
    have e11 : Fx.clamp (n + d) (a + d) (a + s + d) = Fx.clamp n a (a + s) + d := by
      rw [Fx.clamp_plain (by omega) (by omega) (by omega) (by omega) (by omega), Fx.clamp_plain (by omega) (by omega) (by omega) (by omega) (by omega)]
      (repeat' split) <;> omega
    have b1 : -1073741824 ≤ Fx.clamp n a (a + s) := by
      rw [Fx.clamp_plain (by omega) (by omega) (by omega) (by omega) (by omega)]
      (repeat' split) <;> omega
    have b2 : Fx.clamp n a (a + s) ≤ 2147483648 := by
      rw [Fx.clamp_plain (by omega) (by omega) (by omega) (by omega) (by omega)]
      (repeat' split) <;> omega
    go_enter Try.func6, Try.ntmps6
    go_upto_region 7 with (first | (go_at_call 8; (with_reducible refine (sworks_any _).mono ?_); rintro e w' ⟨rfl, hb⟩; (try replace hb := Below.after (by assumption) hb); obtain ⟨hc, hf⟩ := bcell hb; have hz := hb.size; (try simp at hz)) | (go_at_call 9; (with_reducible refine (of_span _ _ _).mono ?_); rintro e w' ⟨rfl, hb⟩; (try replace hb := Below.after (by assumption) hb); obtain ⟨hc, hf⟩ := bcell hb; have hz := hb.size; (try simp at hz)))
    have hB := hb
    clear hb hc hf hz
    (generalize hW : World.alloc _ _ = W1; have A0 : At W1 _ _ := hW ▸ At.new _ _; replace hB : Below w.heap.size w W1 := hW ▸ Below.alloc' hB _; clear hW; obtain ⟨l0, c0_0, c0_1⟩ := At.two A0)
    go_upto_region 8 with (first | (go_at_call 21; (with_reducible refine (move_any _ _ _ _).mono ?_); rintro e w' ⟨rfl, hb⟩; (clear l0 c0_0 c0_1); (replace hB := Below.after2 (by first | exact hB | exact Below.alloc' hB _ | exact Below.alloc' (Below.alloc' hB _) _) (Nat.le_refl _) hb); replace A0 := At.keep (by first | exact A0 | exact At.alloc A0 _ | exact At.alloc (At.alloc A0 _) _) hb; clear hb; obtain ⟨l0, c0_0, c0_1⟩ := At.two A0))
    (generalize hW : World.alloc _ _ = W2; clear l0 c0_0 c0_1; have A1 : At W2 _ _ := hW ▸ At.new _ _; replace A0 : At W2 _ _ := hW ▸ At.alloc A0 _; replace hB : Below w.heap.size w W2 := hW ▸ Below.alloc' hB _; clear hW; obtain ⟨l0, c0_0, c0_1⟩ := At.two A0; obtain ⟨l1, c1_0, c1_1⟩ := At.two A1)
    have f1 : IntKind.i64.wrap (-d) = -d := IntWalk.i64_in _ (by omega)
    have f2 : IntKind.i64.wrap (n + d) = n + d := IntWalk.i64_in _ (by omega)
    have f3 : IntKind.i64.wrap (Fx.clamp n a (a + s) + d) = Fx.clamp n a (a + s) + d := IntWalk.i64_in _ (by omega)
    refine Drawn.wp_region_from (Below.refl _ _) (by kernel_rfl) (by kernel_rfl) (by kernel_rfl) ?_
    (repeat (first | (refine Drawn.seq_skip (by rfl) ?_; (try simp only [Act.put, List.setIfInBounds_toArray, List.set_cons_zero, List.set_cons_succ])) | (refine Drawn.seq_call (o := ⟨_, .call ⟨.value _, _, _⟩, _, _, _, _⟩) (by rfl) (by intro w2 hS; go_simp; first | done | with_reducible rfl | exact ⟨rfl, rfl⟩) (by intro w2 hS; first | ((with_reducible refine (size_any _ _ _).mono ?_); rintro e w' ⟨rfl, hb⟩; exact ⟨rfl, Below.after hS hb⟩) | ((with_reducible refine (move_any _ _ _ _).mono ?_); rintro e w' ⟨rfl, hb⟩; exact ⟨rfl, Below.after hS hb⟩) | ((with_reducible refine (has_any _ _ _ _).mono ?_); rintro e w' ⟨rfl, hb⟩; exact ⟨rfl, Below.after hS hb⟩) | ((with_reducible refine (near_any _ _ _ _).mono ?_); rintro e w' ⟨rfl, hb⟩; exact ⟨rfl, Below.after hS hb⟩)) ?_; (try simp only [Act.put, List.setIfInBounds_toArray, List.set_cons_zero, List.set_cons_succ])) | (refine Drawn.seq_value (by rfl) (by intro w2 hS; obtain ⟨hc, hf⟩ := bcell hS; go_simp; first | done | with_reducible rfl | exact ⟨rfl, rfl⟩) ?_; (try simp only [Act.put, List.setIfInBounds_toArray, List.set_cons_zero, List.set_cons_succ]))))
    refine Drawn.seq_end ?_; intro w2 hS
    go_wp2
    go_ret
    exact ⟨rfl, Below.after2 hB (Nat.le_refl _) hS⟩
  · have H := Lib.hid h
    clear h
    go_enter Try.func6, Try.ntmps6
    go_upto_region 6 with (first | (go_at_call 8; (with_reducible refine (sworks_any _).mono ?_); rintro e w' ⟨rfl, hb⟩; (try replace hb := Below.after (by assumption) hb); obtain ⟨hc, hf⟩ := bcell hb; have hz := hb.size; (try simp at hz)))
    all_goals first
      | (go_ret; exact ⟨rfl, hb⟩)
      | (exfalso; exact H.out ⟨⟨by omega, by omega⟩, ⟨by omega, by omega⟩, ⟨by omega, by omega⟩, ⟨by omega, by omega⟩⟩)

end Go.Proofs.Ytganeapoipiiaaa.Fix
