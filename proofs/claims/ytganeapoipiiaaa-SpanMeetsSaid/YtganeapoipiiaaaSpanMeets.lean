/- SpanMeets: it returns true, and leaves all that was there as it was. -/
import Derived.Test.YtganeapoipiiaaaSpanLaws
import Derived.Test.YtganeapoipiiaaaSpanMore
import Derived.Deep.Cut
import Derived.IntWalk
namespace Go.Proofs.Ytganeapoipiiaaa.Fix
open Go.ChangeShapes Go.WideShapes Go.ChangeAt Go.RowKit
set_option linter.unusedVariables false

theorem named (x : Int) : ∃ p, x = p := ⟨x, rfl⟩

set_option maxRecDepth 100000 in
set_option maxHeartbeats 8000000 in
theorem meets_walk (a b c d e f n : Int) (w : World) : Calls Try.prog 4 #[.agg #[.int .i64 a, .int .i64 b], .agg #[.int .i64 c, .int .i64 d], .agg #[.int .i64 e, .int .i64 f], .int .i64 n] w fun e w' => e = .returned (.bool true) ∧ Below w.heap.size w w' := by
  have q0 := run_eql_span
  have r1 := Fx.meetLo_comm a b c d
  have r2 := Fx.meetHi_comm a b c d
  have r3 := Fx.joinLo_comm a b c d
  have r4 := Fx.joinHi_comm a b c d
  obtain ⟨r5, r6⟩ := Fx.meet_assoc a b c d e f
  obtain ⟨r7, r8⟩ := Fx.join_assoc a b c d e f
  have s1 := Fx.meet_in a b c d
  have s2 := Fx.meet_in' a b c d
  have s3 := Fx.in_join a b c d
  have s4 := Fx.in_join' a b c d
  have s5 := Fx.has_meet a b c d n
  have s6 := @Fx.has_join a b c d n
  obtain ⟨p1, hp1⟩ := named (Fx.meetLo a b c d)
  obtain ⟨p2, hp2⟩ := named (Fx.meetHi a b c d)
  obtain ⟨j1, hj1⟩ := named (Fx.joinLo a b c d)
  obtain ⟨j2, hj2⟩ := named (Fx.joinHi a b c d)
  obtain ⟨x1, hx1⟩ := named (Fx.meetLo c d e f)
  obtain ⟨x2, hx2⟩ := named (Fx.meetHi c d e f)
  obtain ⟨y1, hy1⟩ := named (Fx.joinLo c d e f)
  obtain ⟨y2, hy2⟩ := named (Fx.joinHi c d e f)
  rw [hp1] at r1 r5 r6 s1 s2 s5
  rw [hp2] at r2 r5 r6 s1 s2 s5
  rw [hj1] at r3 r7 r8 s3 s4 s6
  rw [hj2] at r4 r7 r8 s3 s4 s6
  rw [hx1, hx2] at r5 r6
  rw [hy1, hy2] at r7 r8
  have s5 := Lib.hid s5
  have s6 := Lib.hid s6
  go_enter Try.func4, Try.ntmps4
  go_upto_region 1 with (fail)
  (generalize hW : World.alloc (World.alloc (World.alloc w _) _) _ = W0; have A0 : At W0 (w.heap.size) (.cells #[.int .i64 a, .int .i64 b] 23) := (by ((rw [← hW]) <;> exact At.alloc (At.alloc (At.new' _ (by first | done | rfl | simp)) _) _)); have A1 : At W0 (w.heap.size + 1) (.cells #[.int .i64 c, .int .i64 d] 23) := (by ((rw [← hW]) <;> exact At.alloc (At.new' _ (by first | done | rfl | simp)) _)); have A2 : At W0 (w.heap.size + 1 + 1) (.cells #[.int .i64 e, .int .i64 f] 23) := (by ((rw [← hW]) <;> exact At.new' _ (by first | done | rfl | simp))); have hB : Below w.heap.size w W0 := (by ((rw [← hW]) <;> exact Below.alloc' (Below.alloc' (Below.alloc' (Below.refl _ _) _) _) _)); clear hW; obtain ⟨l0, c0_0, c0_1⟩ := At.two A0; obtain ⟨l1, c1_0, c1_1⟩ := At.two A1; obtain ⟨l2, c2_0, c2_1⟩ := At.two A2)
  go_upto_region 5 with (first | (go_at_call 8; (with_reducible refine (sworks_any _).mono ?_); rintro e w' ⟨rfl, hb⟩; (clear l0 c0_0 c0_1 l1 c1_0 c1_1 l2 c2_0 c2_1); (replace hB := Below.after2 (by first | exact hB | exact Below.alloc' hB _ | exact Below.alloc' (Below.alloc' hB _) _) (Nat.le_refl _) hb); replace A0 := At.keep (by first | exact A0 | exact At.alloc A0 _ | exact At.alloc (At.alloc A0 _) _) hb; replace A1 := At.keep (by first | exact A1 | exact At.alloc A1 _ | exact At.alloc (At.alloc A1 _) _) hb; replace A2 := At.keep (by first | exact A2 | exact At.alloc A2 _ | exact At.alloc (At.alloc A2 _) _) hb; clear hb; obtain ⟨l0, c0_0, c0_1⟩ := At.two A0; obtain ⟨l1, c1_0, c1_1⟩ := At.two A1; obtain ⟨l2, c2_0, c2_1⟩ := At.two A2) | (go_at_call 13; (with_reducible refine (meet_any _ _ _ _ _).mono ?_); rintro e w' ⟨rfl, hb⟩; (clear l0 c0_0 c0_1 l1 c1_0 c1_1 l2 c2_0 c2_1); (replace hB := Below.after2 (by first | exact hB | exact Below.alloc' hB _ | exact Below.alloc' (Below.alloc' hB _) _) (Nat.le_refl _) hb); replace A0 := At.keep (by first | exact A0 | exact At.alloc A0 _ | exact At.alloc (At.alloc A0 _) _) hb; replace A1 := At.keep (by first | exact A1 | exact At.alloc A1 _ | exact At.alloc (At.alloc A1 _) _) hb; replace A2 := At.keep (by first | exact A2 | exact At.alloc A2 _ | exact At.alloc (At.alloc A2 _) _) hb; clear hb; obtain ⟨l0, c0_0, c0_1⟩ := At.two A0; obtain ⟨l1, c1_0, c1_1⟩ := At.two A1; obtain ⟨l2, c2_0, c2_1⟩ := At.two A2))
  (generalize hW : World.alloc _ _ = W1; clear l0 c0_0 c0_1 l1 c1_0 c1_1 l2 c2_0 c2_1; have A3 : At W1 _ _ := hW ▸ At.new _ _; replace A0 : At W1 _ _ := hW ▸ At.alloc A0 _; replace A1 : At W1 _ _ := hW ▸ At.alloc A1 _; replace A2 : At W1 _ _ := hW ▸ At.alloc A2 _; replace hB : Below w.heap.size w W1 := hW ▸ Below.alloc' hB _; clear hW; obtain ⟨l0, c0_0, c0_1⟩ := At.two A0; obtain ⟨l1, c1_0, c1_1⟩ := At.two A1; obtain ⟨l2, c2_0, c2_1⟩ := At.two A2; obtain ⟨l3, c3_0, c3_1⟩ := At.two A3)
  go_upto_region 6 with (first | (go_at_call 15; (with_reducible refine (join_any _ _ _ _ _).mono ?_); rintro e w' ⟨rfl, hb⟩; (clear l0 c0_0 c0_1 l1 c1_0 c1_1 l2 c2_0 c2_1 l3 c3_0 c3_1); (replace hB := Below.after2 (by first | exact hB | exact Below.alloc' hB _ | exact Below.alloc' (Below.alloc' hB _) _) (Nat.le_refl _) hb); replace A0 := At.keep (by first | exact A0 | exact At.alloc A0 _ | exact At.alloc (At.alloc A0 _) _) hb; replace A1 := At.keep (by first | exact A1 | exact At.alloc A1 _ | exact At.alloc (At.alloc A1 _) _) hb; replace A2 := At.keep (by first | exact A2 | exact At.alloc A2 _ | exact At.alloc (At.alloc A2 _) _) hb; replace A3 := At.keep (by first | exact A3 | exact At.alloc A3 _ | exact At.alloc (At.alloc A3 _) _) hb; clear hb; obtain ⟨l0, c0_0, c0_1⟩ := At.two A0; obtain ⟨l1, c1_0, c1_1⟩ := At.two A1; obtain ⟨l2, c2_0, c2_1⟩ := At.two A2; obtain ⟨l3, c3_0, c3_1⟩ := At.two A3))
  (generalize hW : World.alloc _ _ = W2; clear l0 c0_0 c0_1 l1 c1_0 c1_1 l2 c2_0 c2_1 l3 c3_0 c3_1; have A4 : At W2 _ _ := hW ▸ At.new _ _; replace A0 : At W2 _ _ := hW ▸ At.alloc A0 _; replace A1 : At W2 _ _ := hW ▸ At.alloc A1 _; replace A2 : At W2 _ _ := hW ▸ At.alloc A2 _; replace A3 : At W2 _ _ := hW ▸ At.alloc A3 _; replace hB : Below w.heap.size w W2 := hW ▸ Below.alloc' hB _; clear hW; obtain ⟨l0, c0_0, c0_1⟩ := At.two A0; obtain ⟨l1, c1_0, c1_1⟩ := At.two A1; obtain ⟨l2, c2_0, c2_1⟩ := At.two A2; obtain ⟨l3, c3_0, c3_1⟩ := At.two A3; obtain ⟨l4, c4_0, c4_1⟩ := At.two A4)
  refine Drawn.wp_region_from (Below.refl _ _) (by kernel_rfl) (by kernel_rfl) (by kernel_rfl) ?_
  (repeat (first | (refine Drawn.seq_skip (by rfl) ?_; (try simp only [Act.put, List.setIfInBounds_toArray, List.set_cons_zero, List.set_cons_succ])) | (refine Drawn.seq_call (o := ⟨_, .call ⟨.value _, _, _⟩, _, _, _, _⟩) (by rfl) (by intro w2 hS; go_simp; first | done | with_reducible rfl | exact ⟨rfl, rfl⟩) (by intro w2 hS; first | ((with_reducible refine (meet_any _ _ _ _ _).mono ?_); rintro e w' ⟨rfl, hb⟩; exact ⟨rfl, Below.after hS hb⟩) | ((with_reducible refine (join_any _ _ _ _ _).mono ?_); rintro e w' ⟨rfl, hb⟩; exact ⟨rfl, Below.after hS hb⟩)) ?_; (try simp only [Act.put, List.setIfInBounds_toArray, List.set_cons_zero, List.set_cons_succ])) | (refine Drawn.seq_value (by rfl) (by intro w2 hS; obtain ⟨hc, hf⟩ := bcell hS; go_simp; first | done | with_reducible rfl | exact ⟨rfl, rfl⟩) ?_; (try simp only [Act.put, List.setIfInBounds_toArray, List.set_cons_zero, List.set_cons_succ]))))
  refine Drawn.seq_end ?_; intro w2 hS
  (clear l0 c0_0 c0_1 l1 c1_0 c1_1 l2 c2_0 c2_1 l3 c3_0 c3_1 l4 c4_0 c4_1); (replace hB := Below.after2 (by first | exact hB | exact Below.alloc' hB _ | exact Below.alloc' (Below.alloc' hB _) _) (Nat.le_refl _) hS); replace A0 := At.keep (by first | exact A0 | exact At.alloc A0 _ | exact At.alloc (At.alloc A0 _) _) hS; replace A1 := At.keep (by first | exact A1 | exact At.alloc A1 _ | exact At.alloc (At.alloc A1 _) _) hS; replace A2 := At.keep (by first | exact A2 | exact At.alloc A2 _ | exact At.alloc (At.alloc A2 _) _) hS; replace A3 := At.keep (by first | exact A3 | exact At.alloc A3 _ | exact At.alloc (At.alloc A3 _) _) hS; replace A4 := At.keep (by first | exact A4 | exact At.alloc A4 _ | exact At.alloc (At.alloc A4 _) _) hS; clear hS; obtain ⟨l0, c0_0, c0_1⟩ := At.two A0; obtain ⟨l1, c1_0, c1_1⟩ := At.two A1; obtain ⟨l2, c2_0, c2_1⟩ := At.two A2; obtain ⟨l3, c3_0, c3_1⟩ := At.two A3; obtain ⟨l4, c4_0, c4_1⟩ := At.two A4
  clear r1 r2 r3 r4 r5 r6 r7 r8 hp1 hp2 hj1 hj2 hx1 hx2 hy1 hy2
  go_upto_region 7 with (fail)
  cases hx : Fx.has a b n with
  | false =>
    have s7 := s5.out
    rw [hx, Bool.false_and] at s7
    refine Drawn.wp_region_from (Below.refl _ _) (by kernel_rfl) (by kernel_rfl) (by kernel_rfl) ?_
    (repeat (first | (refine Drawn.seq_skip (by rfl) ?_; (try simp only [Act.put, List.setIfInBounds_toArray, List.set_cons_zero, List.set_cons_succ])) | (refine Drawn.seq_call (o := ⟨_, .call ⟨.value _, _, _⟩, _, _, _, _⟩) (by rfl) (by intro w2 hS; go_simp; first | done | with_reducible rfl | exact ⟨rfl, rfl⟩) (by intro w2 hS; first | ((with_reducible refine (in_any _ _ _ _ _).mono ?_); rintro e w' ⟨rfl, hb⟩; exact ⟨rfl, Below.after hS hb⟩) | ((with_reducible refine (has_any _ _ _ _).mono ?_); rintro e w' ⟨rfl, hb⟩; exact ⟨rfl, Below.after hS hb⟩)) ?_; (try simp only [Act.put, List.setIfInBounds_toArray, List.set_cons_zero, List.set_cons_succ])) | (refine Drawn.seq_value (by rfl) (by intro w2 hS; obtain ⟨hc, hf⟩ := bcell hS; go_simp; first | done | with_reducible rfl | exact ⟨rfl, rfl⟩) ?_; (try simp only [Act.put, List.setIfInBounds_toArray, List.set_cons_zero, List.set_cons_succ]))))
    refine Drawn.seq_end ?_; intro w2 hS
    go_wp2
    go_ret
    exact ⟨rfl, Below.after2 hB (Nat.le_refl _) hS⟩
  | true =>
    have s8 := s6.out hx
    cases hy : Fx.has c d n with
    | false =>
      have s7 := s5.out
      rw [hx, hy, Bool.and_false] at s7
      refine Drawn.wp_region_from (Below.refl _ _) (by kernel_rfl) (by kernel_rfl) (by kernel_rfl) ?_
      (repeat (first | (refine Drawn.seq_skip (by rfl) ?_; (try simp only [Act.put, List.setIfInBounds_toArray, List.set_cons_zero, List.set_cons_succ])) | (refine Drawn.seq_call (o := ⟨_, .call ⟨.value _, _, _⟩, _, _, _, _⟩) (by rfl) (by intro w2 hS; go_simp; first | done | with_reducible rfl | exact ⟨rfl, rfl⟩) (by intro w2 hS; first | ((with_reducible refine (in_any _ _ _ _ _).mono ?_); rintro e w' ⟨rfl, hb⟩; exact ⟨rfl, Below.after hS hb⟩) | ((with_reducible refine (has_any _ _ _ _).mono ?_); rintro e w' ⟨rfl, hb⟩; exact ⟨rfl, Below.after hS hb⟩)) ?_; (try simp only [Act.put, List.setIfInBounds_toArray, List.set_cons_zero, List.set_cons_succ])) | (refine Drawn.seq_value (by rfl) (by intro w2 hS; obtain ⟨hc, hf⟩ := bcell hS; go_simp; first | done | with_reducible rfl | exact ⟨rfl, rfl⟩) ?_; (try simp only [Act.put, List.setIfInBounds_toArray, List.set_cons_zero, List.set_cons_succ]))))
      refine Drawn.seq_end ?_; intro w2 hS
      go_wp2
      go_ret
      exact ⟨rfl, Below.after2 hB (Nat.le_refl _) hS⟩
    | true =>
      have s7 := s5.out
      rw [hx, hy, Bool.and_true] at s7
      refine Drawn.wp_region_from (Below.refl _ _) (by kernel_rfl) (by kernel_rfl) (by kernel_rfl) ?_
      (repeat (first | (refine Drawn.seq_skip (by rfl) ?_; (try simp only [Act.put, List.setIfInBounds_toArray, List.set_cons_zero, List.set_cons_succ])) | (refine Drawn.seq_call (o := ⟨_, .call ⟨.value _, _, _⟩, _, _, _, _⟩) (by rfl) (by intro w2 hS; go_simp; first | done | with_reducible rfl | exact ⟨rfl, rfl⟩) (by intro w2 hS; first | ((with_reducible refine (in_any _ _ _ _ _).mono ?_); rintro e w' ⟨rfl, hb⟩; exact ⟨rfl, Below.after hS hb⟩) | ((with_reducible refine (has_any _ _ _ _).mono ?_); rintro e w' ⟨rfl, hb⟩; exact ⟨rfl, Below.after hS hb⟩)) ?_; (try simp only [Act.put, List.setIfInBounds_toArray, List.set_cons_zero, List.set_cons_succ])) | (refine Drawn.seq_value (by rfl) (by intro w2 hS; obtain ⟨hc, hf⟩ := bcell hS; go_simp; first | done | with_reducible rfl | exact ⟨rfl, rfl⟩) ?_; (try simp only [Act.put, List.setIfInBounds_toArray, List.set_cons_zero, List.set_cons_succ]))))
      refine Drawn.seq_end ?_; intro w2 hS
      go_wp2
      go_ret
      exact ⟨rfl, Below.after2 hB (Nat.le_refl _) hS⟩

end Go.Proofs.Ytganeapoipiiaaa.Fix
