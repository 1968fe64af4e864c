/- SpanFits: it returns true, and leaves all that was there as it was. -/
import Derived.Test.YtganeapoipiiaaaSpanFits
import Derived.Deep.Cut
import Derived.IntWalk
namespace Go.Proofs.Ytganeapoipiiaaa.Fix
open Go.ChangeShapes Go.WideShapes Go.ChangeAt Go.RowKit
set_option linter.unusedVariables false

set_option maxRecDepth 100000 in
set_option maxHeartbeats 8000000 in
theorem fits_in (a s c d n : Int) (w : World) (h : ((-1073741824 ≤ a ∧ a ≤ 1073741824) ∧ (0 ≤ s ∧ s ≤ 1073741824)) ∧ (-1073741824 ≤ c ∧ d ≤ 1073741824 ∧ c ≤ d) ∧ (-4294967296 ≤ n ∧ n ≤ 4294967296)) (hA : ¬ d - c < s) : Calls Try.prog 5 #[.int .i64 a, .int .i64 s, .agg #[.int .i64 c, .int .i64 d], .int .i64 n] w fun e w' => e = .returned (.bool true) ∧ Below w.heap.size w w' := by
  obtain ⟨⟨⟨a1, a2⟩, ⟨s1, s2⟩⟩, ⟨c1, d1, c2⟩, ⟨n1, n2⟩⟩ := h
  have e1 : Fx.cut a = a := Fx.cut_id (by omega) (by omega)
  have e2 : Fx.mx s 0 = s := Fx.mx_zero s1
  have e3 : Fx.add a s = a + s := Fx.add_plain (by omega) (by omega) (by omega) (by omega)
  have ef := Fx.fit_plain (a := a) (b := a + s) (c := c) (d := d) (by omega) (by omega) (by omega) (by omega) (by omega) (by omega)
  obtain ⟨f, e4, f1, f2, l1, l2, hf⟩ : ∃ f, Fx.fit a (a + s) c d = f ∧ -4294967296 ≤ f ∧ f ≤ 4294967296 ∧ c ≤ a + f ∧ a + s + f ≤ d ∧ (f = 0 ∨ (0 < f ∧ a + f ≤ c) ∨ (f < 0 ∧ d ≤ a + s + f)) := by
    rw [ef]
    refine ⟨_, rfl, ?_⟩
    (repeat' split) <;> omega
  clear ef
  have e5 : Fx.add a f = a + f := Fx.add_plain (by omega) (by omega) (by omega) (by omega)
  have e6 : Fx.add (a + s) f = a + s + f := Fx.add_plain (by omega) (by omega) (by omega) (by omega)
  have e7 : Fx.add a n = a + n := Fx.add_plain (by omega) (by omega) (by omega) (by omega)
  have e8 : Fx.add (a + s) n = a + s + n := Fx.add_plain (by omega) (by omega) (by omega) (by omega)
  have e9 : Fx.size (a + f) (a + s + f) = s := by rw [Fx.size_plain (by omega) (by omega) (by omega)]; omega
  have e10 : Fx.fit (a + f) (a + s + f) c d = 0 := by rw [Fx.fit_plain (by omega) (by omega) (by omega) (by omega) (by omega) (by omega), if_pos ⟨l1, l2⟩]
  have hA' : s ≤ d - c := by omega
  have Hf := Lib.hid hf
  clear hf hA
  go_enter Try.func5, Try.ntmps5
  go_upto_region 1 with (fail)
  have hB := Below.refl w.heap.size w
  (generalize hW : World.alloc _ _ = W0; have A0 : At W0 _ _ := hW ▸ At.new _ _; replace hB : Below w.heap.size w W0 := hW ▸ Below.alloc' hB _; clear hW; obtain ⟨l0, c0_0, c0_1⟩ := At.two A0)
  go_upto_region 7 with (first | (go_at_call 8; (with_reducible refine (sworks_any _).mono ?_); rintro e w' ⟨rfl, hb⟩; (clear l0 c0_0 c0_1); (replace hB := Below.after2 (by first | exact hB | exact Below.alloc' hB _ | exact Below.alloc' (Below.alloc' hB _) _) (Nat.le_refl _) hb); replace A0 := At.keep (by first | exact A0 | exact At.alloc A0 _ | exact At.alloc (At.alloc A0 _) _) hb; clear hb; obtain ⟨l0, c0_0, c0_1⟩ := At.two A0) | (go_at_call 9; (with_reducible refine (of_span _ _ _).mono ?_); rintro e w' ⟨rfl, hb⟩; (clear l0 c0_0 c0_1); (replace hB := Below.after2 (by first | exact hB | exact Below.alloc' hB _ | exact Below.alloc' (Below.alloc' hB _) _) (Nat.le_refl _) hb); replace A0 := At.keep (by first | exact A0 | exact At.alloc A0 _ | exact At.alloc (At.alloc A0 _) _) hb; clear hb; obtain ⟨l0, c0_0, c0_1⟩ := At.two A0))
  (generalize hW : World.alloc _ _ = W1; clear l0 c0_0 c0_1; have A1 : At W1 _ _ := hW ▸ At.new _ _; replace A0 : At W1 _ _ := hW ▸ At.alloc A0 _; replace hB : Below w.heap.size w W1 := hW ▸ Below.alloc' hB _; clear hW; obtain ⟨l0, c0_0, c0_1⟩ := At.two A0; obtain ⟨l1, c1_0, c1_1⟩ := At.two A1)
  go_upto_region 8 with (first | (go_at_call 23; (with_reducible refine (fit_any _ _ _ _ _).mono ?_); rintro e w' ⟨rfl, hb⟩; (clear l0 c0_0 c0_1 l1 c1_0 c1_1); (replace hB := Below.after2 (by first | exact hB | exact Below.alloc' hB _ | exact Below.alloc' (Below.alloc' hB _) _) (Nat.le_refl _) hb); replace A0 := At.keep (by first | exact A0 | exact At.alloc A0 _ | exact At.alloc (At.alloc A0 _) _) hb; replace A1 := At.keep (by first | exact A1 | exact At.alloc A1 _ | exact At.alloc (At.alloc A1 _) _) hb; clear hb; obtain ⟨l0, c0_0, c0_1⟩ := At.two A0; obtain ⟨l1, c1_0, c1_1⟩ := At.two A1))
  go_upto_region 9 with (first | (go_at_call 21; (with_reducible refine (move_any _ _ _ _).mono ?_); rintro e w' ⟨rfl, hb⟩; (clear l0 c0_0 c0_1 l1 c1_0 c1_1); (replace hB := Below.after2 (by first | exact hB | exact Below.alloc' hB _ | exact Below.alloc' (Below.alloc' hB _) _) (Nat.le_refl _) hb); replace A0 := At.keep (by first | exact A0 | exact At.alloc A0 _ | exact At.alloc (At.alloc A0 _) _) hb; replace A1 := At.keep (by first | exact A1 | exact At.alloc A1 _ | exact At.alloc (At.alloc A1 _) _) hb; clear hb; obtain ⟨l0, c0_0, c0_1⟩ := At.two A0; obtain ⟨l1, c1_0, c1_1⟩ := At.two A1))
  (generalize hW : World.alloc _ _ = W2; clear l0 c0_0 c0_1 l1 c1_0 c1_1; have A2 : At W2 _ _ := hW ▸ At.new _ _; replace A0 : At W2 _ _ := hW ▸ At.alloc A0 _; replace A1 : At W2 _ _ := hW ▸ At.alloc A1 _; replace hB : Below w.heap.size w W2 := hW ▸ Below.alloc' hB _; clear hW; obtain ⟨l0, c0_0, c0_1⟩ := At.two A0; obtain ⟨l1, c1_0, c1_1⟩ := At.two A1; obtain ⟨l2, c2_0, c2_1⟩ := At.two A2)
  go_upto_region 12 with (first | (go_at_call 21; (with_reducible refine (move_any _ _ _ _).mono ?_); rintro e w' ⟨rfl, hb⟩; (clear l0 c0_0 c0_1 l1 c1_0 c1_1 l2 c2_0 c2_1); (replace hB := Below.after2 (by first | exact hB | exact Below.alloc' hB _ | exact Below.alloc' (Below.alloc' hB _) _) (Nat.le_refl _) hb); replace A0 := At.keep (by first | exact A0 | exact At.alloc A0 _ | exact At.alloc (At.alloc A0 _) _) hb; replace A1 := At.keep (by first | exact A1 | exact At.alloc A1 _ | exact At.alloc (At.alloc A1 _) _) hb; replace A2 := At.keep (by first | exact A2 | exact At.alloc A2 _ | exact At.alloc (At.alloc A2 _) _) hb; clear hb; obtain ⟨l0, c0_0, c0_1⟩ := At.two A0; obtain ⟨l1, c1_0, c1_1⟩ := At.two A1; obtain ⟨l2, c2_0, c2_1⟩ := At.two A2))
  (generalize hW : World.alloc _ _ = W3; clear l0 c0_0 c0_1 l1 c1_0 c1_1 l2 c2_0 c2_1; have A3 : At W3 _ _ := hW ▸ At.new _ _; replace A0 : At W3 _ _ := hW ▸ At.alloc A0 _; replace A1 : At W3 _ _ := hW ▸ At.alloc A1 _; replace A2 : At W3 _ _ := hW ▸ At.alloc A2 _; replace hB : Below w.heap.size w W3 := hW ▸ Below.alloc' hB _; clear hW; obtain ⟨l0, c0_0, c0_1⟩ := At.two A0; obtain ⟨l1, c1_0, c1_1⟩ := At.two A1; obtain ⟨l2, c2_0, c2_1⟩ := At.two A2; obtain ⟨l3, c3_0, c3_1⟩ := At.two A3)
  have hf : (f ≤ 0 ∧ 0 ≤ f) ∨ (0 < f ∧ a + f ≤ c) ∨ (f < 0 ∧ d ≤ a + s + f) := by
    rcases Hf.out with h | h | h
    · exact .inl ⟨by omega, by omega⟩
    · exact .inr (.inl h)
    · exact .inr (.inr h)
  clear Hf a1 a2 s1 s2 c1 d1 c2 n1 n2 f1 f2 hA' e1 e2 e3 e5 e6 e7 e8
  rcases hf with ⟨g1, g2⟩ | ⟨g1, g2⟩ | ⟨g1, g2⟩
  all_goals
    go_wp2_with (first | (go_at_call 11; (with_reducible refine (size_any _ _ _).mono ?_); rintro e w' ⟨rfl, hb⟩; (clear l0 c0_0 c0_1 l1 c1_0 c1_1 l2 c2_0 c2_1 l3 c3_0 c3_1); (replace hB := Below.after2 (by first | exact hB | exact Below.alloc' hB _ | exact Below.alloc' (Below.alloc' hB _) _) (Nat.le_refl _) hb); replace A0 := At.keep (by first | exact A0 | exact At.alloc A0 _ | exact At.alloc (At.alloc A0 _) _) hb; replace A1 := At.keep (by first | exact A1 | exact At.alloc A1 _ | exact At.alloc (At.alloc A1 _) _) hb; replace A2 := At.keep (by first | exact A2 | exact At.alloc A2 _ | exact At.alloc (At.alloc A2 _) _) hb; replace A3 := At.keep (by first | exact A3 | exact At.alloc A3 _ | exact At.alloc (At.alloc A3 _) _) hb; clear hb; obtain ⟨l0, c0_0, c0_1⟩ := At.two A0; obtain ⟨l1, c1_0, c1_1⟩ := At.two A1; obtain ⟨l2, c2_0, c2_1⟩ := At.two A2; obtain ⟨l3, c3_0, c3_1⟩ := At.two A3) | (go_at_call 23; (with_reducible refine (fit_any _ _ _ _ _).mono ?_); rintro e w' ⟨rfl, hb⟩; (clear l0 c0_0 c0_1 l1 c1_0 c1_1 l2 c2_0 c2_1 l3 c3_0 c3_1); (replace hB := Below.after2 (by first | exact hB | exact Below.alloc' hB _ | exact Below.alloc' (Below.alloc' hB _) _) (Nat.le_refl _) hb); replace A0 := At.keep (by first | exact A0 | exact At.alloc A0 _ | exact At.alloc (At.alloc A0 _) _) hb; replace A1 := At.keep (by first | exact A1 | exact At.alloc A1 _ | exact At.alloc (At.alloc A1 _) _) hb; replace A2 := At.keep (by first | exact A2 | exact At.alloc A2 _ | exact At.alloc (At.alloc A2 _) _) hb; replace A3 := At.keep (by first | exact A3 | exact At.alloc A3 _ | exact At.alloc (At.alloc A3 _) _) hb; clear hb; obtain ⟨l0, c0_0, c0_1⟩ := At.two A0; obtain ⟨l1, c1_0, c1_1⟩ := At.two A1; obtain ⟨l2, c2_0, c2_1⟩ := At.two A2; obtain ⟨l3, c3_0, c3_1⟩ := At.two A3))
    all_goals first
      | (go_ret; exact ⟨rfl, hB⟩)
      | (exfalso; omega)
      | (go_ret; refine ⟨ret_bool ?_, hB⟩; first | (simp; done) | (simp; omega) | (simp [*]; done))

theorem fits_walk (a s c d n : Int) (w : World) : Calls Try.prog 5 #[.int .i64 a, .int .i64 s, .agg #[.int .i64 c, .int .i64 d], .int .i64 n] w fun e w' => e = .returned (.bool true) ∧ Below w.heap.size w w' := by
  by_cases h : ((-1073741824 ≤ a ∧ a ≤ 1073741824) ∧ (0 ≤ s ∧ s ≤ 1073741824)) ∧ (-1073741824 ≤ c ∧ d ≤ 1073741824 ∧ c ≤ d) ∧ (-4294967296 ≤ n ∧ n ≤ 4294967296)
  · by_cases hA : d - c < s
    · exact fits_long a s c d n w h hA
    · exact fits_in a s c d n w h hA
  · exact fits_out a s c d n w h

end Go.Proofs.Ytganeapoipiiaaa.Fix
