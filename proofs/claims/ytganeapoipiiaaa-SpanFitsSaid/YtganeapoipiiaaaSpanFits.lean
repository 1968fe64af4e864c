/- SpanFits: it returns true, and leaves all that was there as it was. -/
import Derived.Test.YtganeapoipiiaaaSpanLaws
import Derived.Deep.Cut
import Derived.IntWalk
namespace Go.Proofs.Ytganeapoipiiaaa.Fix
open Go.ChangeShapes Go.WideShapes Go.ChangeAt Go.RowKit
set_option linter.unusedVariables false

set_option maxRecDepth 100000 in
set_option maxHeartbeats 8000000 in
theorem fits_out (a s c d n : Int) (w : World) (h : ¬ (((-1073741824 ≤ a ∧ a ≤ 1073741824) ∧ (0 ≤ s ∧ s ≤ 1073741824)) ∧ (-1073741824 ≤ c ∧ d ≤ 1073741824 ∧ c ≤ d) ∧ (-4294967296 ≤ n ∧ n ≤ 4294967296))) : Calls Try.prog 5 #[.int .i64 a, .int .i64 s, .agg #[.int .i64 c, .int .i64 d], .int .i64 n] w fun e w' => e = .returned (.bool true) ∧ Below w.heap.size w w' := by
  have H := Lib.hid h
  clear h
  go_enter Try.func5, Try.ntmps5
  go_upto_region 6 with (first | (go_at_call 8; (with_reducible refine (sworks_any _).mono ?_); rintro e w' ⟨rfl, hb⟩; (try replace hb := Below.after (by assumption) hb); obtain ⟨hc, hf⟩ := bcell hb; have hz := hb.size; (try simp at hz)))
  all_goals first
    | (go_ret; exact ⟨rfl, Below.after2 (Below.alloc' (Below.refl _ _) _) (Nat.le_refl _) hb⟩)
    | (exfalso; exact H.out ⟨⟨⟨by omega, by omega⟩, ⟨by omega, by omega⟩⟩, ⟨by omega, by omega, by omega⟩, ⟨by omega, by omega⟩⟩)

set_option maxRecDepth 100000 in
set_option maxHeartbeats 8000000 in
theorem fits_long (a s c d n : Int) (w : World) (h : ((-1073741824 ≤ a ∧ a ≤ 1073741824) ∧ (0 ≤ s ∧ s ≤ 1073741824)) ∧ (-1073741824 ≤ c ∧ d ≤ 1073741824 ∧ c ≤ d) ∧ (-4294967296 ≤ n ∧ n ≤ 4294967296)) (hA : d - c < s) : Calls Try.prog 5 #[.int .i64 a, .int .i64 s, .agg #[.int .i64 c, .int .i64 d], .int .i64 n] w fun e w' => e = .returned (.bool true) ∧ Below w.heap.size w w' := by
  obtain ⟨⟨⟨a1, a2⟩, ⟨s1, s2⟩⟩, ⟨c1, d1, c2⟩, ⟨n1, n2⟩⟩ := h
  have e1 : Fx.cut a = a := Fx.cut_id (by omega) (by omega)
  have e2 : Fx.mx s 0 = s := Fx.mx_zero s1
  have e3 : Fx.add a s = a + s := Fx.add_plain (by omega) (by omega) (by omega) (by omega)
  have ef := Fx.fit_plain (a := a) (b := a + s) (c := c) (d := d) (by omega) (by omega) (by omega) (by omega) (by omega) (by omega)
  have e4 : Fx.fit a (a + s) c d = c - a := by rw [ef, if_neg (by omega), if_pos (by omega)]
  have e5 : Fx.add a (c - a) = c := by rw [Fx.add_plain (by omega) (by omega) (by omega) (by omega)]; omega
  clear ef
  go_enter Try.func5, Try.ntmps5
  go_upto_region 1 with (fail)
  have hB := Below.refl w.heap.size w
  (generalize hW : World.alloc _ _ = W0; have A0 : At W0 _ _ := hW ▸ At.new _ _; replace hB : Below w.heap.size w W0 := hW ▸ Below.alloc' hB _; clear hW; obtain ⟨l0, c0_0, c0_1⟩ := At.two A0)
  go_upto_region 7 with (first | (go_at_call 8; (with_reducible refine (sworks_any _).mono ?_); rintro e w' ⟨rfl, hb⟩; (clear l0 c0_0 c0_1); (replace hB := Below.after2 (by first | exact hB | exact Below.alloc' hB _ | exact Below.alloc' (Below.alloc' hB _) _) (Nat.le_refl _) hb); replace A0 := At.keep (by first | exact A0 | exact At.alloc A0 _ | exact At.alloc (At.alloc A0 _) _) hb; clear hb; obtain ⟨l0, c0_0, c0_1⟩ := At.two A0) | (go_at_call 9; (with_reducible refine (of_span _ _ _).mono ?_); rintro e w' ⟨rfl, hb⟩; (clear l0 c0_0 c0_1); (replace hB := Below.after2 (by first | exact hB | exact Below.alloc' hB _ | exact Below.alloc' (Below.alloc' hB _) _) (Nat.le_refl _) hb); replace A0 := At.keep (by first | exact A0 | exact At.alloc A0 _ | exact At.alloc (At.alloc A0 _) _) hb; clear hb; obtain ⟨l0, c0_0, c0_1⟩ := At.two A0))
  (generalize hW : World.alloc _ _ = W1; clear l0 c0_0 c0_1; have A1 : At W1 _ _ := hW ▸ At.new _ _; replace A0 : At W1 _ _ := hW ▸ At.alloc A0 _; replace hB : Below w.heap.size w W1 := hW ▸ Below.alloc' hB _; clear hW; obtain ⟨l0, c0_0, c0_1⟩ := At.two A0; obtain ⟨l1, c1_0, c1_1⟩ := At.two A1)
  go_upto_region 8 with (first | (go_at_call 23; (with_reducible refine (fit_any _ _ _ _ _).mono ?_); rintro e w' ⟨rfl, hb⟩; (clear l0 c0_0 c0_1 l1 c1_0 c1_1); (replace hB := Below.after2 (by first | exact hB | exact Below.alloc' hB _ | exact Below.alloc' (Below.alloc' hB _) _) (Nat.le_refl _) hb); replace A0 := At.keep (by first | exact A0 | exact At.alloc A0 _ | exact At.alloc (At.alloc A0 _) _) hb; replace A1 := At.keep (by first | exact A1 | exact At.alloc A1 _ | exact At.alloc (At.alloc A1 _) _) hb; clear hb; obtain ⟨l0, c0_0, c0_1⟩ := At.two A0; obtain ⟨l1, c1_0, c1_1⟩ := At.two A1))
  go_upto_region 9 with (first | (go_at_call 21; (with_reducible refine (move_any _ _ _ _).mono ?_); rintro e w' ⟨rfl, hb⟩; (clear l0 c0_0 c0_1 l1 c1_0 c1_1); (replace hB := Below.after2 (by first | exact hB | exact Below.alloc' hB _ | exact Below.alloc' (Below.alloc' hB _) _) (Nat.le_refl _) hb); replace A0 := At.keep (by first | exact A0 | exact At.alloc A0 _ | exact At.alloc (At.alloc A0 _) _) hb; replace A1 := At.keep (by first | exact A1 | exact At.alloc A1 _ | exact At.alloc (At.alloc A1 _) _) hb; clear hb; obtain ⟨l0, c0_0, c0_1⟩ := At.two A0; obtain ⟨l1, c1_0, c1_1⟩ := At.two A1))
  (generalize hW : World.alloc _ _ = W2; clear l0 c0_0 c0_1 l1 c1_0 c1_1; have A2 : At W2 _ _ := hW ▸ At.new _ _; replace A0 : At W2 _ _ := hW ▸ At.alloc A0 _; replace A1 : At W2 _ _ := hW ▸ At.alloc A1 _; replace hB : Below w.heap.size w W2 := hW ▸ Below.alloc' hB _; clear hW; obtain ⟨l0, c0_0, c0_1⟩ := At.two A0; obtain ⟨l1, c1_0, c1_1⟩ := At.two A1; obtain ⟨l2, c2_0, c2_1⟩ := At.two A2)
  go_wp2
  go_ret
  exact ⟨rfl, hB⟩

end Go.Proofs.Ytganeapoipiiaaa.Fix
