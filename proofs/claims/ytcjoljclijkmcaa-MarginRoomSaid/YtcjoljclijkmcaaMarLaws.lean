/- The document's example of the layer margin (works), and the statements that need one walk. -/
import Derived.Test.YtcjoljclijkmcaaMarStackR
namespace Go.Proofs.Ytcjoljclijkmcaa.Fix
open Go.ChangeShapes Go.WideShapes Go.ChangeAt Go.RowKit
set_option linter.unusedVariables false


theorem stack_three (w : World) :
    Calls Try.prog 15 #[.slice (some ⟨w.heap.size, 0, none⟩) 2 2, .slice (some ⟨w.heap.size + 1, 0, none⟩) 2 2, .slice (some ⟨w.heap.size + 1 + 1, 0, none⟩) 2 2] (((w.alloc (.cells #[.int .i64 10, .int .i64 20] 3)).alloc (.cells #[.int .i64 5, .int .i64 6] 3)).alloc (.cells #[.int .i64 4, .int .i64 3] 3)) fun e w' => (∃ b, e = .returned (.tuple #[.slice (some ⟨b, 0, none⟩) 2 2, .int .i64 36]) ∧ b < w'.heap.size ∧ w'.cell? ⟨b, 1, none⟩ = some (.int .i64 16)) ∧ Below w.heap.size w w' := by
  have I1 := ints_two w 10 20 3
  have I2 := ints_two (w.alloc (.cells #[.int .i64 10, .int .i64 20] 3)) 5 6 3
  have I3 := ints_two ((w.alloc (.cells #[.int .i64 10, .int .i64 20] 3)).alloc (.cells #[.int .i64 5, .int .i64 6] 3)) 4 3 3
  have I1' := (I1.after (Below.alloc' (Below.refl _ _) (.cells #[.int .i64 5, .int .i64 6] 3))).after (Below.alloc' (Below.refl _ _) (.cells #[.int .i64 4, .int .i64 3] 3))
  have I2' := I2.after (Below.alloc' (Below.refl _ _) (.cells #[.int .i64 4, .int .i64 3] 3))
  refine (stack_any _ _ _ _ _ _ 2 2 2 2 _ I1' (by simpa using I2') (by simpa using I3) rfl rfl rfl (by omega)).mono ?_
  rintro e w' ⟨⟨b, rfl, hI⟩, hb⟩
  have h1 := hI.at_ (k := 1) (by rw [Fx.stBegs_length]; omega)
  obtain ⟨b', o', hA, hl, hc⟩ := h1
  injection hA with hA
  injection hA with h2 h3 h4
  subst h2 h3
  have e1 : Fx.stEnd [10, 20] [5, 6] [4, 3] 2 = 36 := by decide
  have e2 : (Fx.stBegs [10, 20] [5, 6] [4, 3] 2).getD 1 0 = 16 := by decide
  rw [e2] at hc
  rw [e1]
  refine ⟨⟨b, rfl, hl, by simpa using hc⟩, ?_⟩
  exact Below.after2 (Below.alloc' (Below.alloc' (Below.alloc' (Below.refl _ _) _) _) _) (Nat.le_refl _) hb

set_option maxHeartbeats 4000000 in
theorem mworks_any (w : World) : Calls Try.prog 9 #[] w fun e w' => e = .returned (.bool true) ∧ Below w.heap.size w w' := by
  have a1 : Fx.autoA 100 41 (Fx.len 0 0 100 0) (Fx.len 0 0 100 0) (Fx.fixd 0 100) (Fx.fixd 0 100) = 29 := by decide
  have a2 : Fx.autoB 100 41 (Fx.len 0 0 100 0) (Fx.len 0 0 100 0) (Fx.fixd 0 100) (Fx.fixd 0 100) = 30 := by decide
  have p1 : Fx.coll [3, 5] = 5 := by decide
  have c1 : Fx.coll [10, -4, 6, -1] = 6 := by decide
  go_enter Try.func9, Try.ntmps9
  go_wp2_with (first
    | (go_at_call 10; refine (auto_any _ _ _ _ _ _ _ _).mono ?_; rintro e w1 ⟨rfl, hB⟩)
    | (go_at_call 15; refine (stack_three _).mono ?_; rintro e w2 ⟨⟨b, rfl, hl, hcell⟩, hb⟩; replace hB := Below.after2 hB (Nat.le_refl _) hb; clear hb)
    | (go_at_call 12; refine (coll_any _ [10, -4, 6, -1] 4 4 _ (ints_new _ [10, -4, 6, -1] _ (by simp)) rfl).mono ?_; rintro e w' ⟨rfl, rfl⟩)
    | first | (go_at_call 14; (with_reducible refine (pair_any _ _ _).mono ?_); rintro e w' ⟨rfl, hb⟩; (try replace hb := Below.after (by assumption) hb); obtain ⟨hc, hf⟩ := bcell hb; have hz := hb.size; (try simp at hz)))
  go_ret
  refine ⟨rfl, ?_⟩
  (repeat (first | exact Below.refl _ _ | assumption | refine Below.drew ?_ | refine Below.drewN ?_ _ | refine Below.alloc' ?_ _ | refine Below.setCell ?_ (by first | (simp; done) | (simp; omega)) _ | refine Below.after2 ?_ (Nat.le_refl _) (by assumption)))

set_option maxHeartbeats 4000000 in
theorem mpairs_walk (a b : Int) (w : World) : Calls Try.prog 7 #[.int .i64 a, .int .i64 b] w fun e w' => e = .returned (.bool true) ∧ Below w.heap.size w w' := by
  have HC := Lib.hid (Fx.coll_comm b a)
  have HP : Hid (-1073741824 ≤ a → a ≤ 1073741824 → -1073741824 ≤ b → b ≤ 1073741824 → Fx.coll [a, b] = max (max 0 a) b + min (min 0 a) b) := Lib.hid fun h1 h2 h3 h4 => Fx.coll_pair h1 h2 h3 h4
  go_enter Try.func7, Try.ntmps7
  go_wp2_with (first
    | (go_at_call 12; refine (coll_any _ [a, b] 2 2 _ (ints_two _ a b _) rfl).mono ?_; rintro e w' ⟨rfl, rfl⟩)
    | (go_at_call 14; refine (pair_any b a _).mono ?_; rw [HC.out]; rintro e w1 ⟨rfl, hb⟩; (try replace hb := Below.after (by assumption) hb))
    | first | (go_at_call 9; (with_reducible refine (mworks_any _).mono ?_); rintro e w' ⟨rfl, hb⟩; (try replace hb := Below.after (by assumption) hb); obtain ⟨hc, hf⟩ := bcell hb; have hz := hb.size; (try simp at hz)) | (go_at_call 14; (with_reducible refine (pair_any _ _ _).mono ?_); rintro e w' ⟨rfl, hb⟩; (try replace hb := Below.after (by assumption) hb); obtain ⟨hc, hf⟩ := bcell hb; have hz := hb.size; (try simp at hz)))
  all_goals
    go_ret
    refine ⟨ret_bool (by first | rfl | (have h := HP.out (by omega) (by omega) (by omega) (by omega); simp; omega)), ?_⟩
    (repeat (first | exact Below.refl _ _ | assumption | refine Below.drew ?_ | refine Below.drewN ?_ _ | refine Below.alloc' ?_ _ | refine Below.setCell ?_ (by first | (simp; done) | (simp; omega)) _ | refine Below.after2 ?_ (Nat.le_refl _) (by assumption)))

end Go.Proofs.Ytcjoljclijkmcaa.Fix
