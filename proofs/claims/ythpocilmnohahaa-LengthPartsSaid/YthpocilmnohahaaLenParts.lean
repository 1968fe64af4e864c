/- LengthParts: it returns true, and leaves all that was there as it was. -/
import Derived.Test.YthpocilmnohahaaLenLaws
import Derived.IntWalk
namespace Go.Proofs.Ythpocilmnohahaa.Fix
open Go.ChangeShapes Go.WideShapes Go.ChangeAt Go.RowKit
set_option linter.unusedVariables false

set_option maxHeartbeats 8000000 in
theorem lparts_walk (a b base none : Int) (w : World) : Calls Try.prog 6 #[.int .i64 a, .int .i64 b, .int .i64 base, .int .i64 none] w fun e w' => e = .returned (.bool true) ∧ Below w.heap.size w w' := by
  by_cases h : (0 ≤ base ∧ base ≤ 1099511627776) ∧ a ≤ b
  · obtain ⟨⟨h1, h2⟩, h3⟩ := h
    have e1 : Fx.len 2 a base none = Fx.part base a := Fx.len_per rfl h1
    have e2 : Fx.len 2 b base none = Fx.part base b := Fx.len_per rfl h1
    have e3 : Fx.len 2 a (-1) none = Fx.cut none := Fx.len_not (by decide)
    have e4 : Fx.len 2 10000 base none = base := by rw [Fx.len_per rfl h1, Fx.part_all h1 h2]
    have e5 : Fx.len 2 0 base none = 0 := by rw [Fx.len_per rfl h1, Fx.part_none]
    have e6 : Fx.len 0 0 base none = Fx.cut none := Fx.len_not (Fx.fixd_not.2 ⟨by omega, by omega⟩)
    have e7 : Fx.part base a ≤ Fx.part base b := Fx.part_more h1 h3
    go_enter Try.func6, Try.ntmps6
    go_wp2_with (first | (go_at_call 10; (with_reducible refine (lworks_any _).mono ?_); rintro e w' ⟨rfl, hb⟩; (try replace hb := Below.after (by assumption) hb); obtain ⟨hc, hf⟩ := bcell hb; have hz := hb.size; (try simp at hz)) | (go_at_call 11; (with_reducible refine (len_any _ _ _ _ _).mono ?_); rintro e w' ⟨rfl, hb⟩; (try replace hb := Below.after (by assumption) hb); obtain ⟨hc, hf⟩ := bcell hb; have hz := hb.size; (try simp at hz)))
    go_ret
    refine ⟨rfl, ?_⟩
    (repeat (first | exact Below.refl _ _ | assumption | refine Below.drew ?_ | refine Below.drewN ?_ _ | refine Below.alloc' ?_ _ | refine Below.setCell ?_ (by first | (simp; done) | (simp; omega)) _ | refine Below.after2 ?_ (Nat.le_refl _) (by assumption)))
  · have H := Lib.hid h
    clear h
    go_enter Try.func6, Try.ntmps6
    go_upto_region 6 with (first | (go_at_call 10; (with_reducible refine (lworks_any _).mono ?_); rintro e w' ⟨rfl, hb⟩; (try replace hb := Below.after (by assumption) hb); obtain ⟨hc, hf⟩ := bcell hb; have hz := hb.size; (try simp at hz)))
    all_goals first
      | (go_ret; exact ⟨rfl, hb⟩)
      | (exfalso; exact H.out ⟨⟨by omega, by omega⟩, by omega⟩)

end Go.Proofs.Ythpocilmnohahaa.Fix
