/- The walk of FixLimits: the eight results lie in a list of the call's own memory; each is within the limit. -/
import Derived.Test.YtkambjepclbjeaaWorks
namespace Go.Proofs.Ytkambjepclbjeaa.Fix
open Go.ChangeShapes Go.WideShapes Go.ChangeAt Go.RowKit
set_option linter.unusedVariables false

set_option maxHeartbeats 4000000 in
theorem limits_walk (a b c : Int) (w : World) : Calls Try.prog 5 #[.int .i64 a, .int .i64 b, .int .i64 c] w fun e w' => e = .returned (.bool true) ∧ Grown w w' := by
  go_enter Try.func5, Try.ntmps5
  go_wp2_with (first
    | (go_at_call 10; refine (works_any _).mono ?_; rintro e w1 ⟨rfl, hb, hg⟩)
    | (go_at_call 11; refine (cut_any _ _).mono ?_; rintro e w' ⟨rfl, rfl⟩)
    | (go_at_call 13; refine (add_any _ _ _).mono ?_; rintro e w' ⟨rfl, rfl⟩)
    | (go_at_call 15; refine (sub_any _ _ _).mono ?_; rintro e w' ⟨rfl, rfl⟩)
    | (go_at_call 17; refine (mul_any _ _ _).mono ?_; rintro e w' ⟨rfl, rfl⟩)
    | (go_at_call 19; refine (div_any _ _ _).mono ?_; rintro e w' ⟨rfl, rfl⟩)
    | (go_at_call 21; refine (part_any _ _ _).mono ?_; rintro e w' ⟨rfl, rfl⟩)
    | (go_at_call 23; refine (clamp_any _ _ _ _).mono ?_; rintro e w' ⟨rfl, rfl⟩)
    | (go_at_call 25; refine (sum3 _ _ _ _ _).mono ?_; rintro e w' ⟨rfl, rfl⟩))
  have hI := ints_new2 w1 (.cells #[.int .i64 a, .int .i64 b, .int .i64 c] 3) (Fx.eight a b c) 3 (by simp [Fx.eight])
  have hG : Grown w ((w1.alloc (.cells #[.int .i64 a, .int .i64 b, .int .i64 c] 3)).alloc (.cells ((Fx.eight a b c).map (Value.int .i64)).toArray 3)) := by
    apply Grown.alloc; apply Grown.alloc; exact hg
  simp only [Fx.eight, List.map_cons, List.map_nil] at hI hG
  generalize World.alloc (World.alloc w1 _) _ = W at *
  have H8 : Hid (∀ k, k < 8 → W.cell? ⟨w1.heap.size + 1, k, none⟩ = some (.int .i64 ((Fx.eight a b c).getD k 0))) := Lib.hid (by
    obtain ⟨_, h⟩ := hI
    obtain ⟨b', o', e', hc⟩ := h (by simp)
    injection e' with e'
    injection e' with e1 e2
    subst e1 e2
    intro k hk
    have := hc k (by simpa using hk)
    rw [Nat.zero_add] at this
    exact this)
  have HG := Lib.hid hG
  clear hI hG hg hb
  go_loopw [9] (fun i wr => ∃ k : Nat, k ≤ 8 ∧ i = .int .i64 k ∧ Hid (∀ k, k < 8 → wr.cell? ⟨w1.heap.size + 1, k, none⟩ = some (.int .i64 ((Fx.eight a b c).getD k 0))) ∧ Hid (Grown w wr)) (fun i _ => 8 - (intOf i).toNat)
  case atStart => exact ⟨0, by omega, rfl, H8, HG⟩
  case round =>
    clear H8 HG
    obtain ⟨k, hk, rfl, H8, HG⟩ := hrel
    by_cases hlt : k < 8
    · have hcell := H8.out k hlt
      have hz := Fx.eight_cut a b c k hlt
      generalize hzz : (Fx.eight a b c).getD k 0 = z at hcell hz
      clear hzz
      have z1 := Fx.cut_le z
      have z2 := Fx.cut_ge z
      rw [hz] at z1 z2
      have d1 : decide (1099511627776 < z) = false := by simp; omega
      have d2 : decide (z < -1099511627776) = false := by simp; omega
      go_wp2
      go_quiet ((go_at_call 11; exact quiet_l (cut_any _ _)))
      go_wp2
      go_roundw
      case rel => exact ⟨k + 1, by omega, by go_num, Lib.hid H8.out, Lib.hid (grown_drewN HG.out _)⟩
      case measure => simp [intOf]; omega
    · go_wp2
      go_ret
      exact ⟨rfl, HG.out⟩
end Go.Proofs.Ytkambjepclbjeaa.Fix
