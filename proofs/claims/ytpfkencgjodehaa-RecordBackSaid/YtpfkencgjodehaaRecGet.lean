/- The contract of record: Get. -/
import Derived.Test.YtpfkencgjodehaaRecCalls
import Derived.Test.YtpfkencgjodehaaRecOps
namespace Go.Proofs.Ytpfkencgjodehaa.Fix
open Go.ChangeShapes Go.WideShapes Go.ChangeAt Go.RowKit
set_option linter.unusedVariables false

theorem recget_any (A : Option Addr) (l : List Int) (n c : Nat) (hl : l.length = n) (w : World) (hI : Ints w A l) : Calls Try.prog 14 #[.slice A n c] w fun e w' => e = .returned (.tuple #[.agg (cells (Re.got l).1), .int .i64 (Re.got l).2]) ∧ Below w.heap.size w w' := by
  have hmf : ∀ (fn : Fn) (first cap : Array Value) (w : World), (Instr.makeFunc fn first cap).run Try.prog w = .ok (.func fn first cap) w := fun _ _ _ _ => rfl
  have a1 : At ((w.alloc (.cells #[.slice A n c] 40)).alloc (.cells (cells Re.zero) 36)) (w.heap.size + 1) (.cells (cells Re.zero) 36) := At.new' _ (by simp)
  have hm := hI.1
  unfold maxLen at hm
  have hB1 : Below w.heap.size w ((w.alloc (.cells #[.slice A n c] 40)).alloc (.cells (cells Re.zero) 36)) := Below.alloc' (Below.alloc' (Below.refl _ _) _) _
  rcases Nat.lt_trichotomy n 55 with h | h | h
  · have hg : Re.got l = (Re.zero, 10) := by unfold Re.got; rw [if_pos (by omega)]
    rw [hg]
    have HB1 := Lib.hid hB1
    clear hg hI hB1
    go_enter Try.func14, Try.ntmps14
    go_wp2_with (first | (refine wpList_alloc_style (by rfl) rfl ?_) | (refine wpList_build_zero (by rfl) rfl ?_) | (refine wpList_load_style (by rfl) _ rfl rfl (by first | assumption | (with_reducible exact At.new _ _)) ?_) | (refine wpList_store_same (by rfl) _ _ rfl rfl rfl (by first | assumption | (with_reducible exact At.new _ _)) ?_) | (refine wpList_store_style (by rfl) _ _ rfl rfl rfl (by first | assumption | (with_reducible exact At.new _ _)) ?_))
    refine bodyPost_ret (results_style Try.results14 _ rfl rfl a1) rfl ⟨rfl, HB1.out⟩
  · subst h
    have a5 : At ((((w.alloc (.cells #[.slice A 55 c] 40)).alloc (.cells (cells Re.zero) 36)).alloc (.cells (cells Re.zero) 36)).alloc (.cells #[.int .i64 0] 3)) (w.heap.size + 1 + 1) (.cells (cells Re.zero) 36) := (At.new' _ (by simp)).alloc _
    have hA : ∀ x, A = some x → x.block < w.heap.size := hI.lt (by omega)
    have hwb : Below w.heap.size w ((((w.alloc (.cells #[.slice A 55 c] 40)).alloc (.cells (cells Re.zero) 36)).alloc (.cells (cells Re.zero) 36)).alloc (.cells #[.int .i64 0] 3)) := Below.alloc' (Below.alloc' (Below.alloc' (Below.alloc' (Below.refl _ _) _) _) _) _
    have key := through_any (bs := w.heap.size + 1 + 1) (t := Re.zero) (w := (((w.alloc (.cells #[.slice A 55 c] 40)).alloc (.cells (cells Re.zero) 36)).alloc (.cells (cells Re.zero) 36)).alloc (.cells #[.int .i64 0] 3)) (asks_get w w.heap.size w.heap.size (w.heap.size + 1 + 1 + 1) (by omega) (by omega) A l c hl hA)
      ⟨(((At.new _ _).alloc _).alloc _).alloc _, At.new' _ (by simp), hI.after hwb, hwb, hwb.size⟩ a5 (by omega) (by intro b hb; simp at hb; omega)
    rw [mix_get, wrongs_get] at key
    have A1 := Lib.hid ((a1.alloc (.cells (cells Re.zero) 36)).alloc (.cells #[.int .i64 0] 3))
    cases hgd : (Re.valid (Re.getS l) && Re.boolsOk l)
    · have hg : Re.got l = (Re.zero, 11) := by unfold Re.got; rw [if_neg (by omega), if_neg (by omega), hgd]; rfl
      rw [hg]
      rw [hgd] at key
      clear hg hgd hI hB1 hm hl
      go_enter Try.func14, Try.ntmps14
      go_wp2_with (first | (refine wpList_alloc_style (by rfl) rfl ?_) | (refine wpList_build_zero (by rfl) rfl ?_) | (refine wpList_load_style (by rfl) _ rfl rfl (by first | assumption | (with_reducible exact At.new _ _)) ?_) | (refine wpList_store_same (by rfl) _ _ rfl rfl rfl (by first | assumption | (with_reducible exact At.new _ _)) ?_) | (refine wpList_store_style (by rfl) _ _ rfl rfl rfl (by first | assumption | (with_reducible exact At.new _ _)) ?_) | (go_at_call 18; (with_reducible refine key.mono ?_); rintro e w2 ⟨rfl, hI2, a6, hO⟩; have a7 := At.out A1.out (by omega) hO))
      refine bodyPost_ret (results_style Try.results14 _ rfl rfl a7) rfl ⟨rfl, hI2.2.2.2.1⟩
    · have hg : Re.got l = (Re.getS l, 0) := by unfold Re.got; rw [if_neg (by omega), if_neg (by omega), hgd]; rfl
      rw [hg]
      rw [hgd] at key
      clear hg hgd hI hB1 hm hl
      go_enter Try.func14, Try.ntmps14
      go_wp2_with (first | (refine wpList_alloc_style (by rfl) rfl ?_) | (refine wpList_build_zero (by rfl) rfl ?_) | (refine wpList_load_style (by rfl) _ rfl rfl (by first | assumption | (with_reducible exact At.new _ _)) ?_) | (refine wpList_store_same (by rfl) _ _ rfl rfl rfl (by first | assumption | (with_reducible exact At.new _ _)) ?_) | (refine wpList_store_style (by rfl) _ _ rfl rfl rfl (by first | assumption | (with_reducible exact At.new _ _)) ?_) | (go_at_call 18; (with_reducible refine key.mono ?_); rintro e w2 ⟨rfl, hI2, a6, hO⟩; have a7 := At.out A1.out (by omega) hO))
      refine bodyPost_ret (results_style Try.results14 _ rfl rfl (a7.setRow _)) rfl ⟨rfl, Below.setRow' hI2.2.2.2.1 (by omega) _⟩
  · have hg : Re.got l = (Re.zero, 11) := by unfold Re.got; rw [if_neg (by omega), if_pos (by omega)]
    rw [hg]
    have HB1 := Lib.hid hB1
    clear hg hI hB1
    go_enter Try.func14, Try.ntmps14
    go_wp2_with (first | (refine wpList_alloc_style (by rfl) rfl ?_) | (refine wpList_build_zero (by rfl) rfl ?_) | (refine wpList_load_style (by rfl) _ rfl rfl (by first | assumption | (with_reducible exact At.new _ _)) ?_) | (refine wpList_store_same (by rfl) _ _ rfl rfl rfl (by first | assumption | (with_reducible exact At.new _ _)) ?_) | (refine wpList_store_style (by rfl) _ _ rfl rfl rfl (by first | assumption | (with_reducible exact At.new _ _)) ?_))
    refine bodyPost_ret (results_style Try.results14 _ rfl rfl a1) rfl ⟨rfl, HB1.out⟩

end Go.Proofs.Ytpfkencgjodehaa.Fix
