/- The contracts of fix.Sum and of the document's own Sum, over any slice of integers. -/
import Derived.Test.YtkambjepclbjeaaFix
import Derived.Below
import Derived.Deep.QuietTactic
import Derived.BigQuiet
namespace Go.Proofs.Ytkambjepclbjeaa.Fix
open Go.ChangeShapes Go.WideShapes Go.ChangeAt Go.RowKit
set_option linter.unusedVariables false

/-- A callee that leaves the world alone, met inside a region that draws its order. -/
theorem quiet_l {P : Program} {f : FuncId} {args : Array Value} {w : World} {n : Nat} {v : Value}
    (h : Calls P f args (w.drewN n) fun e w' => e = .returned v ∧ w.drewN n = w') : Calls P f args (w.drewN n) fun e w'' => e = .returned v ∧ ∃ m, w'' = w.drewN m :=
  h.mono fun _ _ h => ⟨h.1, n, h.2.symm⟩

theorem grown_drewN {w w' : World} (h : Grown w w') (n : Nat) : Grown w (w'.drewN n) := h

/-- A slice of integers that can be read: its numbers, one cell each. -/
def Ints (w : World) (A : Option Addr) (zs : List Int) : Prop :=
  zs.length ≤ maxLen ∧ (0 < zs.length → ∃ b off, A = some ⟨b, off, none⟩ ∧ ∀ k, k < zs.length → w.cell? ⟨b, off + k, none⟩ = some (.int .i64 (zs.getD k 0)))

theorem take_snoc_int (zs : List Int) (k : Nat) (h : k < zs.length) : zs.take (k + 1) = zs.take k ++ [zs.getD k 0] := by
  rw [List.take_succ_eq_append_getElem h]; simp [List.getElem?_eq_getElem h]

theorem sum_any (A : Option Addr) (zs : List Int) (c : Nat) (w : World) (h : Ints w A zs) :
    Calls Try.prog 25 #[.slice A zs.length c] w fun e w' => e = .returned (.int .i64 (Fx.sum zs)) ∧ w = w' := by
  obtain ⟨hm, h⟩ := h
  unfold maxLen at hm
  generalize hn : zs.length = n at *
  have HN := Lib.hid hn; clear hn
  have HA := Lib.hid h; clear h
  go_enter Try.func25, Try.ntmps25
  go_wp2
  go_loop [3, 8] (fun s i => ∃ k : Nat, k ≤ n ∧ i = .int .i64 k ∧ s = .int .i64 (Fx.sum (zs.take k))) (fun _ i => n - (intOf i).toNat)
  case atStart => exact ⟨0, by omega, rfl, rfl⟩
  case round =>
    obtain ⟨k, hk, rfl, rfl⟩ := hrel
    by_cases hlt : k < n
    · obtain ⟨b, off, rfl, hc⟩ := HA.out (by omega)
      have hcell := hc k hlt
      clear hc
      have hs : Hid (Fx.add (Fx.sum (zs.take k)) (zs.getD k 0) = Fx.sum (zs.take (k + 1))) := Lib.hid (by rw [take_snoc_int zs k (by rw [HN.out]; exact hlt), Fx.sum_snoc])
      clear HA
      generalize zs.getD k 0 = z at *
      go_wp2_with (go_at_call 13; refine (add_any _ _ _).mono ?_; rintro e w' ⟨rfl, rfl⟩)
      go_round
      case rel => exact ⟨k + 1, by omega, by go_num, by rw [hs.out]⟩
      case measure => simp [intOf]; omega
    · go_wp2
      go_ret
      exact ⟨ret_int (by rw [List.take_of_length_le (by rw [HN.out]; omega)]), rfl⟩

theorem rsum_any (A : Option Addr) (zs : List Int) (c : Nat) (w : World) (h : Ints w A zs) :
    Calls Try.prog 26 #[.slice A zs.length c] w fun e w' => e = .returned (.int .i64 (Fx.sum zs)) ∧ w = w' := by
  obtain ⟨hm, h⟩ := h
  unfold maxLen at hm
  generalize hn : zs.length = n at *
  have HN := Lib.hid hn; clear hn
  have HA := Lib.hid h; clear h
  go_enter Try.func26, Try.ntmps26
  go_wp2
  go_loop [3, 4] (fun s i => ∃ k : Nat, k ≤ n ∧ i = .int .i64 k ∧ s = .int .i64 (Fx.sum (zs.take k))) (fun _ i => n - (intOf i).toNat)
  case atStart => exact ⟨0, by omega, rfl, rfl⟩
  case round =>
    obtain ⟨k, hk, rfl, rfl⟩ := hrel
    by_cases hlt : k < n
    · obtain ⟨b, off, rfl, hc⟩ := HA.out (by omega)
      have hcell := hc k hlt
      clear hc
      have hs : Hid (Fx.add (Fx.sum (zs.take k)) (zs.getD k 0) = Fx.sum (zs.take (k + 1))) := Lib.hid (by rw [take_snoc_int zs k (by rw [HN.out]; exact hlt), Fx.sum_snoc])
      clear HA
      generalize zs.getD k 0 = z at *
      go_wp2_with (go_at_call 14; refine (radd_any _ _ _).mono ?_; rintro e w' ⟨rfl, rfl⟩)
      go_round
      case rel => exact ⟨k + 1, by omega, by go_num, by rw [hs.out]⟩
      case measure => simp [intOf]; omega
    · go_wp2
      go_ret
      exact ⟨ret_int (by rw [List.take_of_length_le (by rw [HN.out]; omega)]), rfl⟩

theorem ints_new (w : World) (l : List Int) (T : TypeId) (hl : l.length ≤ 1000) : Ints (w.alloc (.cells (l.map (Value.int .i64)).toArray T)) (some ⟨w.heap.size, 0, none⟩) l := by
  refine ⟨by unfold maxLen; omega, fun _ => ⟨w.heap.size, 0, rfl, fun k hk => ?_⟩⟩
  rw [cell_of_row _ w.heap.size (0 + k) _ T (0, 0) (heap_alloc_new w _)]
  simp [hk]

theorem ints_new2 (w : World) (o : Obj) (l : List Int) (T : TypeId) (hl : l.length ≤ 1000) : Ints ((w.alloc o).alloc (.cells (l.map (Value.int .i64)).toArray T)) (some ⟨w.heap.size + 1, 0, none⟩) l := by
  have := ints_new (w.alloc o) l T hl
  simpa using this

theorem sum3 (w : World) (T : TypeId) (a b c : Int) :
    Calls Try.prog 25 #[.slice (some ⟨w.heap.size, 0, none⟩) 3 3] (w.alloc (.cells #[.int .i64 a, .int .i64 b, .int .i64 c] T)) fun e w' => e = .returned (.int .i64 (Fx.sum [a, b, c])) ∧ w.alloc (.cells #[.int .i64 a, .int .i64 b, .int .i64 c] T) = w' :=
  sum_any (some ⟨w.heap.size, 0, none⟩) [a, b, c] 3 _ (ints_new w [a, b, c] T (by simp))
end Go.Proofs.Ytkambjepclbjeaa.Fix
