/- The contract of Order of the layer lines: places, sorted by their keys. -/
import Derived.Test.YtabmlohobbbnbaaSortStable
namespace Go.Proofs.Ytabmlohobbbnbaa.Fix
open Go.ChangeShapes Go.WideShapes Go.ChangeAt Go.RowKit
set_option linter.unusedVariables false

theorem sorting_any (b kb : Nat) (A : Option Addr) (ks : List Int) (n c cn : Nat) (w : World) (hk : Keys w b kb A ks n c) (hA : IsP w b (fun k => k) n) (hn : n ≤ 10000) :
    Calls Try.prog 22 #[.slice (some ⟨b, 0, none⟩) n cn, .func (.func 23) #[] #[.pointer (some ⟨kb, 0, none⟩)]] w fun x w' => x = .returned (.tuple #[]) ∧ Below b w w' ∧ ∃ Y, IsP w' b Y n ∧ So.Blk (keyOf ks) 0 n Y := by
  go_enter Try.func22, Try.ntmps22
  go_wp2_with (go_at_call 29; (with_reducible refine (stable_any b kb A ks n c cn _ hk hA hn).mono ?_); rintro x w2 ⟨rfl, hB, Z, hZ, HZ⟩)
  go_end0
  exact ⟨rfl, hB, Z, hZ, HZ⟩

theorem stRow_places (n : Nat) : stRow (fun j => (j : Int)) n n = pRow (fun k => k) n := by
  apply Array.ext_getElem?
  intro i
  by_cases hin : i < n
  · rw [stRow_get _ hin, pRow_get _ hin, if_pos hin]
  · rw [Array.getElem?_eq_none (by rw [stRow_size]; omega), Array.getElem?_eq_none (by rw [pRow_size]; omega)]

/-- The places as a list of integers. -/
def places (X : Nat → Nat) (n : Nat) : List Int := (List.range n).map fun j => (X j : Int)

theorem places_length (X : Nat → Nat) (n : Nat) : (places X n).length = n := by simp [places]

theorem places_get (X : Nat → Nat) {n k : Nat} (h : k < n) : (places X n).getD k 0 = X k := by simp [places, h]

theorem ints_of_places {w : World} {b n : Nat} {X : Nat → Nat} (h : IsP w b X n) (hn : n ≤ 10000) : Ints w (some ⟨b, 0, none⟩) (places X n) := by
  refine ⟨by rw [places_length]; unfold maxLen; omega, fun h0 => ⟨b, 0, rfl, fun k hk => ?_⟩⟩
  rw [places_length] at hk
  rw [Nat.zero_add, h.cell hk, places_get _ hk]

set_option maxHeartbeats 4000000 in
theorem order_any (A : Option Addr) (ks : List Int) (n c : Nat) (w : World) (hI : Ints w A ks) (hl : ks.length = n) (hn : n ≤ 10000) :
    Calls Try.prog 16 #[.slice A n c] w fun e w' => (∃ b X, e = .returned (.slice (some ⟨b, 0, none⟩) n n) ∧ w.heap.size ≤ b ∧ So.Blk (keyOf ks) 0 n X ∧ Ints w' (some ⟨b, 0, none⟩) (places X n)) ∧ Below w.heap.size w w' := by
  obtain ⟨i0, hi0, hz0, hz1, hz2⟩ := info_parts intZero
  have hmf : ∀ (fn : Fn) (first cap : Array Value) (w : World), (Instr.makeFunc fn first cap).run Try.prog w = .ok (.func fn first cap) w := fun _ _ _ _ => rfl
  have HI := Lib.hid hI
  have HL := Lib.hid hl
  clear hI hl
  go_enter Try.func16, Try.ntmps16
  go_upto_region 1 with (fail)
  generalize hW : World.alloc _ _ = W1
  have A0 : At W1 w.heap.size (.cells #[.slice A n c] 22) := hW ▸ At.new _ _
  have hB1 : Below w.heap.size w W1 := hW ▸ Below.alloc' (Below.refl _ _) _
  obtain ⟨b, hsz⟩ : ∃ b, W1.heap.size = b := ⟨_, rfl⟩
  have c0 := A0.cell 0
  simp only [List.getElem?_toArray, List.getElem?_cons_zero] at c0
  have l0 := A0.lt
  rw [hsz] at l0
  clear hW
  go_wp2_with (at_make; refine wpList_make_row _ rfl _ _ 22 rfl 3 i0 (.int .i64 0) Try.underlying22 hi0 hz0 hz1 rfl .i64 .i64 n rfl rfl (by rw [hz2]; omega) (by omega) ?_)
  generalize hW2 : World.alloc _ _ = W2
  have A1 : At W2 b (.cells (stRow (fun j => (j : Int)) n 0) 3) := by
    rw [← hW2, ← stRow_made]; exact At.new' _ hsz.symm
  have A2 : At W2 w.heap.size (.cells #[.slice A n c] 22) := hW2 ▸ A0.alloc _
  have hB2 : Below w.heap.size w W2 := hW2 ▸ Below.alloc' hB1 _
  clear hW2 hB1 A0 c0 hsz
  go_loopw [4, 10] (fun _ vi wr => ∃ k : Nat, k ≤ n ∧ vi = .int .i64 k ∧ At wr b (.cells (stRow (fun j => (j : Int)) n k) 3) ∧ At wr w.heap.size (.cells #[.slice A n c] 22) ∧ Below w.heap.size w wr) (fun _ vi _ => n - (intOf vi).toNat)
  case atStart => exact ⟨0, by omega, rfl, A1, A2, hB2⟩
  case round =>
    clear A1 A2 hB2
    obtain ⟨k, hk, rfl, A1, A2, hB⟩ := hrel
    by_cases hlt : k < n
    · have hltz : (k : Int) < (n : Int) := by omega
      have hz := A1.thaw k
      have hc := A1.cell k
      rw [stRow_get _ hlt] at hc
      have lb := A1.lt
      go_wp2
      go_roundw
      case rel => exact ⟨k + 1, by omega, by go_num, by rw [← stRow_set _ hlt]; exact A1.set k _, A2.off (by omega) _ _, Below.setCell hB (Nat.le_of_lt l0) _⟩
      case measure => simp [intOf]; omega
    · obtain rfl : k = n := by omega
      have c0 := A2.cell 0
      simp only [List.getElem?_toArray, List.getElem?_cons_zero] at c0
      have hK : Keys wr b w.heap.size A ks k c := ⟨c0, l0, Nat.le_of_lt A1.lt, HI.out.after hB, fun h0 x hx => Nat.lt_trans (HI.out.lt h0 x hx) l0, HL.out⟩
      have hP : IsP wr b (fun k => k) k := by unfold IsP; rw [← stRow_places]; exact A1
      have HKK := Lib.hid hK
      have lk := A2.lt
      clear hK c0 A1 A2 HI HL
      go_wp2_with (go_at_call 22; (with_reducible refine (sorting_any b w.heap.size A ks k c k _ HKK.out hP hn).mono ?_); rintro x w2 ⟨rfl, hB2, Z, hZ, HZ⟩)
      go_ret
      exact ⟨⟨b, Z, rfl, Nat.le_of_lt l0, HZ, ints_of_places hZ hn⟩, hB.trans (hB2.mono (Nat.le_of_lt l0))⟩

end Go.Proofs.Ytabmlohobbbnbaa.Fix
