/- The document's examples of the layer justify (works), and JustifyStarts: it returns true, and leaves all that was there as it was. -/
import Derived.Test.YteopkakjnjfheaaJuFlip
import Derived.Test.YteopkakjnjfheaaJuRef
import Derived.Test.YteopkakjnjfheaaRow
namespace Go.Proofs.Yteopkakjnjfheaa.Fix
open Go.ChangeShapes Go.WideShapes Go.ChangeAt Go.RowKit
set_option linter.unusedVariables false

/-- What the frame hands on of a slice of integers. -/
def Row (w : World) (a : Option Addr) (len cap : Nat) (zs : List Int) : Prop :=
  (a = none ∧ len = 0 ∧ cap = 0 ∧ zs = []) ∨ ∃ x, a = some x ∧ len ≤ cap ∧ cap ≤ maxLen ∧ zs.length = cap ∧ (∀ i, i < zs.length → w.cell? (x.add i) = some (.int .i64 (zs.getD i 0))) ∧ ∀ n ∈ zs, (Lit.int .i64 n).wf = true

theorem Row.cap {w : World} {a : Option Addr} {len cap : Nat} {zs : List Int} (h : Row w a len cap zs) : len ≤ cap := by
  rcases h with ⟨_, rfl, rfl, _⟩ | ⟨_, _, h, _⟩ <;> omega

theorem starts_ex (kind x y : Int) (h : Ju.row (Ju.starts kind 10 0 [2, 2]) 2 = [x, y]) (w : World) : Calls Try.prog 10 #[.int .i64 kind, .slice (some ⟨w.heap.size, 0, none⟩) 2 2, .int .i64 10, .int .i64 0] (w.alloc (.cells #[.int .i64 2, .int .i64 2] 3)) fun e w' => (∃ b, e = .returned (.slice (some ⟨b, 0, none⟩) 2 2) ∧ Ints w' (some ⟨b, 0, none⟩) [x, y]) ∧ Below w.heap.size w w' := by
  refine (starts_any _ [2, 2] 2 2 kind 10 0 _ (ints_new w [2, 2] _ (by simp)) rfl (by omega) (by omega)).mono ?_
  rintro e w' ⟨⟨b, rfl, hI⟩, hB⟩
  rw [h] at hI
  exact ⟨⟨b, rfl, hI⟩, Below.after2 (Below.alloc' (Below.refl _ _) _) (Nat.le_refl _) hB⟩

theorem flip_ex (A : Option Addr) (w : World) (hI : Ints w A [0, 8]) : Calls Try.prog 11 #[.slice A 2 2, .slice (some ⟨w.heap.size, 0, none⟩) 2 2, .int .i64 10] (w.alloc (.cells #[.int .i64 2, .int .i64 2] 3)) fun e w' => (∃ b, e = .returned (.slice (some ⟨b, 0, none⟩) 2 2) ∧ Ints w' (some ⟨b, 0, none⟩) [8, 0]) ∧ Below w.heap.size w w' := by
  refine (flip_any A _ [0, 8] [2, 2] 2 2 2 10 _ (hI.after (Below.alloc' (Below.refl _ _) _)) (ints_new w [2, 2] _ (by simp)) rfl rfl (by omega)).mono ?_
  rintro e w' ⟨⟨b, rfl, hI⟩, hB⟩
  exact ⟨⟨b, rfl, hI⟩, Below.after2 (Below.alloc' (Below.refl _ _) _) (Nat.le_refl _) hB⟩

theorem ints_pair {w : World} {b : Nat} {x y : Int} (h : Ints w (some ⟨b, 0, none⟩) [x, y]) : b < w.heap.size ∧ w.cell? ⟨b, 0, none⟩ = some (.int .i64 x) ∧ w.cell? ⟨b, 1, none⟩ = some (.int .i64 y) := by
  obtain ⟨b0, o0, e0, l0, c0⟩ := h.at_ (k := 0) (by simp)
  obtain ⟨b1, o1, e1, l1, c1⟩ := h.at_ (k := 1) (by simp)
  injection e0 with e0; injection e0 with e00 e01
  injection e1 with e1; injection e1 with e10 e11
  subst e00 e01
  subst e10 e11
  exact ⟨l0, by simpa using c0, by simpa using c1⟩

set_option maxHeartbeats 4000000 in
theorem jworks_any (w : World) : Calls Try.prog 9 #[] w fun e w' => e = .returned (.bool true) ∧ Below w.heap.size w w' := by
  have ha : Ju.across 3 3 10 = 7 := by decide
  go_enter Try.func9, Try.ntmps9
  go_upto_region 2 with (go_at_call 10; refine (starts_ex 3 0 8 (by decide) _).mono ?_; rintro e w1 ⟨⟨b1, rfl, hI1⟩, hB⟩)
  have HI1 := Lib.hid hI1
  clear hI1
  go_upto_region 3 with (go_at_call 10; refine (starts_ex 5 2 6 (by decide) _).mono ?_; rintro e w2 ⟨⟨b2, rfl, hI2⟩, hb⟩)
  replace HI1 := Lib.hid (HI1.out.after hb)
  replace hB := Below.after2 hB (Nat.le_refl _) hb
  have HI2 := Lib.hid hI2
  clear hI2 hb
  go_upto_region 4 with (go_at_call 11; refine (flip_ex _ _ HI1.out).mono ?_; rintro e w3 ⟨⟨b3, rfl, hI3⟩, hb⟩)
  obtain ⟨l1, c10, c11⟩ := ints_pair (HI1.out.after hb)
  obtain ⟨l2, c20, c21⟩ := ints_pair (HI2.out.after hb)
  obtain ⟨l3, c30, c31⟩ := ints_pair hI3
  replace hB := Below.after2 hB (Nat.le_refl _) hb
  have HB := Lib.hid hB
  clear hI3 hb hB HI1 HI2
  go_wp2_with (go_at_call 15; refine (jacross_any _ _ _ _).mono ?_; rw [ha]; rintro e w' ⟨rfl, rfl⟩)
  go_ret
  exact ⟨rfl, HB.out⟩

theorem jstarts_out (A : Option Addr) (n c : Nat) (kind room gap al : Int) (w : World) (hx : n ≤ 9223372036854775807) (h : 200 < n) :
    Calls Try.prog 3 #[.int .i64 kind, .slice A n c, .int .i64 room, .int .i64 gap, .int .i64 al] w fun e w' => e = .returned (.bool true) ∧ Below w.heap.size w w' := by
  go_enter Try.func3, Try.ntmps3
  go_wp2_with (go_at_call 9; with_reducible refine (jworks_any _).mono ?_; rintro e w1 ⟨rfl, hB⟩)
  go_ret
  exact ⟨rfl, hB⟩

set_option maxHeartbeats 4000000 in
theorem jstarts_core (A : Option Addr) (l : List Int) (n c : Nat) (kind room gap al : Int) (w : World) (hI : Ints w A l) (hl : l.length = n) (hc : n ≤ c) (hn : n ≤ 200) :
    Calls Try.prog 3 #[.int .i64 kind, .slice A n c, .int .i64 room, .int .i64 gap, .int .i64 al] w fun e w' => e = .returned (.bool true) ∧ Below w.heap.size w w' := by
  have e1 : decide (200 < (n : Int)) = false := by simp; omega
  have HI := Lib.hid hI
  have HL := Lib.hid hl
  have HRL : Hid (∀ f, (Ju.row f n).length = n) := Lib.hid (fun f => Ju.row_length f n)
  clear hI hl
  go_enter Try.func3, Try.ntmps3
  go_upto_region 6 with (go_at_call 9; with_reducible refine (jworks_any _).mono ?_; rintro e w1 ⟨rfl, hB⟩)
  go_upto_region 7 with (go_at_call 10; refine (starts_any A l n c kind room gap _ (HI.out.after hB) HL.out hc (by omega)).mono ?_; rintro e w2 ⟨⟨b1, rfl, hI1⟩, hb⟩)
  replace hB := Below.after2 hB (Nat.le_refl _) hb
  have H1 := Lib.hid hI1
  clear hI1 hb
  go_upto_region 8 with (go_at_call 11; refine (flip_any _ A _ l n n c room _ H1.out (HI.out.after hB) (HRL.out _) HL.out (by omega)).mono ?_; rintro e w3 ⟨⟨b2, rfl, hI2⟩, hb⟩)
  replace hB := Below.after2 hB (Nat.le_refl _) hb
  replace H1 := Lib.hid (H1.out.after hb)
  have H2 := Lib.hid hI2
  clear hI2 hb
  go_wp2_with (first
    | (go_at_call 13; refine (rstarts_any A l n c kind room gap _ (HI.out.after hB) HL.out (by omega)).mono ?_; rintro e w4 ⟨⟨D1, d1, rfl, hJ1⟩, hb⟩; replace hB := Below.after2 hB (Nat.le_refl _) hb; replace H1 := Lib.hid (H1.out.after hb); replace H2 := Lib.hid (H2.out.after hb); have H3 := Lib.hid hJ1; clear hJ1 hb)
    | (go_at_call 12; refine (row_any (some ⟨b1, 0, none⟩) _ _ n _ _ _ H1.out H3.out (HRL.out _) (by omega)).mono ?_; rintro e w4 ⟨rfl, hb⟩; replace hB := Below.after2 hB (Nat.le_refl _) hb; replace H1 := Lib.hid (H1.out.after hb); replace H2 := Lib.hid (H2.out.after hb); clear H3 hb)
    | (go_at_call 14; refine (rflip_any _ A _ l n n c room _ H1.out (HI.out.after hB) (HRL.out _) HL.out (by omega)).mono ?_; rintro e w4 ⟨⟨D1, d1, rfl, hJ1⟩, hb⟩; replace hB := Below.after2 hB (Nat.le_refl _) hb; replace H2 := Lib.hid (H2.out.after hb); have H3 := Lib.hid hJ1; clear hJ1 hb H1)
    | (go_at_call 12; refine (row_any (some ⟨b2, 0, none⟩) _ _ n _ _ _ H2.out H3.out (HRL.out _) (by omega)).mono ?_; rintro e w4 ⟨rfl, hb⟩; replace hB := Below.after2 hB (Nat.le_refl _) hb; clear H3 hb)
    | first | (go_at_call 15; (with_reducible refine (jacross_any _ _ _ _).mono ?_); rintro e w' ⟨rfl, rfl⟩) | (go_at_call 16; (with_reducible refine (racross_any _ _ _ _).mono ?_); rintro e w' ⟨rfl, rfl⟩))
  go_ret
  exact ⟨rfl, hB⟩

theorem jstarts_walk (kind : Int) (a1 : Option Addr) (len1 cap1 : Nat) (z1 : List Int) (room gap al : Int) (w : World) (h1 : Row w a1 len1 cap1 z1) :
    Calls Try.prog 3 #[.int .i64 kind, .slice a1 len1 cap1, .int .i64 room, .int .i64 gap, .int .i64 al] w fun e w' => e = .returned (.bool true) ∧ Below w.heap.size w w' := by
  have k1 := h1.cap
  obtain ⟨l, rfl, hl, _, _, _⟩ := ints_of_row h1
  have m1 := hl.1
  simp only [maxLen] at m1
  by_cases h : 200 < l.length
  · exact jstarts_out a1 _ cap1 kind room gap al w (by omega) h
  · exact jstarts_core a1 l _ cap1 kind room gap al w hl rfl k1 (by omega)

end Go.Proofs.Yteopkakjnjfheaa.Fix
