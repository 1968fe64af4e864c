/- The contract of the document's own Starts of the layer justify. -/
import Derived.Test.YteopkakjnjfheaaJu
import Derived.Test.YteopkakjnjfheaaLin
namespace Go.Proofs.Yteopkakjnjfheaa.Fix
open Go.ChangeShapes Go.WideShapes Go.ChangeAt Go.RowKit
set_option linter.unusedVariables false

set_option maxHeartbeats 4000000 in
theorem rstarts_any (A : Option Addr) (l : List Int) (n c : Nat) (kind room gap : Int) (w : World) (hI : Ints w A l) (hl : l.length = n) (hn : n ≤ 1000) :
    Calls Try.prog 13 #[.int .i64 kind, .slice A n c, .int .i64 room, .int .i64 gap] w fun e w' => (∃ D c', e = .returned (.slice D n c') ∧ Ints w' D (Ju.row (Ju.starts kind room gap l) n)) ∧ Below w.heap.size w w' := by
  have h0 : ∀ lf, Fx.sub room (Li.long gap l) = lf → Fx.cut lf = lf ∧ Fx.add 0 (Ju.rah kind lf 0 (n : Int)) = Ju.starts kind room gap l 0 := by
    rintro lf rfl; rw [← hl]; exact ⟨Ju.left_cut room gap l, Ju.rfirst⟩
  have hs : ∀ lf, Fx.sub room (Li.long gap l) = lf → ∀ m : Nat, Fx.add (Fx.add (Ju.rat (Ju.starts kind room gap l) l (m + 1)) gap) (Ju.rah kind lf ((m + 1 : Nat) : Int) (n : Int)) = Ju.starts kind room gap l (m + 1) := by
    rintro lf rfl m; rw [← hl]; exact Ju.rstep m
  generalize Ju.starts kind room gap l = f at *
  have HI := Lib.hid hI
  have HL := Lib.hid hl
  have H0 := Lib.hid h0
  have HS := Lib.hid hs
  clear hI hl h0 hs
  go_enter Try.func13, Try.ntmps13
  go_upto_region 3 with (first | (go_at_call 22; refine (rlong_any A l n c gap _ HI.out HL.out (by omega)).mono ?_; rintro e w' ⟨rfl, rfl⟩) | first | (go_at_call 21; (with_reducible refine (rsub_any _ _ _).mono ?_); rintro e w' ⟨rfl, rfl⟩))
  obtain ⟨hcut, h0⟩ := H0.out _ rfl
  replace H0 := Lib.hid h0
  clear h0
  replace HS := Lib.hid (HS.out _ rfl)
  generalize Fx.sub room (Li.long gap l) = lf at *
  go_wp2
  go_loopw [9, 11, 12] (fun v t i wr => ∃ k : Nat, k ≤ n ∧ i = .int .i64 k ∧ t = .int .i64 (Ju.rat f l k) ∧ wr.ownsRow w.heap.size 3 1 v k ((Ju.row f k).map (Value.int .i64)) ∧ Below w.heap.size w wr) (fun _ _ i _ => n - (intOf i).toNat)
  case atStart => exact ⟨0, by omega, rfl, rfl, World.ownsRow_nil _ _ _ _, Below.refl _ _⟩
  case round =>
    obtain ⟨k, hk, rfl, rfl, hown, hB⟩ := hrel
    by_cases hlt : k < n
    · have hltz : (k : Int) < (n : Int) := by omega
      obtain ⟨b1, o1, hA1, l1, c1⟩ := (HI.out.after hB).at_ (k := k) (by rw [HL.out]; exact hlt)
      have L1 : Hid (b1 < w.heap.size) := Lib.hid (HI.out.lt (by rw [HL.out]; omega) _ hA1)
      obtain ⟨v', w', hrun, hown2, hB2, hb2⟩ := append_int (f k) hown hB (by have := hB.size; omega) (by omega)
      rw [← Ju.row_succ] at hown2
      have HO := Lib.hid hown2
      have HRUN := Lib.hid hrun
      have HR : Hid (Ju.rat f l (k + 1) = Fx.add (f k) (l.getD k 0)) := Lib.hid rfl
      clear hown2 hrun hown
      subst hA1
      rcases Nat.eq_zero_or_pos k with rfl | h0
      · simp only [Nat.add_zero] at c1
        have c4 : w'.cell? ⟨b1, o1, none⟩ = some (.int .i64 (l.getD 0 0)) := (hB2.cell (p := ⟨b1, o1, none⟩) L1.out).trans ((hB.cell (p := ⟨b1, o1, none⟩) L1.out).symm.trans c1)
        have l4 := Nat.lt_of_lt_of_le L1.out hB2.size
        have hrz : Hid (Ju.rat f l 0 = 0) := Lib.hid rfl
        generalize l.getD 0 0 = x at *
        rw [hrz.out]
        clear hB c1 l1
        go_upto_region 10 with (first | first | (go_at_call 24; (with_reducible refine (rahead_any _ _ _ _ _ (by assumption) (by omega) (by omega) (by omega) (by omega)).mono ?_); rintro e w' ⟨rfl, rfl⟩) | first | (go_at_call 23; (with_reducible refine (radd_any _ _ _).mono ?_); rintro e w' ⟨rfl, rfl⟩))
        rw [H0.out]
        go_wp2_with (first | (at_builtin; refine wpList_append_run (by rfl) _ _ 23 rfl rfl rfl HRUN.out ?_) | first | (go_at_call 23; (with_reducible refine (radd_any _ _ _).mono ?_); rintro e w' ⟨rfl, rfl⟩))
        go_roundw
        case rel => exact ⟨1, by omega, by go_num, by rw [HR.out], HO.out, hB2⟩
        case measure => simp [intOf]; omega
      · obtain ⟨m, hm⟩ : ∃ m, k = m + 1 := ⟨k - 1, by omega⟩
        have HST : Hid (Fx.add (Fx.add (Ju.rat f l k) gap) (Ju.rah kind lf (k : Int) (n : Int)) = f k) := Lib.hid (by subst hm; exact HS.out m)
        clear hm
        have c4 : w'.cell? ⟨b1, o1 + k, none⟩ = some (.int .i64 (l.getD k 0)) := (hB2.cell (p := ⟨b1, o1 + k, none⟩) L1.out).trans ((hB.cell (p := ⟨b1, o1 + k, none⟩) L1.out).symm.trans c1)
        have l4 := Nat.lt_of_lt_of_le L1.out hB2.size
        have h0z : (0 : Int) < (k : Int) := by omega
        generalize l.getD k 0 = x at *
        generalize Ju.rat f l k = r at *
        clear hB c1 l1
        go_upto_region 10 with (first | first | (go_at_call 24; (with_reducible refine (rahead_any _ _ _ _ _ (by assumption) (by omega) (by omega) (by omega) (by omega)).mono ?_); rintro e w' ⟨rfl, rfl⟩) | first | (go_at_call 23; (with_reducible refine (radd_any _ _ _).mono ?_); rintro e w' ⟨rfl, rfl⟩))
        rw [HST.out]
        go_wp2_with (first | (at_builtin; refine wpList_append_run (by rfl) _ _ 23 rfl rfl rfl HRUN.out ?_) | first | (go_at_call 23; (with_reducible refine (radd_any _ _ _).mono ?_); rintro e w' ⟨rfl, rfl⟩))
        go_roundw
        case rel => exact ⟨k + 1, by omega, by go_num, by rw [HR.out], HO.out, hB2⟩
        case measure => simp [intOf]; omega
    · obtain rfl : k = n := by omega
      have hltz : ¬ (k : Int) < (k : Int) := by omega
      obtain ⟨D, c', rfl, hI'⟩ := ints_of_own hown (by simp only [maxLen]; omega)
      rw [Ju.row_length]
      go_wp2
      refine bodyPost_ret (v := .slice D k c') (by simp [results, Try.results13, go_sem, *]; first | done | exact ⟨rfl, rfl⟩ | rfl) rfl ⟨⟨D, ⟨c', rfl⟩, hI'⟩, hB⟩

end Go.Proofs.Yteopkakjnjfheaa.Fix
