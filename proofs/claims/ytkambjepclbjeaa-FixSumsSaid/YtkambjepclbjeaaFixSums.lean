/- The walk of FixSums: the sum of any list, and of that list turned round, gathered in the call's own memory. -/
import Derived.Test.YtkambjepclbjeaaWorks
import Derived.Maps.AppendAt
namespace Go.Proofs.Ytkambjepclbjeaa.Fix
open Go.ChangeShapes Go.WideShapes Go.ChangeAt Go.RowKit
set_option linter.unusedVariables false

theorem intInfo : (Try.prog.info? 3).map (fun i => (i.zero, i.size, i.bytes)) = some (some (.int .i64 0), 1, 8) := by kernel_rfl

def SumsRel (w : World) (l : List Int) (n : Nat) (v s i : Value) (wr : World) : Prop :=
  ∃ k : Nat, k ≤ n ∧ i = .int .i64 ((k : Int) - 1) ∧ s = .bool (Fx.smallB (l.drop k)) ∧ wr.ownsRow w.heap.size 3 1 v (n - k) ((l.drop k).reverse.map (Value.int .i64)) ∧ Below w.heap.size w wr

theorem drop_pred (l : List Int) (k : Nat) (h0 : 0 < k) (h : k ≤ l.length) : l.drop (k - 1) = l.getD (k - 1) 0 :: l.drop k := by
  have := List.drop_eq_getElem_cons (l := l) (i := k - 1) (by omega)
  rw [this, show k - 1 + 1 = k by omega]
  simp [show k - 1 < l.length by omega]

theorem sums_core (A : Option Addr) (l : List Int) (c : Nat) (w : World) (hI : Ints w A l) (hA : 0 < l.length → ∀ x, A = some x → x.block < w.heap.size) (hm : l.length ≤ 1000) :
    Calls Try.prog 4 #[.slice A l.length c] w fun e w' => e = .returned (.bool true) ∧ Below w.heap.size w w' := by
  obtain ⟨i0, hi0, hz0, hz1, hz2⟩ := info_parts intInfo
  generalize hn : l.length = n at *
  have HN := Lib.hid hn; clear hn
  have HI := Lib.hid hI; clear hI
  have HA := Lib.hid hA; clear hA
  go_enter Try.func4, Try.ntmps4
  go_wp2_with (go_at_call 10; refine (works_any _).mono ?_; rintro e w1 ⟨rfl, hb, hg⟩)
  go_loopw [4, 5, 6] (fun v s i wr => SumsRel w l n v s i wr) (fun _ _ i _ => (intOf i + 1).toNat)
  case atStart =>
    refine ⟨n, Nat.le_refl _, rfl, ?_, ?_, hb⟩
    · rw [← HN.out]; simp [Fx.smallB]
    · rw [← HN.out]; simp; exact World.ownsRow_nil _ _ _ _
  case round =>
    obtain ⟨k, hk, rfl, rfl, hown, hbel⟩ := hrel
    by_cases h0 : 0 < k
    · obtain ⟨b, off, rfl, hc⟩ := HI.out.2 (by rw [HN.out]; omega)
      have hcw := hc (k - 1) (by rw [HN.out]; omega)
      have HLT : Hid (b < w.heap.size) := Lib.hid (HA.out (by omega) ⟨b, off, none⟩ rfl)
      have hcell : wr.cell? ⟨b, off + (k - 1), none⟩ = some (.int .i64 (l.getD (k - 1) 0)) := (hbel.cell (p := ⟨b, off + (k - 1), none⟩) HLT.out).trans hcw
      clear hc
      have hd := drop_pred l k h0 (by rw [HN.out]; omega)
      have HD := Lib.hid hd; clear hd
      generalize hz : l.getD (k - 1) 0 = z at *
      clear hz
      have HCW := Lib.hid hcw
      clear hcw
      have hsz := hbel.size
      have hown' : wr.ownsRow w.heap.size 3 1 u4 (n - k) ((l.drop k).reverse.map (Value.int .i64)) := hown
      obtain ⟨sb, hsb⟩ : ∃ sb, Fx.smallB (l.drop k) = sb := ⟨_, rfl⟩
      obtain ⟨x, hx⟩ : ∃ x, decide (z ≤ 1073741824) = x := ⟨_, rfl⟩
      obtain ⟨y, hy⟩ : ∃ y, decide (-1073741824 ≤ z) = y := ⟨_, rfl⟩
      have HB : Hid (Fx.smallB (l.drop (k - 1)) = (sb && x && y)) := Lib.hid (by rw [HD.out, Fx.smallB_cons, hsb, hx, hy])
      have HL : Hid ((l.drop (k - 1)).reverse.map (Value.int .i64) = (l.drop k).reverse.map (Value.int .i64) ++ [.int .i64 z]) := Lib.hid (by rw [HD.out]; simp)
      rw [hsb]
      have HSB := Lib.hid hsb
      clear hsb
      cases sb <;> cases x <;> cases y
      all_goals
        go_wp2_with (at_builtin; refine wpList_append_own _ rfl _ _ 27 rfl w.heap.size 3 i0 (.int .i64 0) 1 8 Try.underlying27 hi0 hz0 hz1 hz2 rfl (by decide) _ _ _ rfl (hown.alloc _) ⟨wr.heap.size, 0, none⟩ 1 1 [.int .i64 z] rfl rfl (cell_one_new _ _ _) (by intro u hu; simp at hu; subst hu; rfl) (by simp only [maxLen]; omega) (by omega) (by simp; omega) ?_; intro v' w2 hown2 hg2 _; have hbel2 : Below w.heap.size w w2 := (hbel.alloc (by omega) _).grown hg2 (by simp; omega) (fun g hgg => ((hown'.lt g hgg).1)); have hcell2 := (hbel2.cell (p := ⟨b, off + (k - 1), none⟩) HLT.out).trans HCW.out)
        go_roundw
        case rel => exact ⟨k - 1, by omega, by rw [show ((k - 1 : Nat) : Int) = (k : Int) - 1 by omega], by rw [HB.out]; rfl, by rw [HL.out, show n - (k - 1) = n - k + 1 by omega]; exact hown2, hbel2⟩
        case measure => simp [intOf]; omega
    · obtain rfl : k = 0 := by omega
      have hIr := HI.out.keep hbel (by rw [HN.out]; exact HA.out)
      obtain ⟨A', c', rfl, hI'⟩ := ints_of_own hown (by simp only [maxLen]; omega)
      have S1 := sum_any A l c wr hIr
      have S2 := rsum_any A l c wr hIr
      have S3 := sum_any A' _ c' wr hI'
      rw [HN.out] at S1 S2
      simp only [List.drop_zero] at S3 ⊢
      rw [show l.reverse.length = n by rw [List.length_reverse, HN.out]] at S3 ⊢
      have S1 := Lib.hid S1
      have S2 := Lib.hid S2
      have S3 := Lib.hid S3
      obtain ⟨sb, hsb⟩ : ∃ sb, Fx.smallB l = sb := ⟨_, rfl⟩
      have HR : Hid (sb = true → Fx.sum l.reverse = Fx.sum l) := Lib.hid (fun h => Fx.sum_reverse (by rw [hsb]; exact h) (by rw [HN.out]; exact hm))
      rw [hsb]
      clear hsb hown hI' hIr
      cases sb
      · go_wp2_with fail
        refine S1.out.mono ?_
        rintro e w' ⟨rfl, rfl⟩
        go_wp2_with fail
        refine S2.out.mono ?_
        rintro e w' ⟨rfl, rfl⟩
        go_wp2_with fail
        go_ret
        exact ⟨rfl, hbel⟩
      · have S3 := S3.out
        rw [HR.out rfl] at S3
        have S3 := Lib.hid S3
        go_wp2_with fail
        refine S1.out.mono ?_
        rintro e w' ⟨rfl, rfl⟩
        go_wp2_with fail
        refine S2.out.mono ?_
        rintro e w' ⟨rfl, rfl⟩
        go_wp2_with fail
        refine S3.out.mono ?_
        rintro e w' ⟨rfl, rfl⟩
        go_wp2_with fail
        refine S1.out.mono ?_
        rintro e w' ⟨rfl, rfl⟩
        go_wp2_with fail
        go_ret
        exact ⟨rfl, hbel⟩

theorem sums_big (A : Option Addr) (n c : Nat) (w : World) (hm : 1000 < n) (hx : n ≤ 9223372036854775807) :
    Calls Try.prog 4 #[.slice A n c] w fun e w' => e = .returned (.bool true) ∧ Below w.heap.size w w' := by
  go_enter Try.func4, Try.ntmps4
  go_wp2_with (go_at_call 10; refine (works_any _).mono ?_; rintro e w1 ⟨rfl, hb, hg⟩)
  go_ret
  exact ⟨rfl, hb⟩

theorem sums_walk (a : Option Addr) (len cap : Nat) (zs : List Int) (w : World)
    (h : (a = none ∧ len = 0 ∧ cap = 0 ∧ zs = []) ∨ ∃ x, a = some x ∧ len ≤ cap ∧ cap ≤ maxLen ∧ zs.length = cap ∧ (∀ i, i < zs.length → w.cell? (x.add i) = some (.int .i64 (zs.getD i 0))) ∧ ∀ n ∈ zs, (Lit.int .i64 n).wf = true) :
    Calls Try.prog 4 #[.slice a len cap] w fun e w' => e = .returned (.bool true) ∧ Below w.heap.size w w' := by
  obtain ⟨l, rfl, hI, hlt, _, _⟩ := ints_of_row h
  by_cases hm : l.length ≤ 1000
  · exact sums_core a l cap w hI hlt hm
  · exact sums_big a l.length cap w (by omega) (by have := hI.1; simp only [maxLen] at this; omega)
end Go.Proofs.Ytkambjepclbjeaa.Fix
