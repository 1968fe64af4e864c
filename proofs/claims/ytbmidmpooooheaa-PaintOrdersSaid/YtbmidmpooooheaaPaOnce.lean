/- The statement PaintOnce, walked. -/
import Derived.Test.YtbmidmpooooheaaPaZ
namespace Go.Proofs.Ytbmidmpooooheaa.Fix
open Go.ChangeShapes Go.WideShapes Go.ChangeAt Go.RowKit Go.Deep Go.Joins
set_option linter.unusedVariables false
set_option linter.unusedSimpArgs false
set_option maxRecDepth 100000

/-- a row of what is true of places -/
def boRow (f : Nat → Bool) (n : Nat) : Array Value := ((List.range n).map fun j => Value.bool (f j)).toArray
theorem boRow_size (f : Nat → Bool) (n : Nat) : (boRow f n).size = n := by simp [boRow]
theorem boRow_get (f : Nat → Bool) {n j : Nat} (h : j < n) : (boRow f n)[j]? = some (.bool (f j)) := by simp [boRow, h]
theorem boRow_made (n : Nat) : madeCells #[.bool false] n = boRow (fun _ => false) n := by
  apply Array.ext
  · simp [boRow, size_madeCells]
  · intro i h1 h2
    simp [madeCells, boRow, Nat.mod_one]
theorem boRow_set (f : Nat → Bool) {n k : Nat} (h : k < n) : (boRow f n).setIfInBounds k (.bool true) = boRow (fun j => f j || j == k) n := by
  apply Array.ext_getElem?
  intro i
  rw [Array.getElem?_setIfInBounds, boRow_size]
  by_cases hin : i < n
  · rw [boRow_get _ hin, boRow_get _ hin]
    by_cases hik : k = i
    · subst hik; simp [hin]
    · simp only [hik, if_false]
      have : (i == k) = false := by simp; omega
      simp [this]
  · have h1 : ∀ g, (boRow g n)[i]? = none := fun g => Array.getElem?_eq_none (by rw [boRow_size]; omega)
    rw [h1, h1, if_neg (by omega)]
theorem boolZero : (Try.prog.info? 4).map (fun i => (i.zero, i.size, i.bytes)) = some (some (.bool false), 1, 1) := by kernel_rfl

/-- of two in a row that has each once -/
theorem bef_ways {l : Nat → PNd} {n a b : Nat} (h : PV l n) (ha : a < n) (hb : b < n) : (a = b ∧ pbef l n a b = false ∧ pbef l n b a = false) ∨ (a ≠ b ∧ pbef l n a b = true ∧ pbef l n b a = false) ∨ (a ≠ b ∧ pbef l n a b = false ∧ pbef l n b a = true) := by
  by_cases e : a = b
  · subst e
    have : pbef l n a a = false := pbef_false.2 fun k => k.ne (pord_nodup h) rfl
    exact .inl ⟨rfl, this, this⟩
  · rcases Pa.ah_tri ((pord_mem h).2 ha) ((pord_mem h).2 hb) e with k | k
    · exact .inr (.inl ⟨e, pbef_iff.2 k, pbef_asymm h (pbef_iff.2 k)⟩)
    · exact .inr (.inr ⟨e, pbef_asymm h (pbef_iff.2 k), pbef_iff.2 k⟩)

set_option maxHeartbeats 8000000 in
theorem paonce_core (C : PaintCode) (A : Option Addr) (n c : Nat) (l : Nat → PNd) (a b d : Nat) (w : World) (hS : PSl w A l n c) (hbig : ¬ (40 : Int) < (n : Int)) (hv : pvB l n = true) (ha : a < n) (hb : b < n) (hd : d < n) : Calls Try.prog 4 #[.slice A n c, .int .i64 (a : Int), .int .i64 (b : Int), .int .i64 (d : Int)] w fun e w' => e = .returned (.bool true) ∧ Below w.heap.size w w' := by
  obtain ⟨i0, hi0, hz0, hz1, hz2⟩ := info_parts boolZero
  have hn50 : n ≤ 50 := by omega
  have HV := Lib.hid (pvB_iff.1 hv)
  have a1 : ¬ (a : Int) < 0 := by omega
  have a2 : ¬ (n : Int) ≤ (a : Int) := by omega
  have b1 : ¬ (b : Int) < 0 := by omega
  have b2 : ¬ (n : Int) ≤ (b : Int) := by omega
  have d1 : ¬ (d : Int) < 0 := by omega
  have d2 : ¬ (n : Int) ≤ (d : Int) := by omega
  have HS := Lib.hid hS
  clear hS
  have HL := Lib.hid (pord_len HV.out)
  have HMEM : Hid (∀ x, x ∈ pord l n → x < n) := Lib.hid fun x hx => (pord_mem HV.out).1 hx
  have HND := Lib.hid (pord_nodup HV.out)
  have HW := Lib.hid (bef_ways HV.out ha hb)
  have HT : Hid (pbef l n a b = true → pbef l n b d = true → pbef l n a d = true) := Lib.hid fun p q => pbef_iff.2 ((pbef_iff.1 p).trans (pord_nodup HV.out) (pbef_iff.1 q))
  have KO := Lib.hid fun W (hb : Below w.heap.size w W) => C.order W _ l n c (HS.out.after hb) hn50
  rw [HL.out] at KO
  go_enter Try.func4, Try.ntmps4
  go_upto_region 7 with (first | (go_at_call 10; (with_reducible refine (paworks_any C _).mono ?_); rintro e w1 ⟨rfl, hB⟩) | (go_at_call 17; (with_reducible refine (C.valid _ _ l n c (HS.out.after hB) hn50).mono ?_); rintro e w1 ⟨rfl, hb⟩; replace hB := hB.trans (hb.mono hB.size); clear hb) | (go_at_call 16; (with_reducible refine (KO.out _ hB).mono ?_); rintro e w1 ⟨⟨B, dd, rfl, hI⟩, hb⟩; replace hB := hB.trans (hb.mono hB.size); clear hb))
  generalize pord l n = od at *
  have hA1 : At (w1.alloc (.cells (boRow (fun _ => false) n) 4)) w1.heap.size (.cells (boRow (fun _ => false) n) 4) := At.new _ _
  have hB1 : Below w1.heap.size w1 (w1.alloc (.cells (boRow (fun _ => false) n) 4)) := Below.alloc' (Below.refl _ _) _
  have HI := Lib.hid hI
  have HB := Lib.hid hB
  have HA1 := Lib.hid hA1
  have HB1 := Lib.hid hB1
  clear hI hB hA1 hB1 KO
  go_upto_region 9 with (at_make; refine wpList_make_row _ rfl _ _ 36 rfl 4 i0 (.bool false) Try.underlying36 hi0 hz0 hz1 rfl .i64 .i64 n rfl rfl (by rw [hz2]; omega) (by omega) ?_)
  rw [boRow_made]
  generalize hbb : w1.heap.size = bb at *
  generalize w1.alloc (.cells (boRow (fun _ => false) n) 4) = w2 at *
  clear hi0 hz0 hz1 hz2 i0
  have HB2 := Lib.hid (HB.out.trans (HB1.out.mono (by rw [← hbb]; exact HB.out.size)))
  go_wp2
  go_loopw [12] (fun iv wr => ∃ k : Nat, k ≤ n ∧ iv = .int .i64 (k : Int) ∧ At wr bb (.cells (boRow (fun j => decide (j ∈ od.take k)) n) 4) ∧ Below bb w1 wr) (fun iv _ => n - (intOf iv).toNat)
  case atStart => exact ⟨0, by omega, rfl, by simpa using HA1.out, HB1.out⟩
  case round =>
    obtain ⟨k, hk, rfl, hA, hb⟩ := hrel
    have hbl : Below w1.heap.size w1 wr := by rw [hbb]; exact hb
    by_cases hlt : k < n
    · have hltz : (k : Int) < (n : Int) := by omega
      obtain ⟨b6, o6, rfl, lb6, hcell6⟩ := (HI.out.after hbl).at_ (k := k) (by rw [pints_len, HL.out]; exact hlt)
      have lb6' : b6 < bb := by rw [← hbb]; exact HI.out.lt (by rw [pints_len, HL.out]; omega) _ rfl
      rw [pints_getD (by rw [HL.out]; exact hlt)] at hcell6
      have hx : od[k]? = some (od.getD k 0) := by rw [List.getD, List.getElem?_eq_getElem (by rw [HL.out]; exact hlt)]; rfl
      generalize od.getD k 0 = y at *
      have hyn : y < n := HMEM.out y (List.mem_of_getElem? hx)
      have hnew : y ∉ od.take k := fun q => by
        obtain ⟨i, hi⟩ := List.mem_iff_getElem?.1 q
        have hik : i < k := by have := (List.getElem?_eq_some_iff.1 hi).1; rw [List.length_take] at this; omega
        rw [List.getElem?_take, if_pos hik] at hi
        have h1 := (Pa.ah_places HND.out hi hx).2 hik
        exact h1.ne HND.out rfl
      have cz : wr.cell? ⟨bb, y, none⟩ = some (.bool false) := by rw [hA.cell, boRow_get _ hyn]; simp [hnew]
      have hz := hA.thaw y
      have hA2 := hA.set y (.bool true)
      rw [boRow_set _ hyn] at hA2
      have hsn : (fun j => decide (j ∈ od.take k) || j == y) = fun j => decide (j ∈ od.take (k + 1)) := by
        funext j
        have : od.take (k + 1) = od.take k ++ [y] := by rw [List.take_add_one, hx]; rfl
        rw [this]
        by_cases h1 : j ∈ od.take k
        · simp [h1]
        · by_cases h2 : j = y <;> simp [h1, h2]
      rw [hsn] at hA2
      have HA2 := Lib.hid hA2
      have HB3 := Lib.hid (show Below bb w1 (wr.setCell ⟨bb, y, none⟩ (.bool true)) from Below.setCell hb (show bb ≤ (⟨bb, y, none⟩ : Addr).block from Nat.le_refl _) _)
      have hy0 : ¬ (y : Int) < 0 := by omega
      have hy1 : ¬ (n : Int) ≤ (y : Int) := by omega
      have hyz : (y : Int) < (n : Int) := by omega
      clear hsn hnew hA hA2 hx hb hbl HA1 HB1 HB2 HW HT
      go_wp2
      go_roundw
      case rel => exact ⟨k + 1, by omega, by go_num, HA2.out, HB3.out⟩
      case measure => simp [intOf]; omega
    · have hltz : ¬ (k : Int) < (n : Int) := by omega
      have hB := HB.out.trans (hbl.mono HB.out.size)
      have hnn : ((n : Int) == n) = true := by simp
      clear hA hb hbl HA1 HB1 HB2 HI
      obtain rfl : k = n := by omega
      have hxy := HW.out
      have hxd := HT.out
      clear HW HT
      rcases hxy with ⟨e, p, q⟩ | ⟨e, p, q⟩ | ⟨e, p, q⟩
      · subst e
        cases hz : pbef l k (a : Int) (d : Int)
        all_goals
          go_wp2_with (first | (go_at_call 20; (with_reducible refine (C.before _ _ l k c _ _ (HS.out.after hB) hn50).mono ?_); rintro e w1 ⟨rfl, hb⟩; replace hB := hB.trans (hb.mono hB.size); clear hb))
          go_ret; exact ⟨rfl, hB⟩
      · have eb : ((a : Int) != (b : Int)) = true := by simp; omega
        cases hz : pbef l k (b : Int) (d : Int) with
        | true =>
          have hr := hxd p hz
          go_wp2_with (first | (go_at_call 20; (with_reducible refine (C.before _ _ l k c _ _ (HS.out.after hB) hn50).mono ?_); rintro e w1 ⟨rfl, hb⟩; replace hB := hB.trans (hb.mono hB.size); clear hb))
          go_ret; exact ⟨rfl, hB⟩
        | false =>
          go_wp2_with (first | (go_at_call 20; (with_reducible refine (C.before _ _ l k c _ _ (HS.out.after hB) hn50).mono ?_); rintro e w1 ⟨rfl, hb⟩; replace hB := hB.trans (hb.mono hB.size); clear hb))
          go_ret; exact ⟨rfl, hB⟩
      · have eb : ((a : Int) != (b : Int)) = true := by simp; omega
        cases hz : pbef l k (b : Int) (d : Int)
        all_goals
          go_wp2_with (first | (go_at_call 20; (with_reducible refine (C.before _ _ l k c _ _ (HS.out.after hB) hn50).mono ?_); rintro e w1 ⟨rfl, hb⟩; replace hB := hB.trans (hb.mono hB.size); clear hb))
          go_ret; exact ⟨rfl, hB⟩

set_option maxHeartbeats 8000000 in
theorem paonce_walk (C : PaintCode) (a0 : Option Addr) (len0 cap0 : Nat) (a1 a2 a3 : Int) (w : World) (w0 : PRow w a0 len0 cap0) : Calls Try.prog 4 #[.slice a0 len0 cap0, .int .i64 a1, .int .i64 a2, .int .i64 a3] w fun e w' => e = .returned (.bool true) ∧ Below w.heap.size w w' := by
  obtain ⟨l, hS⟩ := w0.sl
  have hn63 := w0.cap
  clear w0
  generalize len0 = n at *
  generalize cap0 = c at *
  have HS := Lib.hid hS
  by_cases hbig : (40 : Int) < (n : Int)
  · clear hS
    go_enter Try.func4, Try.ntmps4
    go_wp2_with (first | (go_at_call 10; (with_reducible refine (paworks_any C _).mono ?_); rintro e w1 ⟨rfl, hB⟩) | (go_at_call 17; (with_reducible refine (C.valid _ _ l n c (HS.out.after hB) hn50).mono ?_); rintro e w1 ⟨rfl, hb⟩; replace hB := hB.trans (hb.mono hB.size); clear hb))
    go_ret; exact ⟨rfl, hB⟩
  have hn50 : n ≤ 50 := by omega
  cases hv : pvB l n with
  | false =>
    clear hS
    go_enter Try.func4, Try.ntmps4
    go_wp2_with (first | (go_at_call 10; (with_reducible refine (paworks_any C _).mono ?_); rintro e w1 ⟨rfl, hB⟩) | (go_at_call 17; (with_reducible refine (C.valid _ _ l n c (HS.out.after hB) hn50).mono ?_); rintro e w1 ⟨rfl, hb⟩; replace hB := hB.trans (hb.mono hB.size); clear hb))
    go_ret; exact ⟨rfl, hB⟩
  | true =>
  by_cases h1 : a1 < 0
  · clear hS
    go_enter Try.func4, Try.ntmps4
    go_wp2_with (first | (go_at_call 10; (with_reducible refine (paworks_any C _).mono ?_); rintro e w1 ⟨rfl, hB⟩) | (go_at_call 17; (with_reducible refine (C.valid _ _ l n c (HS.out.after hB) hn50).mono ?_); rintro e w1 ⟨rfl, hb⟩; replace hB := hB.trans (hb.mono hB.size); clear hb))
    go_ret; exact ⟨rfl, hB⟩
  by_cases h2 : (n : Int) ≤ a1
  · clear hS
    go_enter Try.func4, Try.ntmps4
    go_wp2_with (first | (go_at_call 10; (with_reducible refine (paworks_any C _).mono ?_); rintro e w1 ⟨rfl, hB⟩) | (go_at_call 17; (with_reducible refine (C.valid _ _ l n c (HS.out.after hB) hn50).mono ?_); rintro e w1 ⟨rfl, hb⟩; replace hB := hB.trans (hb.mono hB.size); clear hb))
    go_ret; exact ⟨rfl, hB⟩
  by_cases h3 : a2 < 0
  · clear hS
    go_enter Try.func4, Try.ntmps4
    go_wp2_with (first | (go_at_call 10; (with_reducible refine (paworks_any C _).mono ?_); rintro e w1 ⟨rfl, hB⟩) | (go_at_call 17; (with_reducible refine (C.valid _ _ l n c (HS.out.after hB) hn50).mono ?_); rintro e w1 ⟨rfl, hb⟩; replace hB := hB.trans (hb.mono hB.size); clear hb))
    go_ret; exact ⟨rfl, hB⟩
  by_cases h4 : (n : Int) ≤ a2
  · clear hS
    go_enter Try.func4, Try.ntmps4
    go_wp2_with (first | (go_at_call 10; (with_reducible refine (paworks_any C _).mono ?_); rintro e w1 ⟨rfl, hB⟩) | (go_at_call 17; (with_reducible refine (C.valid _ _ l n c (HS.out.after hB) hn50).mono ?_); rintro e w1 ⟨rfl, hb⟩; replace hB := hB.trans (hb.mono hB.size); clear hb))
    go_ret; exact ⟨rfl, hB⟩
  by_cases h5 : a3 < 0
  · clear hS
    go_enter Try.func4, Try.ntmps4
    go_wp2_with (first | (go_at_call 10; (with_reducible refine (paworks_any C _).mono ?_); rintro e w1 ⟨rfl, hB⟩) | (go_at_call 17; (with_reducible refine (C.valid _ _ l n c (HS.out.after hB) hn50).mono ?_); rintro e w1 ⟨rfl, hb⟩; replace hB := hB.trans (hb.mono hB.size); clear hb))
    go_ret; exact ⟨rfl, hB⟩
  by_cases h6 : (n : Int) ≤ a3
  · clear hS
    go_enter Try.func4, Try.ntmps4
    go_wp2_with (first | (go_at_call 10; (with_reducible refine (paworks_any C _).mono ?_); rintro e w1 ⟨rfl, hB⟩) | (go_at_call 17; (with_reducible refine (C.valid _ _ l n c (HS.out.after hB) hn50).mono ?_); rintro e w1 ⟨rfl, hb⟩; replace hB := hB.trans (hb.mono hB.size); clear hb))
    go_ret; exact ⟨rfl, hB⟩
  obtain ⟨x, rfl⟩ : ∃ x : Nat, a1 = x := ⟨a1.toNat, by omega⟩
  obtain ⟨y, rfl⟩ : ∃ y : Nat, a2 = y := ⟨a2.toNat, by omega⟩
  obtain ⟨z, rfl⟩ : ∃ z : Nat, a3 = z := ⟨a3.toNat, by omega⟩
  exact paonce_core C a0 n c l x y z w hS hbig hv (by omega) (by omega) (by omega)

end Go.Proofs.Ytbmidmpooooheaa.Fix
