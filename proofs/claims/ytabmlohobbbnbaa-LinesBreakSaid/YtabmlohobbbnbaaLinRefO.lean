/- The contract of the document's own Order of the layer lines. -/
import Derived.Test.YtabmlohobbbnbaaLinRef
namespace Go.Proofs.Ytabmlohobbbnbaa.Fix
open Go.ChangeShapes Go.WideShapes Go.ChangeAt Go.RowKit
set_option linter.unusedVariables false

/-- the first k of an order have been taken -/
def Taken (X : Nat → Nat) (k : Nat) (F : Nat → Bool) : Prop := ∀ j, F j = true ↔ ∃ q, q < k ∧ X q = j

theorem Taken.none_ {X : Nat → Nat} : Taken X 0 (fun _ => false) := fun j => ⟨fun h => (by cases h), fun ⟨q, h, _⟩ => (by omega)⟩

theorem Taken.next {X : Nat → Nat} {k : Nat} {F : Nat → Bool} (h : Taken X k F) : Taken X (k + 1) (fun j => if j = X k then true else F j) := by
  intro j
  constructor
  · intro hj
    by_cases e : j = X k
    · exact ⟨k, by omega, e.symm⟩
    · simp only [if_neg e] at hj
      obtain ⟨q, q1, q2⟩ := (h j).1 hj
      exact ⟨q, by omega, q2⟩
  · rintro ⟨q, q1, q2⟩
    by_cases e : j = X k
    · simp [e]
    · simp only [if_neg e]
      refine (h j).2 ⟨q, ?_, q2⟩
      rcases Nat.lt_or_ge q k with h1 | h1
      · exact h1
      · obtain rfl : q = k := by omega
        exact absurd q2.symm e

/-- the next of the order is still there -/
theorem Taken.free {K : Nat → Int} {X : Nat → Nat} {n k : Nat} {F : Nat → Bool} (h : Taken X k F) (hX : So.Blk K 0 n X) (hk : k < n) : F (X k) = false := by
  cases e : F (X k) with
  | false => rfl
  | true =>
    obtain ⟨q, q1, q2⟩ := (h _).1 e
    have := hX.1 q k (by omega) q1 hk
    rw [q2] at this
    exact (So.lt_irrefl this).elim

/-- the least of those that are still there, up to i: none as yet, or at -/
def Least (K : Nat → Int) (F : Nat → Bool) (i : Nat) (z : Int) : Prop := (z = -1 ∧ ∀ j, j < i → F j = true) ∨ ∃ a, z = ((a : Nat) : Int) ∧ a < i ∧ F a = false ∧ ∀ j, j < i → F j = false → j = a ∨ So.lt K a j

theorem Least.start (K : Nat → Int) (F : Nat → Bool) : Least K F 0 (-1) := .inl ⟨rfl, fun j h => by omega⟩

theorem Least.skip {K : Nat → Int} {F : Nat → Bool} {i : Nat} {z : Int} (h : Least K F i z) (hi : F i = true) : Least K F (i + 1) z := by
  rcases h with ⟨h1, h2⟩ | ⟨a, h1, h2, h3, h4⟩
  · refine .inl ⟨h1, fun j hj => ?_⟩
    rcases Nat.lt_or_ge j i with h | h
    · exact h2 j h
    · obtain rfl : j = i := by omega
      exact hi
  · refine .inr ⟨a, h1, by omega, h3, fun j hj hf => ?_⟩
    rcases Nat.lt_or_ge j i with h | h
    · exact h4 j h hf
    · obtain rfl : j = i := by omega
      rw [hi] at hf; cases hf

theorem Least.first {K : Nat → Int} {F : Nat → Bool} {i : Nat} (h : Least K F i (-1)) (hi : F i = false) : Least K F (i + 1) (i : Int) := by
  rcases h with ⟨_, h2⟩ | ⟨a, h1, _⟩
  · refine .inr ⟨i, rfl, by omega, hi, fun j hj hf => ?_⟩
    rcases Nat.lt_or_ge j i with h | h
    · rw [h2 j h] at hf; cases hf
    · exact .inl (by omega)
  · omega

theorem Least.less {K : Nat → Int} {F : Nat → Bool} {i a : Nat} (h : Least K F i (a : Int)) (hi : F i = false) (hk : K i < K a) : Least K F (i + 1) (i : Int) := by
  rcases h with ⟨h1, _⟩ | ⟨b, h1, h2, h3, h4⟩
  · omega
  · obtain rfl : a = b := by omega
    refine .inr ⟨i, rfl, by omega, hi, fun j hj hf => ?_⟩
    rcases Nat.lt_or_ge j i with h | h
    · right
      have hl : So.lt K i a := Or.inl hk
      rcases h4 j h hf with rfl | h5
      · exact hl
      · exact So.lt_trans hl h5
    · exact .inl (by omega)

theorem Least.keep {K : Nat → Int} {F : Nat → Bool} {i a : Nat} (h : Least K F i (a : Int)) (hk : ¬ K i < K a) : Least K F (i + 1) (a : Int) := by
  rcases h with ⟨h1, _⟩ | ⟨b, h1, h2, h3, h4⟩
  · omega
  · obtain rfl : a = b := by omega
    refine .inr ⟨a, rfl, by omega, h3, fun j hj hf => ?_⟩
    rcases Nat.lt_or_ge j i with h | h
    · exact h4 j h hf
    · obtain rfl : j = i := by omega
      exact .inr (So.lt_not h2 hk)

theorem Least.at_ {K : Nat → Int} {F : Nat → Bool} {i a : Nat} (h : Least K F i (a : Int)) : a < i := by
  rcases h with ⟨h1, _⟩ | ⟨b, h1, h2, _⟩
  · omega
  · omega

theorem Least.cases {K : Nat → Int} {F : Nat → Bool} {i : Nat} {z : Int} (h : Least K F i z) : z = -1 ∨ ∃ a : Nat, z = (a : Int) ∧ a < i := by
  rcases h with ⟨h1, _⟩ | ⟨a, h1, h2, _⟩
  · exact .inl h1
  · exact .inr ⟨a, h1, h2⟩

/-- what the search finds is the next of the order -/
theorem Least.found {K : Nat → Int} {X : Nat → Nat} {n k : Nat} {F : Nat → Bool} {z : Int} (h : Least K F n z) (hT : Taken X k F) (hX : So.Blk K 0 n X) (hk : k < n) : z = (X k : Int) := by
  have hf := hT.free hX hk
  have hn := (hX.2.in_ (k := k) (by omega) hk).2
  rcases h with ⟨_, h2⟩ | ⟨a, h1, h2, h3, h4⟩
  · rw [h2 _ hn] at hf; cases hf
  · rcases h4 _ hn hf with e | hl
    · rw [h1, e]
    · exfalso
      obtain ⟨q, _, q1, q2⟩ := (hX.2 a).2 (by omega)
      rcases Nat.lt_or_ge q k with h5 | h5
      · have := (hT a).2 ⟨q, h5, q2⟩
        rw [h3] at this; cases this
      · rcases Nat.lt_or_ge k q with h6 | h6
        · have := hX.1 k q (by omega) h6 q1
          rw [q2] at this
          exact So.lt_asymm this hl
        · obtain rfl : q = k := by omega
          rw [q2] at hl
          exact So.lt_irrefl hl

theorem places_take (X : Nat → Nat) {n k : Nat} (h : k < n) : (places X n).take (k + 1) = (places X n).take k ++ [(X k : Int)] := by
  rw [take_snoc_int _ _ (by rw [places_length]; exact h), places_get X h]

theorem ints_own2 {w : World} {base : Nat} {e : TypeId} {v : Value} {n : Nat} {l : List Int} (h : w.ownsRow base e 1 v n (l.map (Value.int .i64))) (hm : n ≤ maxLen) :
    ∃ A c, v = .slice A n c ∧ Ints w A l := by
  obtain ⟨A, c, rfl, hI⟩ := ints_of_own h hm
  have hl : l.length = n := by simpa using h.1
  exact ⟨A, c, by rw [hl], hI⟩

/-- how long a slice is: for a loop's measure -/
def lenOf : Value → Nat | .slice _ n _ => n | _ => 0

set_option maxHeartbeats 4000000 in
theorem rorder_any (A : Option Addr) (ks : List Int) (X : Nat → Nat) (n c : Nat) (w : World) (hI : Ints w A ks) (hl : ks.length = n) (hn : n ≤ 1000) (hX : So.Blk (keyOf ks) 0 n X) :
    Calls Try.prog 17 #[.slice A n c] w fun e w' => (∃ A' c', e = .returned (.slice A' n c') ∧ Ints w' A' (places X n)) ∧ Below w.heap.size w w' := by
  obtain ⟨i0, hi0, hz0, hz1, hz2⟩ := info_parts boolZero
  have HI := Lib.hid hI
  have HL := Lib.hid hl
  have HX := Lib.hid hX
  clear hI hl hX
  go_enter Try.func17, Try.ntmps17
  go_wp2_with (at_make; refine wpList_make_row _ rfl _ _ 32 rfl 4 i0 (.bool false) Try.underlying32 hi0 hz0 hz1 rfl .i64 .i64 n rfl rfl (by rw [hz2]; omega) (by omega) ?_)
  generalize hW : World.alloc _ _ = W3
  have hZ : At W3 w.heap.size (.cells (bRow (fun _ => false) n) 4) := by rw [← hW, ← bRow_made]; exact At.new _ _
  have hB3 : Below w.heap.size w W3 := hW ▸ Below.alloc' (Below.refl _ _) _
  have hs3 : W3.heap.size = w.heap.size + 1 := by rw [← hW]; simp
  have HS3 := Lib.hid hs3
  clear hW hs3
  go_loopw [3, 5, 6] (fun v _ _ wr => ∃ (k : Nat) (F : Nat → Bool), k ≤ n ∧ wr.ownsRow (w.heap.size + 1) 3 1 v k (((places X n).take k).map (Value.int .i64)) ∧ At wr w.heap.size (.cells (bRow F n) 4) ∧ Below w.heap.size w wr ∧ Hid (Taken X k F)) (fun v _ _ _ => n - lenOf v)
  case atStart => exact ⟨0, _, by omega, World.ownsRow_nil _ _ _ _, hZ, hB3, Lib.hid Taken.none_⟩
  case round =>
    clear hZ hB3
    obtain ⟨k, F, hk, hown, hZ, hB, HT⟩ := hrel
    obtain ⟨A', c', rfl, hIO⟩ := ints_own2 hown (by simp only [maxLen]; omega)
    by_cases hlt : k < n
    · have hltz : (k : Int) < (n : Int) := by omega
      have HOW := Lib.hid hown
      have HZZ := Lib.hid hZ
      have HBW := Lib.hid hB
      have HIK := Lib.hid (HI.out.after hB)
      clear hown hIO hZ hB
      go_wp2
      go_loopw [5, 6] (fun va vi wq => ∃ (i : Nat) (z : Int), i ≤ n ∧ vi = .int .i64 i ∧ va = .int .i64 z ∧ Below wr.heap.size wr wq ∧ Hid (Least (keyOf ks) F i z)) (fun _ vi _ => n - (intOf vi).toNat)
      case atStart => exact ⟨0, -1, by omega, rfl, rfl, Below.refl _ _, Lib.hid (Least.start _ _)⟩
      case round =>
        obtain ⟨i, z, hi, rfl, rfl, hQ, HLE⟩ := hrel
        have hZ := HZZ.out.keep hQ
        have lg := hZ.lt
        by_cases hin : i < n
        · have hinz : (i : Int) < (n : Int) := by omega
          have c1 := hZ.cell i
          rw [bRow_get F hin] at c1
          cases hF : F i with
          | true =>
            rw [hF] at c1
            go_upto_region 8 with (fail)
            refine Drawn.wp_region_from (Below.refl _ _) (by kernel_rfl) (by kernel_rfl) (by kernel_rfl) ?_
            (repeat (first | (refine Drawn.seq_skip (by rfl) ?_; (try simp only [Act.put, List.setIfInBounds_toArray, List.set_cons_zero, List.set_cons_succ])) | (refine Drawn.seq_call (o := ⟨_, .call ⟨.value _, _, _⟩, _, _, _, _⟩) (by rfl) (by intro w2 hS; go_simp; first | done | with_reducible rfl | exact ⟨rfl, rfl⟩) (by intro w2 hS; first | ((with_reducible refine (nan_any _ _).mono ?_); rintro e w' ⟨rfl, rfl⟩; exact ⟨rfl, hS⟩)) ?_; (try simp only [Act.put, List.setIfInBounds_toArray, List.set_cons_zero, List.set_cons_succ])) | (refine Drawn.seq_value (by rfl) (by intro w2 hS; obtain ⟨hc, hf⟩ := bcell hS; go_simp; first | done | with_reducible rfl | exact ⟨rfl, rfl⟩) ?_; (try simp only [Act.put, List.setIfInBounds_toArray, List.set_cons_zero, List.set_cons_succ]))))
            refine Drawn.seq_end ?_; intro w2 hS
            have hQ2 := Below.after2 hQ (Nat.le_refl _) hS
            clear c1 lg hZ hQ hS
            go_wp2
            go_roundw
            case rel => exact ⟨i + 1, z, by omega, by go_num, rfl, hQ2, Lib.hid (HLE.out.skip hF)⟩
            case measure => simp [intOf]; omega
          | false =>
            rw [hF] at c1
            rcases HLE.out.cases with rfl | ⟨a, rfl, ha⟩
            · go_upto_region 8 with (fail)
              refine Drawn.wp_region_from (Below.refl _ _) (by kernel_rfl) (by kernel_rfl) (by kernel_rfl) ?_
              (repeat (first | (refine Drawn.seq_skip (by rfl) ?_; (try simp only [Act.put, List.setIfInBounds_toArray, List.set_cons_zero, List.set_cons_succ])) | (refine Drawn.seq_call (o := ⟨_, .call ⟨.value _, _, _⟩, _, _, _, _⟩) (by rfl) (by intro w2 hS; go_simp; first | done | with_reducible rfl | exact ⟨rfl, rfl⟩) (by intro w2 hS; first | ((with_reducible refine (nan_any _ _).mono ?_); rintro e w' ⟨rfl, rfl⟩; exact ⟨rfl, hS⟩)) ?_; (try simp only [Act.put, List.setIfInBounds_toArray, List.set_cons_zero, List.set_cons_succ])) | (refine Drawn.seq_value (by rfl) (by intro w2 hS; obtain ⟨hc, hf⟩ := bcell hS; go_simp; first | done | with_reducible rfl | exact ⟨rfl, rfl⟩) ?_; (try simp only [Act.put, List.setIfInBounds_toArray, List.set_cons_zero, List.set_cons_succ]))))
              refine Drawn.seq_end ?_; intro w2 hS
              have hQ2 := Below.after2 hQ (Nat.le_refl _) hS
              clear c1 lg hZ hQ hS
              go_wp2
              go_roundw
              case rel => exact ⟨i + 1, i, by omega, by go_num, rfl, hQ2, Lib.hid (HLE.out.first hF)⟩
              case measure => simp [intOf]; omega
            · have az : decide ((a : Int) < 0) = false := by simp
              have anz : (a : Int) < (n : Int) := by omega
              obtain ⟨b1, o1, hb1, lb1, c2⟩ := (HIK.out.after hQ).at_ (k := i) (by rw [HL.out]; exact hin)
              obtain ⟨b2, o2, hb2, lb2, c3⟩ := (HIK.out.after hQ).at_ (k := a) (by rw [HL.out]; omega)
              rw [hb1] at hb2
              injection hb2 with hb2
              injection hb2 with hb2 hb3
              subst hb2 hb3
              subst hb1
              obtain ⟨ki, hki⟩ : ∃ x, x = ks.getD i 0 := ⟨_, rfl⟩
              obtain ⟨ka, hka⟩ : ∃ x, x = ks.getD a 0 := ⟨_, rfl⟩
              rw [← hki] at c2
              rw [← hka] at c3
              have HKI := Lib.hid hki
              have HKA := Lib.hid hka
              clear hki hka
              by_cases hlk : ki < ka
              · go_upto_region 8 with (fail)
                refine Drawn.wp_region_from (Below.refl _ _) (by kernel_rfl) (by kernel_rfl) (by kernel_rfl) ?_
                (repeat (first | (refine Drawn.seq_skip (by rfl) ?_; (try simp only [Act.put, List.setIfInBounds_toArray, List.set_cons_zero, List.set_cons_succ])) | (refine Drawn.seq_call (o := ⟨_, .call ⟨.value _, _, _⟩, _, _, _, _⟩) (by rfl) (by intro w2 hS; go_simp; first | done | with_reducible rfl | exact ⟨rfl, rfl⟩) (by intro w2 hS; first | ((with_reducible refine (nan_any _ _).mono ?_); rintro e w' ⟨rfl, rfl⟩; exact ⟨rfl, hS⟩)) ?_; (try simp only [Act.put, List.setIfInBounds_toArray, List.set_cons_zero, List.set_cons_succ])) | (refine Drawn.seq_value (by rfl) (by intro w2 hS; obtain ⟨hc, hf⟩ := bcell hS; go_simp; first | done | with_reducible rfl | exact ⟨rfl, rfl⟩) ?_; (try simp only [Act.put, List.setIfInBounds_toArray, List.set_cons_zero, List.set_cons_succ]))))
                refine Drawn.seq_end ?_; intro w2 hS
                have hQ2 := Below.after2 hQ (Nat.le_refl _) hS
                clear c1 c2 c3 lg hZ hQ hS lb1 lb2
                go_wp2
                go_roundw
                case rel => exact ⟨i + 1, i, by omega, by go_num, rfl, hQ2, Lib.hid (HLE.out.less hF (by show ks.getD i 0 < ks.getD a 0; rw [← HKI.out, ← HKA.out]; exact hlk))⟩
                case measure => simp [intOf]; omega
              · have hlkd : decide (ki < ka) = false := decide_eq_false hlk
                go_upto_region 8 with (fail)
                refine Drawn.wp_region_from (Below.refl _ _) (by kernel_rfl) (by kernel_rfl) (by kernel_rfl) ?_
                (repeat (first | (refine Drawn.seq_skip (by rfl) ?_; (try simp only [Act.put, List.setIfInBounds_toArray, List.set_cons_zero, List.set_cons_succ])) | (refine Drawn.seq_call (o := ⟨_, .call ⟨.value _, _, _⟩, _, _, _, _⟩) (by rfl) (by intro w2 hS; go_simp; first | done | with_reducible rfl | exact ⟨rfl, rfl⟩) (by intro w2 hS; first | ((with_reducible refine (nan_any _ _).mono ?_); rintro e w' ⟨rfl, rfl⟩; exact ⟨rfl, hS⟩)) ?_; (try simp only [Act.put, List.setIfInBounds_toArray, List.set_cons_zero, List.set_cons_succ])) | (refine Drawn.seq_value (by rfl) (by intro w2 hS; obtain ⟨hc, hf⟩ := bcell hS; go_simp; first | done | with_reducible rfl | exact ⟨rfl, rfl⟩) ?_; (try simp only [Act.put, List.setIfInBounds_toArray, List.set_cons_zero, List.set_cons_succ]))))
                refine Drawn.seq_end ?_; intro w2 hS
                have hQ2 := Below.after2 hQ (Nat.le_refl _) hS
                clear c1 c2 c3 lg hZ hQ hS lb1 lb2
                go_wp2
                go_roundw
                case rel => exact ⟨i + 1, a, by omega, by go_num, rfl, hQ2, Lib.hid (HLE.out.keep (by show ¬ ks.getD i 0 < ks.getD a 0; rw [← HKI.out, ← HKA.out]; exact hlk))⟩
                case measure => simp [intOf]; omega
        · have hinz : ¬ (i : Int) < (n : Int) := by omega
          obtain rfl : i = n := by omega
          have hz := HLE.out.found HT.out HX.out hlt
          obtain ⟨x, hx⟩ : ∃ x, x = X k := ⟨_, rfl⟩
          rw [← hx] at hz
          subst hz
          have HXK := Lib.hid hx
          have xn : x < i := by rw [hx]; exact (HX.out.2.in_ (by omega) hlt).2
          have xnz : (x : Int) < (i : Int) := by omega
          have c1 := hZ.cell x
          rw [bRow_get F xn] at c1
          have z1 := hZ.thaw x
          clear hx
          go_upto_region 11 with (fail)
          generalize hW : World.setCell _ _ _ = W5
          have hZ5 : At W5 w.heap.size (.cells (bRow (fun j => if j = x then true else F j) i) 4) := by
            rw [← hW, ← bRow_set]; exact hZ.set x _
          have ho5 : W5.ownsRow (w.heap.size + 1) 3 1 (.slice A' k c') k (((places X i).take k).map (Value.int .i64)) := by
            rw [← hW]; exact ownsRow_setCell_below (owns_after HOW.out hQ) (by show w.heap.size < _; omega) _
          have hB5 : Below w.heap.size w W5 := by
            rw [← hW]; exact (Below.after2 HBW.out (Nat.le_refl _) hQ).setCell (Nat.le_refl _) _
          have hs5 : w.heap.size + 1 ≤ W5.heap.size := by have := hZ5.lt; omega
          obtain ⟨v', w', hrun, hown2, hB6, hb2⟩ := append_int (x : Int) ho5 (Below.refl (w.heap.size + 1) W5) hs5 (by omega)
          have hZ6 : At w' w.heap.size (.cells (bRow (fun j => if j = x then true else F j) i) 4) := (hB6.block _ (by omega)).trans hZ5
          have hB7 : Below w.heap.size w w' := hB5.trans (hB6.mono (by omega))
          obtain ⟨A6, c6, hv6, _⟩ := ints_own2 (l := (places X i).take k ++ [(x : Int)]) hown2 (by simp only [maxLen]; omega)
          subst hv6
          have HRUN := Lib.hid hrun
          clear hW c1 z1 lg hZ hQ hZ5 ho5 hB5 hs5 hrun hB6 hb2
          go_wp2_with (at_builtin; refine wpList_append_run (by rfl) _ _ 22 rfl rfl rfl HRUN.out ?_)
          go_roundw
          case rel => exact ⟨k + 1, _, by omega, by rw [places_take X hlt, ← HXK.out]; exact hown2, hZ6, hB7, Lib.hid (by rw [HXK.out]; exact HT.out.next)⟩
          case measure => simp [lenOf]; omega
    · obtain rfl : k = n := by omega
      have hltz : ¬ (k : Int) < (k : Int) := by omega
      have he : (places X k).take k = places X k := List.take_of_length_le (by rw [places_length]; omega)
      rw [he] at hIO
      go_wp2
      go_ret
      first | exact ⟨⟨A', ⟨c', rfl⟩, hIO⟩, hB⟩ | exact ⟨⟨A', c', rfl, hIO⟩, hB⟩

end Go.Proofs.Ytabmlohobbbnbaa.Fix
