/- The contracts of Starts of the layer justify, and of Flip. -/
import Derived.Test.YteopkakjnjfheaaJuShare
import Derived.Test.YteopkakjnjfheaaLin
namespace Go.Proofs.Yteopkakjnjfheaa.Fix
open Go.ChangeShapes Go.WideShapes Go.ChangeAt Go.RowKit
set_option linter.unusedVariables false

theorem ints_of_made {w : World} {b : Nat} {T : TypeId} (f : Nat → Int) (n : Nat) (hn : n ≤ maxLen) (h : At w b (.cells (stRow f n n) T)) : Ints w (some ⟨b, 0, none⟩) (Ju.row f n) := by
  refine ⟨by rw [Ju.row_length]; exact hn, fun h0 => ⟨b, 0, rfl, fun k hk => ?_⟩⟩
  rw [Ju.row_length] at hk
  rw [h.cell, Nat.zero_add, stRow_get _ hk, Ju.row_get _ hk]
  simp [hk]

theorem Boxed.off {w : World} {b1 b2 b3 b4 n : Nat} {left p s q : Int} (h : Boxed w b1 b2 b3 b4 left p s q) (hn : b1 ≠ n ∧ b2 ≠ n ∧ b3 ≠ n ∧ b4 ≠ n) (i : Nat) (x : Value) : Boxed (w.setCell ⟨n, i, none⟩ x) b1 b2 b3 b4 left p s q :=
  ⟨h.a1.off hn.1 _ _, h.a2.off hn.2.1 _ _, h.a3.off hn.2.2.1 _ _, h.a4.off hn.2.2.2 _ _, h.n12, h.n13, h.n14, h.n23, h.n24, h.n34⟩

set_option maxHeartbeats 4000000 in
theorem starts_any (A : Option Addr) (l : List Int) (n c : Nat) (kind room gap : Int) (w : World) (hI : Ints w A l) (hl : l.length = n) (hc : n ≤ c) (hn : n ≤ 1000) :
    Calls Try.prog 10 #[.int .i64 kind, .slice A n c, .int .i64 room, .int .i64 gap] w fun e w' => (∃ b, e = .returned (.slice (some ⟨b, 0, none⟩) n n) ∧ Ints w' (some ⟨b, 0, none⟩) (Ju.row (Ju.starts kind room gap l) n)) ∧ Below w.heap.size w w' := by
  obtain ⟨i0, hi0, hz0, hz1, hz2⟩ := info_parts intZero
  have hf0 : ∀ lf, Fx.sub room (Li.long gap l) = lf → Ju.fr lf (Ju.pq kind lf (n : Int)).1 (Ju.pq kind lf (n : Int)).2.1 (Ju.pq kind lf (n : Int)).2.2 ((0 : Nat) : Int) = Ju.starts kind room gap l 0 := by
    rintro lf rfl; rw [← hl]; rfl
  have hfs : ∀ lf, Fx.sub room (Li.long gap l) = lf → ∀ k : Nat, Fx.add (Fx.add (Fx.add (Ju.starts kind room gap l k) (l.getD k 0)) gap) (Fx.sub (Ju.fr lf (Ju.pq kind lf (n : Int)).1 (Ju.pq kind lf (n : Int)).2.1 (Ju.pq kind lf (n : Int)).2.2 ((k + 1 : Nat) : Int)) (Ju.fr lf (Ju.pq kind lf (n : Int)).1 (Ju.pq kind lf (n : Int)).2.1 (Ju.pq kind lf (n : Int)).2.2 (k : Int))) = Ju.starts kind room gap l (k + 1) := by
    rintro lf rfl k; rw [← hl]; rfl
  generalize Ju.starts kind room gap l = f at *
  have HI := Lib.hid hI
  have HF0 := Lib.hid hf0
  have HFS := Lib.hid hfs
  have HL := Lib.hid hl
  clear hI hf0 hfs hl
  go_enter Try.func10, Try.ntmps10
  go_upto_region 3 with (first | (go_at_call 17; refine (long_any A l n c gap _ HI.out HL.out hc (by omega)).mono ?_; rintro e w' ⟨rfl, rfl⟩) | first | (go_at_call 18; (with_reducible refine (sub_any _ _ _).mono ?_); rintro e w' ⟨rfl, rfl⟩) | (go_at_call 19; refine (share_any kind _ (n : Int) _ (by omega) (by omega)).mono ?_; rintro e w1 ⟨⟨b1, b2, b3, b4, rfl, hX⟩, hB⟩))
  replace HF0 := Lib.hid (HF0.out _ rfl)
  replace HFS := Lib.hid (HFS.out _ rfl)
  obtain ⟨p0, p1, s0, s2⟩ := Ju.pq_bd kind (Fx.sub room (Li.long gap l)) (n : Int)
  generalize Fx.sub room (Li.long gap l) = lf at *
  generalize (Ju.pq kind lf (n : Int)).1 = p at *
  generalize (Ju.pq kind lf (n : Int)).2.1 = s at *
  generalize (Ju.pq kind lf (n : Int)).2.2 = q at *
  go_upto_region 4 with (at_make; refine wpList_make_row _ rfl _ _ 23 rfl 3 i0 (.int .i64 0) Try.underlying23 hi0 hz0 hz1 rfl .i64 .i64 n rfl rfl (by rw [hz2]; omega) (by omega) ?_)
  have HN0 : Hid (b1 ≠ w1.heap.size ∧ b2 ≠ w1.heap.size ∧ b3 ≠ w1.heap.size ∧ b4 ≠ w1.heap.size) := Lib.hid ⟨Nat.ne_of_lt hX.a1.lt, Nat.ne_of_lt hX.a2.lt, Nat.ne_of_lt hX.a3.lt, Nat.ne_of_lt hX.a4.lt⟩
  have HBS := Lib.hid hB.size
  generalize hb0 : w1.heap.size = b0 at *
  generalize hW : World.alloc _ _ = W2
  have hA : At W2 b0 (.cells (stRow f n 0) 3) := by rw [← hW, ← hb0, ← stRow_made]; exact At.new _ _
  replace hX : Boxed W2 b1 b2 b3 b4 lf p s q := hW ▸ hX.keep (Below.alloc' (Below.refl _ _) _)
  replace hB : Below w.heap.size w W2 := hW ▸ Below.alloc' hB _
  have HN1 : Hid (w.heap.size ≤ b0) := HBS
  clear hW hb0
  go_wp2
  go_loopw [30] (fun i wr => ∃ k : Nat, k ≤ n ∧ i = .int .i64 k ∧ At wr b0 (.cells (stRow f n k) 3) ∧ Boxed wr b1 b2 b3 b4 lf p s q ∧ Below w.heap.size w wr) (fun i _ => n - (intOf i).toNat)
  case atStart => exact ⟨0, by omega, rfl, hA, hX, hB⟩
  case round =>
    obtain ⟨k, hk, rfl, hA, hX, hB⟩ := hrel
    by_cases hlt : k < n
    · rcases Nat.eq_zero_or_pos k with rfl | h0
      · have HSET := Lib.hid (stRow_set f hlt)
        have HFZ := HF0
        obtain ⟨c1, c2, c3, c4⟩ := hX.cells
        go_upto_region 12 with ((go_at_call 29; refine (shar_any lf p s q _ n b1 b2 b3 b4 _ c1 c2 c3 c4 p0 p1 s0 s2 (by omega) (by omega)).mono ?_; rintro e w2 ⟨rfl, hb⟩; clear c1 c2 c3 c4; replace hX := hX.keep hb; replace hA := hA.keep hb; replace hB := Below.after2 hB (Nat.le_refl _) hb; obtain ⟨c1, c2, c3, c4⟩ := hX.cells; have hz := hA.thaw 0; have hcc := hA.cell 0; rw [stRow_get _ hlt] at hcc; have hlt0 := hA.lt))
        generalize hW : World.setCell _ _ _ = W4
        replace hA : At W4 b0 (.cells (stRow f n 1) 3) := by
          rw [← hW, ← HSET.out, ← HFZ.out]
          exact hA.set 0 _
        replace hX : Boxed W4 b1 b2 b3 b4 lf p s q := hW ▸ hX.off HN0.out _ _
        replace hB : Below w.heap.size w W4 := hW ▸ Below.setCell hB HN1.out _
        clear hW hz hcc hlt0 c1 c2 c3 c4
        go_wp2
        go_roundw
        case rel => exact ⟨1, by omega, by go_num, hA, hX, hB⟩
        case measure => simp [intOf]; omega
      · obtain ⟨m, hm⟩ : ∃ m, k = m + 1 := ⟨k - 1, by omega⟩
        have HST : Hid (Fx.add (Fx.add (Fx.add (f m) (l.getD m 0)) gap) (Fx.sub (Ju.fr lf p s q (k : Int)) (Ju.fr lf p s q (m : Int))) = f k) := Lib.hid (by subst hm; exact HFS.out m)
        have HSET := Lib.hid (stRow_set f hlt)
        have hz0 : ((k : Int) == 0) = false := by simp; omega
        have hw : IntKind.i64.wrap ((k : Int) - 1) = (m : Int) := by rw [IntWalk.i64_in _ (by omega)]; omega
        have hmn : m < n := by omega
        have hmk : m < k := by omega
        obtain ⟨b5, o5, hA5, l5, c5⟩ := (HI.out.after hB).at_ (k := m) (by rw [HL.out]; exact hmn)
        have c6 := hA.cell m
        rw [stRow_get _ hmn, if_pos hmk] at c6
        have l6 := hA.lt
        generalize l.getD m 0 = y at *
        generalize f m = x at *
        subst hA5
        have HM := Lib.hid hm
        clear hm
        go_upto_region 9 with (fail)
        refine Drawn.wp_region_from (Below.refl _ _) (by kernel_rfl) (by kernel_rfl) (by kernel_rfl) ?_
        (repeat (first | (refine Drawn.seq_skip (by rfl) ?_; (try simp only [Act.put, List.setIfInBounds_toArray, List.set_cons_zero, List.set_cons_succ])) | (refine Drawn.seq_call (o := ⟨_, .call ⟨.value _, _, _⟩, _, _, _, _⟩) (by rfl) (by intro w2 hS; go_simp; first | done | with_reducible rfl | exact ⟨rfl, rfl⟩) (by intro w2 hS; first | ((with_reducible refine (add_any _ _ _).mono ?_); rintro e w' ⟨rfl, rfl⟩; exact ⟨rfl, hS⟩)) ?_; (try simp only [Act.put, List.setIfInBounds_toArray, List.set_cons_zero, List.set_cons_succ])) | (refine Drawn.seq_value (by rfl) (by intro w2 hS; obtain ⟨hc, hf⟩ := bcell hS; go_simp; first | done | with_reducible rfl | exact ⟨rfl, rfl⟩) ?_; (try simp only [Act.put, List.setIfInBounds_toArray, List.set_cons_zero, List.set_cons_succ]))))
        refine Drawn.seq_end ?_; intro w2 hS
        replace hX := hX.keep hS
        replace hA := hA.keep hS
        replace hB := Below.after2 hB (Nat.le_refl _) hS
        obtain ⟨c1, c2, c3, c4⟩ := hX.cells
        clear hS c5 c6 l5 l6
        go_upto_region 11 with (first | (go_at_call 29; refine (shar_any lf p s q _ n b1 b2 b3 b4 _ c1 c2 c3 c4 p0 p1 s0 s2 (by omega) (by omega)).mono ?_; rintro e w2 ⟨rfl, hb⟩; clear c1 c2 c3 c4; replace hX := hX.keep hb; replace hA := hA.keep hb; replace hB := Below.after2 hB (Nat.le_refl _) hb; obtain ⟨c1, c2, c3, c4⟩ := hX.cells) | first | (go_at_call 18; (with_reducible refine (sub_any _ _ _).mono ?_); rintro e w' ⟨rfl, rfl⟩))
        have hz := hA.thaw k
        have hcc := hA.cell k
        rw [stRow_get _ hlt] at hcc
        have hlt0 := hA.lt
        go_upto_region 12 with (first | (go_at_call 20; (with_reducible refine (add_any _ _ _).mono ?_); rintro e w' ⟨rfl, rfl⟩))
        generalize hW : World.setCell _ _ _ = W4
        replace hA : At W4 b0 (.cells (stRow f n (k + 1)) 3) := by
          rw [← hW, ← HSET.out, ← HST.out]
          exact hA.set k _
        replace hX : Boxed W4 b1 b2 b3 b4 lf p s q := hW ▸ hX.off HN0.out _ _
        replace hB : Below w.heap.size w W4 := hW ▸ Below.setCell hB HN1.out _
        clear hW hz hcc hlt0 c1 c2 c3 c4
        go_wp2
        go_roundw
        case rel => exact ⟨k + 1, by omega, by go_num, hA, hX, hB⟩
        case measure => simp [intOf]; omega
    · obtain rfl : k = n := by omega
      go_wp2
      refine bodyPost_ret (v := .slice (some ⟨b0, 0, none⟩) k k) (by simp [results, Try.results10, go_sem, *]; first | done | exact ⟨rfl, rfl⟩ | rfl) rfl ⟨⟨b0, rfl, ints_of_made f k (by unfold maxLen; omega) hA⟩, hB⟩

end Go.Proofs.Yteopkakjnjfheaa.Fix
