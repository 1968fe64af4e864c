/- The contracts of Stack of the layer margin (and of the document's own answer for it, and of its comparison of two rows). -/
import Derived.Test.YtcjoljclijkmcaaMar
import Derived.Test.YtcjoljclijkmcaaDrawnAt
import Derived.Deep.OwnRows
import Derived.Maps.AppendAt
namespace Go.Proofs.Ytcjoljclijkmcaa.Fix
open Go.ChangeShapes Go.WideShapes Go.ChangeAt Go.RowKit
set_option linter.unusedVariables false

theorem Ints.lt {w : World} {A : Option Addr} {zs : List Int} (h : Ints w A zs) (h0 : 0 < zs.length) : ∀ x, A = some x → x.block < w.heap.size := by
  intro x hx
  obtain ⟨b, off, rfl, hc⟩ := h.2 h0
  injection hx with hx
  subst hx
  exact World.block_lt_of_cell? _ _ (hc 0 h0)

theorem Ints.after {W w : World} {A : Option Addr} {zs : List Int} (h : Ints W A zs) (hb : Below W.heap.size W w) : Ints w A zs := h.keep hb h.lt

/-- What a round at place k finds: its cell, which lies in old memory. -/
theorem Ints.at_ {w : World} {A : Option Addr} {zs : List Int} (h : Ints w A zs) {k : Nat} (hk : k < zs.length) : ∃ b off, A = some ⟨b, off, none⟩ ∧ b < w.heap.size ∧ w.cell? ⟨b, off + k, none⟩ = some (.int .i64 (zs.getD k 0)) := by
  obtain ⟨b, off, rfl, hc⟩ := h.2 (by omega)
  exact ⟨b, off, rfl, World.block_lt_of_cell? _ _ (hc k hk), hc k hk⟩

def stRow (f : Nat → Int) (n k : Nat) : Array Value := ((List.range n).map fun j => Value.int .i64 (if j < k then f j else 0)).toArray

theorem stRow_get (f : Nat → Int) {n k j : Nat} (h : j < n) : (stRow f n k)[j]? = some (.int .i64 (if j < k then f j else 0)) := by simp [stRow, h]

theorem stRow_size (f : Nat → Int) (n k : Nat) : (stRow f n k).size = n := by simp [stRow]

theorem stRow_made (f : Nat → Int) (n : Nat) : madeCells #[.int .i64 0] n = stRow f n 0 := by
  apply Array.ext
  · simp [stRow, size_madeCells]
  · intro i h1 h2
    simp [madeCells, stRow, Nat.mod_one]

theorem stRow_set (f : Nat → Int) {n k : Nat} (h : k < n) : (stRow f n k).setIfInBounds k (.int .i64 (f k)) = stRow f n (k + 1) := by
  apply Array.ext_getElem?
  intro i
  rw [Array.getElem?_setIfInBounds, stRow_size]
  by_cases hin : i < n
  · rw [stRow_get f hin, stRow_get f hin]
    by_cases hik : k = i
    · subst hik; simp [hin]
    · simp only [hik, if_false]
      have : (i < k) = (i < k + 1) := by simp; omega
      simp only [this]
  · have h1 : (stRow f n k)[i]? = none := Array.getElem?_eq_none (by rw [stRow_size]; omega)
    have h2 : (stRow f n (k + 1))[i]? = none := Array.getElem?_eq_none (by rw [stRow_size]; omega)
    rw [h1, h2]
    rw [if_neg (by omega)]

theorem stRow_skip (f : Nat → Int) (n : Nat) (h : f 0 = 0) : stRow f n 0 = stRow f n 1 := by
  unfold stRow
  congr 1
  apply List.map_congr_left
  intro j hj
  by_cases h0 : j = 0
  · subst h0; simp [h]
  · simp; omega

theorem ints_of_stRow {w : World} {b : Nat} {T : TypeId} (s t u : List Int) (n : Nat) (hn : n ≤ maxLen) (h : At w b (.cells (stRow (Fx.stBeg s t u) n n) T)) : Ints w (some ⟨b, 0, none⟩) (Fx.stBegs s t u n) := by
  refine ⟨by rw [Fx.stBegs_length]; exact hn, fun h0 => ⟨b, 0, rfl, fun k hk => ?_⟩⟩
  rw [Fx.stBegs_length] at hk
  rw [h.cell, Nat.zero_add, stRow_get _ hk, Fx.stBegs_get _ _ _ hk]
  simp [hk]

theorem intZero : (Try.prog.info? 3).map (fun i => (i.zero, i.size, i.bytes)) = some (some (.int .i64 0), 1, 8) := by kernel_rfl

set_option maxHeartbeats 4000000 in
theorem stack_any (A T B : Option Addr) (s t u : List Int) (n d1 d2 d3 : Nat) (w : World) (hs : Ints w A s) (ht : Ints w T t) (hu : Ints w B u) (ls : s.length = n) (lt : t.length = n) (lu : u.length = n) (hn : n ≤ 1001) :
    Calls Try.prog 15 #[.slice A n d1, .slice T n d2, .slice B n d3] w fun e w' => (∃ b, e = .returned (.tuple #[.slice (some ⟨b, 0, none⟩) n n, .int .i64 (Fx.stEnd s t u n)]) ∧ Ints w' (some ⟨b, 0, none⟩) (Fx.stBegs s t u n)) ∧ Below w.heap.size w w' := by
  obtain ⟨i0, hi0, hz0, hz1, hz2⟩ := info_parts intZero
  have HS := Lib.hid hs; clear hs
  have HT := Lib.hid ht; clear ht
  have HU := Lib.hid hu; clear hu
  have LS := Lib.hid ls; clear ls
  have LT := Lib.hid lt; clear lt
  have LU := Lib.hid lu; clear lu
  go_enter Try.func15, Try.ntmps15
  go_wp2_with (at_make; refine wpList_make_row _ rfl _ _ 22 rfl 3 i0 (.int .i64 0) Try.underlying22 hi0 hz0 hz1 rfl .i64 .i64 n rfl rfl (by rw [hz2]; omega) (by omega) ?_)
  go_loopw [9, 29] (fun e i wr => ∃ k : Nat, k ≤ n ∧ i = .int .i64 k ∧ e = .int .i64 (Fx.stEnd s t u k) ∧ At wr w.heap.size (.cells (stRow (Fx.stBeg s t u) n k) 3) ∧ Below w.heap.size w wr) (fun _ i _ => n - (intOf i).toNat)
  case atStart => exact ⟨0, by omega, rfl, rfl, by rw [← stRow_made]; exact At.new _ _, Below.alloc' (Below.refl _ _) _⟩
  case round =>
    obtain ⟨k, hk, rfl, rfl, hA, hB⟩ := hrel
    have hB' := hB
    by_cases hlt : k < n
    · obtain ⟨b1, o1, hA1, l1, c1⟩ := (HS.out.after hB').at_ (k := k) (by rw [LS.out]; exact hlt)
      have HZ : Hid (Fx.stEnd s t u (k + 1) = Fx.add (Fx.stBeg s t u k) (s.getD k 0)) := Lib.hid (Fx.stEnd_succ s t u k)
      generalize s.getD k 0 = z at *
      subst hA1
      have hlb := hA.lt
      rcases Nat.eq_zero_or_pos k with rfl | h0
      · have hz := hA.cell 0
        rw [stRow_get _ hlt] at hz
        have HR : Hid (stRow (Fx.stBeg s t u) n 0 = stRow (Fx.stBeg s t u) n 1) := Lib.hid (stRow_skip _ _ rfl)
        simp only [Nat.not_lt_zero, if_false] at hz
        simp only [Nat.add_zero] at c1
        go_wp2_with (first | (go_at_call 20; (with_reducible refine (add_any _ _ _).mono ?_); rintro e w' ⟨rfl, rfl⟩))
        go_roundw
        case rel => exact ⟨1, by omega, by go_num, by rw [HZ.out, Fx.stBeg_zero], by rw [← HR.out]; exact hA, hB⟩
        case measure => simp [intOf]; omega
      · obtain ⟨m, hm⟩ : ∃ m, k = m + 1 := ⟨k - 1, by omega⟩
        obtain ⟨b2, o2, hA2, l2, c2⟩ := (HT.out.after hB').at_ (k := k) (by rw [LT.out]; exact hlt)
        obtain ⟨b3, o3, hA3, l3, c3⟩ := (HU.out.after hB').at_ (k := m) (by rw [LU.out]; omega)
        have HP : Hid (Fx.stBeg s t u k = Fx.add (Fx.stEnd s t u k) (Fx.coll [u.getD m 0, t.getD k 0])) := Lib.hid (by rw [Fx.stBeg_pos s t u (by omega), show k - 1 = m by omega])
        generalize t.getD k 0 = y at *
        generalize u.getD m 0 = x at *
        subst hA2 hA3
        have hw : IntKind.i64.wrap ((k : Int) - 1) = (m : Int) := by rw [IntWalk.i64_in _ (by omega)]; omega
        have hmn : m < n := by omega
        have hz := hA.thaw k
        have HM := Lib.hid hm
        clear hm
        go_upto_region 9 with (fail)
        refine Drawn.wp_region_tail 15 1 (Below.refl _ _) (by kernel_rfl) (by kernel_rfl) rfl (by kernel_rfl) (by kernel_rfl) ?_
        (repeat (first | (refine Drawn.seq_skip (by rfl) ?_; (try simp only [Act.put, List.setIfInBounds_toArray, List.set_cons_zero, List.set_cons_succ])) | (refine Drawn.seq_call (o := ⟨_, .call ⟨.value _, _, _⟩, _, _, _, _⟩) (by rfl) (by intro w2 hS; go_simp; first | done | with_reducible rfl | exact ⟨rfl, rfl⟩) (by intro w2 hS; first | ((with_reducible refine (pair_any _ _ _).mono ?_); rintro e w' ⟨rfl, hb⟩; exact ⟨rfl, Below.after hS hb⟩) | ((with_reducible refine (add_any _ _ _).mono ?_); rintro e w' ⟨rfl, rfl⟩; exact ⟨rfl, hS⟩)) ?_; (try simp only [Act.put, List.setIfInBounds_toArray, List.set_cons_zero, List.set_cons_succ])) | (refine Drawn.seq_value (by rfl) (by intro w2 hS; obtain ⟨hc, hf⟩ := bcell hS; go_simp; first | done | with_reducible rfl | exact ⟨rfl, rfl⟩) ?_; (try simp only [Act.put, List.setIfInBounds_toArray, List.set_cons_zero, List.set_cons_succ]))))
        refine Drawn.seq_tail ?_; intro w2 hS
        have A4 := hA.keep hS
        have B4 := Below.after2 hB (Nat.le_refl _) hS
        have hc4 := A4.cell k
        rw [stRow_get _ hlt] at hc4
        have hz4 := A4.thaw k
        refine Drawn.text_cons (by rfl) ?_; intro K hK; go_simp; refine hK _ _ (Drawn.text_nil ?_); clear hK K
        generalize hW : World.setCell _ _ _ = W2
        replace A4 : At W2 w.heap.size (.cells (stRow (Fx.stBeg s t u) n (k + 1)) 3) := by
          rw [← hW, ← stRow_set _ hlt, HP.out]
          exact A4.set k _
        replace B4 : Below w.heap.size w W2 := hW ▸ Below.setCell B4 (Nat.le_refl _) _
        have hc5 := A4.cell k
        rw [stRow_get _ (by omega), if_pos (by omega)] at hc5
        have hlt4 := A4.lt
        clear hW hc4 hz4 hz hS c1 c2 c3 l1 l2 l3 hA hB hB' hlb
        go_wp2_with (first | (go_at_call 20; (with_reducible refine (add_any _ _ _).mono ?_); rintro e w' ⟨rfl, rfl⟩))
        go_roundw
        case rel => exact ⟨k + 1, by omega, by go_num, by rw [HZ.out], A4, B4⟩
        case measure => simp [intOf]; omega
    · obtain rfl : k = n := by omega
      go_wp2
      refine bodyPost_ret (v := .tuple #[.slice (some ⟨w.heap.size, 0, none⟩) k k, .int .i64 _]) (by simp [results, Try.results15, go_sem, *]; first | done | exact ⟨rfl, rfl⟩ | rfl) rfl ⟨⟨w.heap.size, rfl, ints_of_stRow s t u k (by unfold maxLen; omega) hA⟩, hB⟩

end Go.Proofs.Ytcjoljclijkmcaa.Fix
