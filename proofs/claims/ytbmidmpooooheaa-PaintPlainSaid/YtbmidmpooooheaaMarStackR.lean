/- The contracts of the document's own answer for Stack (and of its comparison of two rows). -/
import Derived.Test.YtbmidmpooooheaaMarStack
import Derived.Deep.RegionWith
namespace Go.Proofs.Ytbmidmpooooheaa.Fix
open Go.ChangeShapes Go.WideShapes Go.ChangeAt Go.RowKit
set_option linter.unusedVariables false
set_option maxRecDepth 100000

/-- What an append of integers to a row of one's own comes to: the row's new value, and all below the base as it was. -/
theorem append_ints {w0 W : World} {base : Nat} {v : Value} {k m c : Nat} {xs l : List Int} {A : Option Addr} (hown : W.ownsRow base 3 1 v k (xs.map (Value.int .i64))) (hB : Below base w0 W) (hbase : base ≤ W.heap.size)
    (hI : Ints W A l) (hl : l.length = m) (hc : A = none → c = 0) (hkm : k + m ≤ 100000) :
    ∃ v' w', (Builtin.append_ #[26, 26] 26 #[v, .slice A m c]).run Try.prog W = .ok v' w' ∧ w'.ownsRow base 3 1 v' (k + m) ((xs ++ l).map (Value.int .i64)) ∧ Below base w0 w' ∧ base ≤ w'.heap.size := by
  obtain ⟨i0, hi0, hz0, hz1, hz2⟩ := info_parts intZero
  rcases A with _ | ad
  · have h0 : l = [] := by
      rcases Nat.eq_zero_or_pos l.length with h | h
      · exact List.eq_nil_of_length_eq_zero h
      · obtain ⟨b, o, e, _⟩ := hI.2 h; cases e
    subst h0
    subst hl
    rw [hc rfl]
    exact ⟨_, _, run_append_owned_none _ _ 26 26 3 i0 1 Try.underlying26 hi0 _ k _ hown, by simpa using hown, hB, hbase⟩
  · obtain ⟨v', w', hr, ho, hg, _, _⟩ := run_append_own_at (P := Try.prog) W base 26 26 3 i0 (.int .i64 0) 1 8 Try.underlying26 hi0 hz0 hz1 hz2 rfl (by decide) _ k _ hown ad m c (l.map (Value.int .i64)) (by simp [hl])
      (by
        intro j u hu
        have hj : j < l.length := by
          rcases Nat.lt_or_ge j l.length with h | h
          · exact h
          · rw [List.getElem?_eq_none (by simpa using h)] at hu; cases hu
        obtain ⟨b, o, e, hcell⟩ := hI.2 (by omega)
        injection e with e
        subst e
        have hcj := hcell j hj
        have e2 : (⟨b, o, none⟩ : Addr).add j = ⟨b, o + j, none⟩ := by
          unfold Addr.add; split
          · subst j; rfl
          · rfl
        rw [e2, hcj, ← hu]
        simp [List.getElem?_eq_getElem hj])
      (by intro u hu; obtain ⟨z, _, rfl⟩ := List.mem_map.1 hu; rfl) (by simp only [maxLen]; omega) (by omega) hbase
    refine ⟨v', w', hr, by rw [List.map_append]; exact ho, hB.grown hg hbase (fun g hgg => (hown.lt g hgg).1), ?_⟩
    exact Nat.le_trans hbase hg.size

/-- The same for one number, that stands in a new block. -/
theorem append_int {w0 W : World} {base : Nat} {v : Value} {k : Nat} {xs : List Int} (x : Int) (hown : W.ownsRow base 3 1 v k (xs.map (Value.int .i64))) (hB : Below base w0 W) (hbase : base ≤ W.heap.size) (hk : k ≤ 10000) :
    ∃ v' w', (Builtin.append_ #[26, 26] 26 #[v, .slice (some ⟨W.heap.size, 0, none⟩) 1 1]).run Try.prog (W.alloc (.cells #[.int .i64 x] 3)) = .ok v' w' ∧ w'.ownsRow base 3 1 v' (k + 1) ((xs ++ [x]).map (Value.int .i64)) ∧ Below base w0 w' ∧ base ≤ w'.heap.size :=
  append_ints (hown.alloc _) (hB.alloc hbase _) (by simp; omega) (ints_new W [x] 3 (by simp)) rfl (fun h => by cases h) (by omega)

theorem ints_two_drew (w : World) (a b : Int) (T : TypeId) : Ints (w.alloc (.cells #[.int .i64 a, .int .i64 b] T)).drew (some ⟨w.heap.size, 0, none⟩) [a, b] := ints_two w a b T

/-- Two rows of the same numbers are the same. -/
theorem row_any (A B : Option Addr) (zs : List Int) (n d1 d2 : Nat) (w : World) (hA : Ints w A zs) (hB : Ints w B zs) (hn : zs.length = n) (hm : n ≤ 100000) : Calls Try.prog 15 #[.slice A n d1, .slice B n d2] w fun e w' => e = .returned (.bool true) ∧ Below w.heap.size w w' := by
  have HA := Lib.hid hA; clear hA
  have HB := Lib.hid hB; clear hB
  have HN := Lib.hid hn; clear hn
  go_enter Try.func15, Try.ntmps15
  go_wp2
  go_loopw [5] (fun i wr => ∃ k : Nat, k ≤ n ∧ i = .int .i64 k ∧ Below w.heap.size w wr) (fun i _ => n - (intOf i).toNat)
  case atStart => exact ⟨0, by omega, rfl, Below.refl _ _⟩
  case round =>
    obtain ⟨k, hk, rfl, hB⟩ := hrel
    by_cases hlt : k < n
    · obtain ⟨b1, o1, hA1, l1, c1⟩ := (HA.out.after hB).at_ (k := k) (by rw [HN.out]; exact hlt)
      obtain ⟨b2, o2, hA2, l2, c2⟩ := (HB.out.after hB).at_ (k := k) (by rw [HN.out]; exact hlt)
      generalize zs.getD k 0 = z at *
      subst hA1 hA2
      go_upto_region 6 with (fail)
      refine Drawn.wp_region_from (Below.refl _ _) (by kernel_rfl) (by kernel_rfl) (by kernel_rfl) ?_
      (repeat (first | (refine Drawn.seq_skip (by rfl) ?_; (try simp only [Act.put, List.setIfInBounds_toArray, List.set_cons_zero, List.set_cons_succ])) | (refine Drawn.seq_call (o := ⟨_, .call ⟨.value _, _, _⟩, _, _, _, _⟩) (by rfl) (by intro w2 hS; go_simp; first | done | with_reducible rfl | exact ⟨rfl, rfl⟩) (by intro w2 hS; fail) ?_; (try simp only [Act.put, List.setIfInBounds_toArray, List.set_cons_zero, List.set_cons_succ])) | (refine Drawn.seq_value (by rfl) (by intro w2 hS; obtain ⟨hc, hf⟩ := bcell hS; go_simp; first | done | with_reducible rfl | exact ⟨rfl, rfl⟩) ?_; (try simp only [Act.put, List.setIfInBounds_toArray, List.set_cons_zero, List.set_cons_succ]))))
      refine Drawn.seq_end ?_; intro w2 hS
      go_wp2
      go_roundw
      case rel => exact ⟨k + 1, by omega, by go_num, Below.after2 hB (Nat.le_refl _) hS⟩
      case measure => simp [intOf]; omega
    · go_wp2
      go_ret
      exact ⟨rfl, hB⟩

end Go.Proofs.Ytbmidmpooooheaa.Fix
