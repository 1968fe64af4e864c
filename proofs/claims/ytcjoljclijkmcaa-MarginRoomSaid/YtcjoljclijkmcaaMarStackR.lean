/- The contracts of the document's own answer for Stack (and of its comparison of two rows). -/
import Derived.Test.YtcjoljclijkmcaaMarStack
import Derived.Deep.RegionWith
namespace Go.Proofs.Ytcjoljclijkmcaa.Fix
open Go.ChangeShapes Go.WideShapes Go.ChangeAt Go.RowKit
set_option linter.unusedVariables false

/-- What an append of integers to a row of one's own comes to: the row's new value, and all below the base as it was. -/
theorem append_ints {w0 W : World} {base : Nat} {v : Value} {k m c : Nat} {xs l : List Int} {A : Option Addr} (hown : W.ownsRow base 3 1 v k (xs.map (Value.int .i64))) (hB : Below base w0 W) (hbase : base ≤ W.heap.size)
    (hI : Ints W A l) (hl : l.length = m) (hc : A = none → c = 0) (hkm : k + m ≤ 100000) :
    ∃ v' w', (Builtin.append_ #[22, 22] 22 #[v, .slice A m c]).run Try.prog W = .ok v' w' ∧ w'.ownsRow base 3 1 v' (k + m) ((xs ++ l).map (Value.int .i64)) ∧ Below base w0 w' ∧ base ≤ w'.heap.size := by
  obtain ⟨i0, hi0, hz0, hz1, hz2⟩ := info_parts intZero
  rcases A with _ | ad
  · have h0 : l = [] := by
      rcases Nat.eq_zero_or_pos l.length with h | h
      · exact List.eq_nil_of_length_eq_zero h
      · obtain ⟨b, o, e, _⟩ := hI.2 h; cases e
    subst h0
    subst hl
    rw [hc rfl]
    exact ⟨_, _, run_append_owned_none _ _ 22 22 3 i0 1 Try.underlying22 hi0 _ k _ hown, by simpa using hown, hB, hbase⟩
  · obtain ⟨v', w', hr, ho, hg, _, _⟩ := run_append_own_at (P := Try.prog) W base 22 22 3 i0 (.int .i64 0) 1 8 Try.underlying22 hi0 hz0 hz1 hz2 rfl (by decide) _ k _ hown ad m c (l.map (Value.int .i64)) (by simp [hl])
      (by
        intro j u hu
        have hj : j < l.length := by
          rcases Nat.lt_or_ge j l.length with h | h
          · exact h
          · rw [List.getElem?_eq_none (by simpa using h)] at hu; cases hu
        obtain ⟨b, o, e, hcell⟩ := hI.2 (by omega)
        injection e with e
        subst e
        have hcj := hcell j hj
        have e2 : (⟨b, o, none⟩ : Addr).add j = ⟨b, o + j, none⟩ := by
          unfold Addr.add; split
          · subst j; rfl
          · rfl
        rw [e2, hcj, ← hu]
        simp [List.getElem?_eq_getElem hj])
      (by intro u hu; obtain ⟨z, _, rfl⟩ := List.mem_map.1 hu; rfl) (by simp only [maxLen]; omega) (by omega) hbase
    refine ⟨v', w', hr, by rw [List.map_append]; exact ho, hB.grown hg hbase (fun g hgg => (hown.lt g hgg).1), ?_⟩
    exact Nat.le_trans hbase hg.size

/-- The same for one number, that stands in a new block. -/
theorem append_int {w0 W : World} {base : Nat} {v : Value} {k : Nat} {xs : List Int} (x : Int) (hown : W.ownsRow base 3 1 v k (xs.map (Value.int .i64))) (hB : Below base w0 W) (hbase : base ≤ W.heap.size) (hk : k ≤ 10000) :
    ∃ v' w', (Builtin.append_ #[22, 22] 22 #[v, .slice (some ⟨W.heap.size, 0, none⟩) 1 1]).run Try.prog (W.alloc (.cells #[.int .i64 x] 3)) = .ok v' w' ∧ w'.ownsRow base 3 1 v' (k + 1) ((xs ++ [x]).map (Value.int .i64)) ∧ Below base w0 w' ∧ base ≤ w'.heap.size :=
  append_ints (hown.alloc _) (hB.alloc hbase _) (by simp; omega) (ints_new W [x] 3 (by simp)) rfl (fun h => by cases h) (by omega)

theorem ints_two_drew (w : World) (a b : Int) (T : TypeId) : Ints (w.alloc (.cells #[.int .i64 a, .int .i64 b] T)).drew (some ⟨w.heap.size, 0, none⟩) [a, b] := ints_two w a b T

set_option maxHeartbeats 4000000 in
theorem rstack_any (A T B : Option Addr) (s t u : List Int) (n d1 d2 d3 : Nat) (w : World) (hs : Ints w A s) (ht : Ints w T t) (hu : Ints w B u) (ls : s.length = n) (lt : t.length = n) (lu : u.length = n) (hn : n ≤ 1001) :
    Calls Try.prog 16 #[.slice A n d1, .slice T n d2, .slice B n d3] w fun e w' => (∃ a c, e = .returned (.tuple #[.slice a n c, .int .i64 (Fx.stEnd s t u n)]) ∧ Ints w' a (Fx.stBegs s t u n)) ∧ Below w.heap.size w w' := by
  obtain ⟨i0, hi0, hz0, hz1, hz2⟩ := info_parts intZero
  have HS := Lib.hid hs; clear hs
  have HT := Lib.hid ht; clear ht
  have HU := Lib.hid hu; clear hu
  have LS := Lib.hid ls; clear ls
  have LT := Lib.hid lt; clear lt
  have LU := Lib.hid lu; clear lu
  go_enter Try.func16, Try.ntmps16
  go_wp2
  go_loopw [8, 9, 10] (fun v e i wr => ∃ k : Nat, k ≤ n ∧ i = .int .i64 k ∧ e = .int .i64 (Fx.stEnd s t u k) ∧ wr.ownsRow w.heap.size 3 1 v k ((Fx.stBegs s t u k).map (Value.int .i64)) ∧ Below w.heap.size w wr) (fun _ _ i _ => n - (intOf i).toNat)
  case atStart => exact ⟨0, by omega, rfl, rfl, World.ownsRow_nil _ _ _ _, Below.refl _ _⟩
  case round =>
    obtain ⟨k, hk, rfl, rfl, hown, hB⟩ := hrel
    have hB' := hB
    by_cases hlt : k < n
    · obtain ⟨b1, o1, hA1, l1, c1⟩ := (HS.out.after hB').at_ (k := k) (by rw [LS.out]; exact hlt)
      have HZ : Hid (Fx.stEnd s t u (k + 1) = Fx.add (Fx.stBeg s t u k) (s.getD k 0)) := Lib.hid (Fx.stEnd_succ s t u k)
      have HL : Hid ((Fx.stBegs s t u (k + 1)).map (Value.int .i64) = (Fx.stBegs s t u k).map (Value.int .i64) ++ [.int .i64 (Fx.stBeg s t u k)]) := Lib.hid (by rw [Fx.stBegs_succ, List.map_append]; rfl)
      generalize s.getD k 0 = z at *
      subst hA1
      have L1 : Hid (b1 < w.heap.size) := Lib.hid (HS.out.lt (by rw [LS.out]; omega) _ rfl)
      rcases Nat.eq_zero_or_pos k with rfl | h0
      · simp only [Nat.add_zero] at c1
        obtain ⟨v', w', hrun, hown2, hB2, hb2⟩ := append_int (Fx.stEnd s t u 0) hown hB (by have := hB.size; omega) (by omega)
        have c4 : w'.cell? ⟨b1, o1, none⟩ = some (.int .i64 z) := (hB2.cell (p := ⟨b1, o1, none⟩) L1.out).trans ((hB.cell (p := ⟨b1, o1, none⟩) L1.out).symm.trans c1)
        clear hown hB hB'
        have HRUN := Lib.hid hrun
        clear hrun
        go_wp2_with (first | (at_builtin; refine wpList_append_run (by rfl) _ _ 22 rfl rfl rfl HRUN.out ?_) | first | (go_at_call 29; (with_reducible refine (radd_any _ _ _).mono ?_); rintro e w' ⟨rfl, rfl⟩))
        go_roundw
        case rel => exact ⟨1, by omega, by go_num, by rw [HZ.out]; rfl, hown2, hB2⟩
        case measure => simp [intOf]; omega
      · obtain ⟨m, hm⟩ : ∃ m, k = m + 1 := ⟨k - 1, by omega⟩
        obtain ⟨b2, o2, hA2, l2, c2⟩ := (HT.out.after hB').at_ (k := k) (by rw [LT.out]; exact hlt)
        obtain ⟨b3, o3, hA3, l3, c3⟩ := (HU.out.after hB').at_ (k := m) (by rw [LU.out]; omega)
        have HP : Hid (Fx.stBeg s t u k = Fx.add (Fx.stEnd s t u k) (Fx.coll [u.getD m 0, t.getD k 0])) := Lib.hid (by rw [Fx.stBeg_pos s t u (by omega), show k - 1 = m by omega])
        generalize t.getD k 0 = y at *
        generalize u.getD m 0 = x at *
        subst hA2 hA3
        have hw : IntKind.i64.wrap ((k : Int) - 1) = (m : Int) := by rw [IntWalk.i64_in _ (by omega)]; omega
        have hmn : m < n := by omega
        have HM := Lib.hid hm
        clear hm
        go_upto_region 9 with (fail)
        go_region_with (first | (go_at_call 13; refine (rcoll_any _ [x, y] 2 2 _ (ints_two_drew _ _ _ _) rfl).mono ?_; rintro e w' ⟨rfl, rfl⟩) | first | (go_at_call 29; (with_reducible refine (radd_any _ _ _).mono ?_); rintro e w' ⟨rfl, rfl⟩))
        all_goals
          generalize hW : World.drew _ = W2
          have hown3 : W2.ownsRow w.heap.size 3 1 u8 k ((Fx.stBegs s t u k).map (Value.int .i64)) := hW ▸ (show ((wr.alloc _).drew).ownsRow _ _ _ _ _ _ from hown.alloc _)
          have hB3 : Below w.heap.size w W2 := hW ▸ (Below.alloc' hB _).drew
          obtain ⟨v', w', hrun, hown2, hB2, hb2⟩ := append_int (Fx.stBeg s t u k) hown3 hB3 hB3.size (by omega)
          have c4 : w'.cell? ⟨b1, o1 + k, none⟩ = some (.int .i64 z) := (hB2.cell (p := ⟨b1, o1 + k, none⟩) L1.out).trans ((hB.cell (p := ⟨b1, o1 + k, none⟩) L1.out).symm.trans c1)
          rw [HP.out] at hrun
          have HRUN := Lib.hid hrun
          clear hrun hown hown3 hB hB' hB3 hW c1 c2 c3 l1 l2 l3
          go_wp2_with (first | (at_builtin; refine wpList_append_run (by rfl) _ _ 22 rfl rfl rfl HRUN.out ?_) | first | (go_at_call 29; (with_reducible refine (radd_any _ _ _).mono ?_); rintro e w' ⟨rfl, rfl⟩))
          go_roundw
          case rel => exact ⟨k + 1, by omega, by go_num, by rw [HZ.out, HP.out], by rw [Fx.stBegs_succ]; exact hown2, hB2⟩
          case measure => simp [intOf]; omega
    · obtain rfl : k = n := by omega
      obtain ⟨A', c', rfl, hI'⟩ := ints_of_own hown (by simp only [maxLen]; omega)
      rw [Fx.stBegs_length]
      go_wp2
      refine bodyPost_ret (v := .tuple #[.slice A' k c', .int .i64 _]) (by simp [results, Try.results16, go_sem, *]; first | done | exact ⟨rfl, rfl⟩ | rfl) rfl ⟨⟨A', c', rfl, hI'⟩, hB⟩

/-- Where there are not as many tops, or bottoms. -/
theorem stack_none (A T B : Option Addr) (n1 n2 n3 d1 d2 d3 : Nat) (w : World) (h : ¬(n2 = n1 ∧ n3 = n1)) : Calls Try.prog 15 #[.slice A n1 d1, .slice T n2 d2, .slice B n3 d3] w fun e w' => e = .returned (.tuple #[.slice none 0 0, .int .i64 0]) ∧ w = w' := by
  by_cases h2 : n2 = n1
  · have h3 : ¬ n3 = n1 := fun h3 => h ⟨h2, h3⟩
    go_enter Try.func15, Try.ntmps15
    go_wp2
    refine bodyPost_ret (v := .tuple #[.slice none 0 0, .int .i64 _]) (by simp [results, Try.results15, go_sem, *]; first | done | exact ⟨rfl, rfl⟩ | rfl) rfl ⟨rfl, rfl⟩
  · go_enter Try.func15, Try.ntmps15
    go_wp2
    refine bodyPost_ret (v := .tuple #[.slice none 0 0, .int .i64 _]) (by simp [results, Try.results15, go_sem, *]; first | done | exact ⟨rfl, rfl⟩ | rfl) rfl ⟨rfl, rfl⟩

/-- Where there are not as many tops, or bottoms. -/
theorem rstack_none (A T B : Option Addr) (n1 n2 n3 d1 d2 d3 : Nat) (w : World) (h : ¬(n2 = n1 ∧ n3 = n1)) : Calls Try.prog 16 #[.slice A n1 d1, .slice T n2 d2, .slice B n3 d3] w fun e w' => e = .returned (.tuple #[.slice none 0 0, .int .i64 0]) ∧ w = w' := by
  by_cases h2 : n2 = n1
  · have h3 : ¬ n3 = n1 := fun h3 => h ⟨h2, h3⟩
    go_enter Try.func16, Try.ntmps16
    go_wp2
    refine bodyPost_ret (v := .tuple #[.slice none 0 0, .int .i64 _]) (by simp [results, Try.results16, go_sem, *]; first | done | exact ⟨rfl, rfl⟩ | rfl) rfl ⟨rfl, rfl⟩
  · go_enter Try.func16, Try.ntmps16
    go_wp2
    refine bodyPost_ret (v := .tuple #[.slice none 0 0, .int .i64 _]) (by simp [results, Try.results16, go_sem, *]; first | done | exact ⟨rfl, rfl⟩ | rfl) rfl ⟨rfl, rfl⟩

/-- Two rows of the same numbers are the same. -/
theorem row_any (A B : Option Addr) (zs : List Int) (n d1 d2 : Nat) (w : World) (hA : Ints w A zs) (hB : Ints w B zs) (hn : zs.length = n) (hm : n ≤ 100000) : Calls Try.prog 17 #[.slice A n d1, .slice B n d2] w fun e w' => e = .returned (.bool true) ∧ Below w.heap.size w w' := by
  have HA := Lib.hid hA; clear hA
  have HB := Lib.hid hB; clear hB
  have HN := Lib.hid hn; clear hn
  go_enter Try.func17, Try.ntmps17
  go_wp2
  go_loopw [5] (fun i wr => ∃ k : Nat, k ≤ n ∧ i = .int .i64 k ∧ Below w.heap.size w wr) (fun i _ => n - (intOf i).toNat)
  case atStart => exact ⟨0, by omega, rfl, Below.refl _ _⟩
  case round =>
    obtain ⟨k, hk, rfl, hB⟩ := hrel
    by_cases hlt : k < n
    · obtain ⟨b1, o1, hA1, l1, c1⟩ := (HA.out.after hB).at_ (k := k) (by rw [HN.out]; exact hlt)
      obtain ⟨b2, o2, hA2, l2, c2⟩ := (HB.out.after hB).at_ (k := k) (by rw [HN.out]; exact hlt)
      generalize zs.getD k 0 = z at *
      subst hA1 hA2
      go_upto_region 6 with (fail)
      refine Drawn.wp_region_from (Below.refl _ _) (by kernel_rfl) (by kernel_rfl) (by kernel_rfl) ?_
      (repeat (first | (refine Drawn.seq_skip (by rfl) ?_; (try simp only [Act.put, List.setIfInBounds_toArray, List.set_cons_zero, List.set_cons_succ])) | (refine Drawn.seq_call (o := ⟨_, .call ⟨.value _, _, _⟩, _, _, _, _⟩) (by rfl) (by intro w2 hS; go_simp; first | done | with_reducible rfl | exact ⟨rfl, rfl⟩) (by intro w2 hS; first | ((with_reducible refine (cut_any _ _).mono ?_); rintro e w' ⟨rfl, rfl⟩; exact ⟨rfl, hS⟩)) ?_; (try simp only [Act.put, List.setIfInBounds_toArray, List.set_cons_zero, List.set_cons_succ])) | (refine Drawn.seq_value (by rfl) (by intro w2 hS; obtain ⟨hc, hf⟩ := bcell hS; go_simp; first | done | with_reducible rfl | exact ⟨rfl, rfl⟩) ?_; (try simp only [Act.put, List.setIfInBounds_toArray, List.set_cons_zero, List.set_cons_succ]))))
      refine Drawn.seq_end ?_; intro w2 hS
      go_wp2
      go_roundw
      case rel => exact ⟨k + 1, by omega, by go_num, Below.after2 hB (Nat.le_refl _) hS⟩
      case measure => simp [intOf]; omega
    · go_wp2
      go_ret
      exact ⟨rfl, hB⟩

end Go.Proofs.Ytcjoljclijkmcaa.Fix
