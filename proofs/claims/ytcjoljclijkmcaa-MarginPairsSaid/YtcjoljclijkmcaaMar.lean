/- The contracts of the calls of the layer margin (and of the document's own answers for it) that make no row: Collapse, Pair, Auto. -/
import Derived.Test.YtcjoljclijkmcaaLen
import Derived.Test.YtcjoljclijkmcaaFixSum
import Derived.Test.YtcjoljclijkmcaaMarMath
import Derived.Lib.MinMax
namespace Go.Proofs.Ytcjoljclijkmcaa.Fix
open Go.ChangeShapes Go.WideShapes Go.ChangeAt Go.RowKit
set_option linter.unusedVariables false


theorem together_any (A : Option Addr) (zs : List Int) (n c : Nat) (w : World) (h : Ints w A zs) (hn : zs.length = n) :
    Calls Try.prog 27 #[.slice A n c] w fun e w' => e = .returned (.int .i64 (Fx.coll zs)) ∧ w = w' := by
  obtain ⟨hm, h⟩ := h
  unfold maxLen at hm
  rw [hn] at hm h
  have HN := Lib.hid hn; clear hn
  have HA := Lib.hid h; clear h
  go_enter Try.func27, Try.ntmps27
  go_wp2
  go_loop [3, 4, 9] (fun g s i => ∃ k : Nat, k ≤ n ∧ i = .int .i64 k ∧ g = .int .i64 (Fx.top (zs.take k)) ∧ s = .int .i64 (Fx.bot (zs.take k))) (fun _ _ i => n - (intOf i).toNat)
  case atStart => exact ⟨0, by omega, rfl, rfl, rfl⟩
  case round =>
    obtain ⟨k, hk, rfl, rfl, rfl⟩ := hrel
    by_cases hlt : k < n
    · obtain ⟨b, off, rfl, hc⟩ := HA.out (by omega)
      have hcell := hc k hlt
      clear hc
      have hs : Hid (max (Fx.top (zs.take k)) (zs.getD k 0) = Fx.top (zs.take (k + 1))) := Lib.hid (by rw [take_snoc_int zs k (by rw [HN.out]; exact hlt), Fx.top_snoc])
      have ht : Hid (min (Fx.bot (zs.take k)) (zs.getD k 0) = Fx.bot (zs.take (k + 1))) := Lib.hid (by rw [take_snoc_int zs k (by rw [HN.out]; exact hlt), Fx.bot_snoc])
      clear HA
      generalize zs.getD k 0 = z at *
      go_wp2
      go_round
      case rel => exact ⟨k + 1, by omega, by go_num, by rw [hs.out], by rw [ht.out]⟩
      case measure => simp [intOf]; omega
    · go_wp2_with (first | (go_at_call 20; (with_reducible refine (add_any _ _ _).mono ?_); rintro e w' ⟨rfl, rfl⟩))
      go_ret
      exact ⟨ret_int (by rw [List.take_of_length_le (by rw [HN.out]; omega)]; rfl), rfl⟩

theorem coll_any (A : Option Addr) (zs : List Int) (n c : Nat) (w : World) (h : Ints w A zs) (hn : zs.length = n) :
    Calls Try.prog 12 #[.slice A n c] w fun e w' => e = .returned (.int .i64 (Fx.coll zs)) ∧ w = w' := by
  have S1 := together_any A zs n c w h hn
  go_enter Try.func12, Try.ntmps12
  go_wp2_with fail
  refine S1.mono ?_
  rintro e w' ⟨rfl, rfl⟩
  go_wp2
  go_ret
  exact ⟨rfl, rfl⟩

theorem rcoll_any (A : Option Addr) (zs : List Int) (n c : Nat) (w : World) (h : Ints w A zs) (hn : zs.length = n) :
    Calls Try.prog 13 #[.slice A n c] w fun e w' => e = .returned (.int .i64 (Fx.coll zs)) ∧ w = w' := by
  obtain ⟨hm, h⟩ := h
  unfold maxLen at hm
  rw [hn] at hm h
  have HN := Lib.hid hn; clear hn
  have HA := Lib.hid h; clear h
  go_enter Try.func13, Try.ntmps13
  go_wp2
  go_loop [3, 4, 5] (fun g s i => ∃ k : Nat, k ≤ n ∧ i = .int .i64 k ∧ g = .int .i64 (Fx.cut (Fx.top (zs.take k))) ∧ s = .int .i64 (Fx.cut (Fx.bot (zs.take k)))) (fun _ _ i => n - (intOf i).toNat)
  case atStart => exact ⟨0, by omega, rfl, rfl, rfl⟩
  case round =>
    obtain ⟨k, hk, rfl, rfl, rfl⟩ := hrel
    by_cases hlt : k < n
    · obtain ⟨b, off, rfl, hc⟩ := HA.out (by omega)
      have hcell := hc k hlt
      clear hc
      have hs : Hid (max (Fx.cut (Fx.top (zs.take k))) (Fx.cut (zs.getD k 0)) = Fx.cut (Fx.top (zs.take (k + 1)))) := Lib.hid (by rw [take_snoc_int zs k (by rw [HN.out]; exact hlt), Fx.top_snoc, Fx.cut_max])
      have ht : Hid (min (Fx.cut (Fx.bot (zs.take k))) (Fx.cut (zs.getD k 0)) = Fx.cut (Fx.bot (zs.take (k + 1)))) := Lib.hid (by rw [take_snoc_int zs k (by rw [HN.out]; exact hlt), Fx.bot_snoc, Fx.cut_min])
      clear HA
      generalize zs.getD k 0 = z at *
      go_wp2_with (first | (go_at_call 28; (with_reducible refine (rcut_any _ _).mono ?_); rintro e w' ⟨rfl, rfl⟩))
      go_round
      case rel => exact ⟨k + 1, by omega, by go_num, by rw [hs.out], by rw [ht.out]⟩
      case measure => simp [intOf]; omega
    · go_wp2_with (first | (go_at_call 29; (with_reducible refine (radd_any _ _ _).mono ?_); rintro e w' ⟨rfl, rfl⟩))
      go_ret
      exact ⟨ret_int (by rw [List.take_of_length_le (by rw [HN.out]; omega), Fx.add_cut]; rfl), rfl⟩

theorem ints_two (w : World) (a b : Int) (T : TypeId) : Ints (w.alloc (.cells #[.int .i64 a, .int .i64 b] T)) (some ⟨w.heap.size, 0, none⟩) [a, b] := ints_new w [a, b] T (by simp)

theorem pair_any (a b : Int) (w : World) : Calls Try.prog 14 #[.int .i64 a, .int .i64 b] w fun e w' => e = .returned (.int .i64 (Fx.coll [a, b])) ∧ Below w.heap.size w w' := by
  go_enter Try.func14, Try.ntmps14
  go_wp2_with (go_at_call 27; refine (together_any _ [a, b] 2 2 _ (ints_two _ _ _ _) rfl).mono ?_; rintro e w' ⟨rfl, rfl⟩)
  go_ret
  exact ⟨rfl, Below.alloc' (Below.refl _ _) _⟩

theorem share_any (n : Int) (a b : Bool) (w : World) (h1 : -1099511627776 ≤ n) (h2 : n ≤ 1099511627776) : Calls Try.prog 22 #[.int .i64 n, .bool a, .bool b] w fun e w' => e = .returned (.tuple #[.int .i64 (Fx.shA n a b), .int .i64 (Fx.shB n a b)]) ∧ w = w' := by
  by_cases h : n ≤ 0
  · go_enter Try.func22, Try.ntmps22
    go_wp2_with (first | (go_at_call 21; (with_reducible refine (sub_any _ _ _).mono ?_); rintro e w' ⟨rfl, rfl⟩))
    go_ret2
    exact ⟨ret_two (by unfold Fx.shA; rw [if_pos (by omega)]) (by unfold Fx.shB; rw [if_pos (by omega)]), rfl⟩
  · cases a <;> cases b
    all_goals
      go_enter Try.func22, Try.ntmps22
      go_wp2_with (first | (go_at_call 21; (with_reducible refine (sub_any _ _ _).mono ?_); rintro e w' ⟨rfl, rfl⟩))
      go_ret2
      exact ⟨ret_two (by unfold Fx.shA; rw [if_neg (by omega)]; rfl) (by unfold Fx.shB; rw [if_neg (by omega)]; rfl), rfl⟩

theorem wrap_half (a b : Int) : wrap64 (Fx.sub a b - Fx.sub a b / 2) = Fx.sub a b - Fx.sub a b / 2 := by
  have h1 := Fx.sub_le a b
  have h2 := Fx.sub_ge a b
  exact IntWalk.wrap64_in _ (by omega)

theorem auto_any (room size bk bn ek en base : Int) (w : World) : Calls Try.prog 10 #[.int .i64 room, .int .i64 size, .agg #[.int .i64 bk, .int .i64 bn], .agg #[.int .i64 ek, .int .i64 en], .int .i64 base] w fun e w' => e = .returned (.tuple #[.int .i64 (Fx.autoA room size (Fx.len bk bn base 0) (Fx.len ek en base 0) (Fx.fixd bk base) (Fx.fixd ek base)), .int .i64 (Fx.autoB room size (Fx.len bk bn base 0) (Fx.len ek en base 0) (Fx.fixd bk base) (Fx.fixd ek base))]) ∧ Below w.heap.size w w' := by
  go_enter Try.func10, Try.ntmps10
  go_upto_region 1 with (fail)
  (generalize hW : World.alloc (World.alloc w _) _ = W0; have A0 : At W0 (w.heap.size) (.cells #[.int .i64 bk, .int .i64 bn] 25) := (by ((rw [← hW]) <;> exact At.alloc (At.new' _ (by first | done | rfl | simp)) _)); have A1 : At W0 (w.heap.size + 1) (.cells #[.int .i64 ek, .int .i64 en] 25) := (by ((rw [← hW]) <;> exact At.new' _ (by first | done | rfl | simp))); have hB : Below w.heap.size w W0 := (by ((rw [← hW]) <;> exact Below.alloc' (Below.alloc' (Below.refl _ _) _) _)); clear hW; obtain ⟨l0, c0_0, c0_1⟩ := At.two A0; obtain ⟨l1, c1_0, c1_1⟩ := At.two A1)
  refine Drawn.wp_region_from (Below.refl _ _) (by kernel_rfl) (by kernel_rfl) (by kernel_rfl) ?_
  (repeat (first | (refine Drawn.seq_skip (by rfl) ?_; (try simp only [Act.put, List.setIfInBounds_toArray, List.set_cons_zero, List.set_cons_succ])) | (refine Drawn.seq_call (o := ⟨_, .call ⟨.value _, _, _⟩, _, _, _, _⟩) (by rfl) (by intro w2 hS; go_simp; first | done | with_reducible rfl | exact ⟨rfl, rfl⟩) (by intro w2 hS; first | ((with_reducible refine (len_any _ _ _ _ _).mono ?_); rintro e w' ⟨rfl, hb⟩; exact ⟨rfl, Below.after hS hb⟩)) ?_; (try simp only [Act.put, List.setIfInBounds_toArray, List.set_cons_zero, List.set_cons_succ])) | (refine Drawn.seq_value (by rfl) (by intro w2 hS; obtain ⟨hc, hf⟩ := bcell hS; go_simp; first | done | with_reducible rfl | exact ⟨rfl, rfl⟩) ?_; (try simp only [Act.put, List.setIfInBounds_toArray, List.set_cons_zero, List.set_cons_succ]))))
  refine Drawn.seq_end ?_; intro w2 hS
  (clear l0 c0_0 c0_1 l1 c1_0 c1_1); (replace hB := Below.after2 (by first | exact hB | exact Below.alloc' hB _ | exact Below.alloc' (Below.alloc' hB _) _) (Nat.le_refl _) hS); replace A0 := At.keep (by first | exact A0 | exact At.alloc A0 _ | exact At.alloc (At.alloc A0 _) _) hS; replace A1 := At.keep (by first | exact A1 | exact At.alloc A1 _ | exact At.alloc (At.alloc A1 _) _) hS; clear hS; obtain ⟨l0, c0_0, c0_1⟩ := At.two A0; obtain ⟨l1, c1_0, c1_1⟩ := At.two A1
  go_upto_region 3 with (first | (go_at_call 21; (with_reducible refine (sub_any _ _ _).mono ?_); rintro e w' ⟨rfl, rfl⟩) | (go_at_call 20; (with_reducible refine (add_any _ _ _).mono ?_); rintro e w' ⟨rfl, rfl⟩))
  refine Drawn.wp_region_from (Below.refl _ _) (by kernel_rfl) (by kernel_rfl) (by kernel_rfl) ?_
  (repeat (first | (refine Drawn.seq_skip (by rfl) ?_; (try simp only [Act.put, List.setIfInBounds_toArray, List.set_cons_zero, List.set_cons_succ])) | (refine Drawn.seq_call (o := ⟨_, .call ⟨.value _, _, _⟩, _, _, _, _⟩) (by rfl) (by intro w2 hS; go_simp; first | done | with_reducible rfl | exact ⟨rfl, rfl⟩) (by intro w2 hS; first | ((with_reducible refine (fixed_any _ _ _ _).mono ?_); rintro e w' ⟨rfl, hb⟩; exact ⟨rfl, Below.after hS hb⟩) | ((with_reducible refine (share_any _ _ _ _ (Fx.sub_ge _ _) (Fx.sub_le _ _)).mono ?_); rintro e w' ⟨rfl, rfl⟩; exact ⟨rfl, hS⟩)) ?_; (try simp only [Act.put, List.setIfInBounds_toArray, List.set_cons_zero, List.set_cons_succ])) | (refine Drawn.seq_value (by rfl) (by intro w2 hS; obtain ⟨hc, hf⟩ := bcell hS; go_simp; first | done | with_reducible rfl | exact ⟨rfl, rfl⟩) ?_; (try simp only [Act.put, List.setIfInBounds_toArray, List.set_cons_zero, List.set_cons_succ]))))
  refine Drawn.seq_end ?_; intro w2 hS
  (clear l0 c0_0 c0_1 l1 c1_0 c1_1); (replace hB := Below.after2 (by first | exact hB | exact Below.alloc' hB _ | exact Below.alloc' (Below.alloc' hB _) _) (Nat.le_refl _) hS); replace A0 := At.keep (by first | exact A0 | exact At.alloc A0 _ | exact At.alloc (At.alloc A0 _) _) hS; replace A1 := At.keep (by first | exact A1 | exact At.alloc A1 _ | exact At.alloc (At.alloc A1 _) _) hS; clear hS; obtain ⟨l0, c0_0, c0_1⟩ := At.two A0; obtain ⟨l1, c1_0, c1_1⟩ := At.two A1
  go_wp2_with (first | (go_at_call 20; (with_reducible refine (add_any _ _ _).mono ?_); rintro e w' ⟨rfl, rfl⟩))
  go_ret2
  exact ⟨rfl, hB⟩

theorem rauto_any (room size bk bn ek en base : Int) (w : World) : Calls Try.prog 11 #[.int .i64 room, .int .i64 size, .agg #[.int .i64 bk, .int .i64 bn], .agg #[.int .i64 ek, .int .i64 en], .int .i64 base] w fun e w' => e = .returned (.tuple #[.int .i64 (Fx.autoA room size (Fx.len bk bn base 0) (Fx.len ek en base 0) (Fx.fixd bk base) (Fx.fixd ek base)), .int .i64 (Fx.autoB room size (Fx.len bk bn base 0) (Fx.len ek en base 0) (Fx.fixd bk base) (Fx.fixd ek base))]) ∧ Below w.heap.size w w' := by
  have EA := Lib.hid (Fx.rautoA_eq room size (Fx.len bk bn base 0) (Fx.len ek en base 0) (Fx.fixd bk base) (Fx.fixd ek base) (Fx.len_cut _ _ _ _) (Fx.len_cut _ _ _ _) Fx.len_auto Fx.len_auto)
  have EB := Lib.hid (Fx.rautoB_eq room size (Fx.len bk bn base 0) (Fx.len ek en base 0) (Fx.fixd bk base) (Fx.fixd ek base) (Fx.len_cut _ _ _ _) (Fx.len_cut _ _ _ _) Fx.len_auto Fx.len_auto)
  cases hx : Fx.fixd bk base <;> cases hy : Fx.fixd ek base
  all_goals
    rw [hx, hy] at EA EB
    go_enter Try.func11, Try.ntmps11
    go_upto_region 1 with (fail)
    (generalize hW : World.alloc (World.alloc w _) _ = W0; have A0 : At W0 (w.heap.size) (.cells #[.int .i64 bk, .int .i64 bn] 25) := (by ((rw [← hW]) <;> exact At.alloc (At.new' _ (by first | done | rfl | simp)) _)); have A1 : At W0 (w.heap.size + 1) (.cells #[.int .i64 ek, .int .i64 en] 25) := (by ((rw [← hW]) <;> exact At.new' _ (by first | done | rfl | simp))); have hB : Below w.heap.size w W0 := (by ((rw [← hW]) <;> exact Below.alloc' (Below.alloc' (Below.refl _ _) _) _)); clear hW; obtain ⟨l0, c0_0, c0_1⟩ := At.two A0; obtain ⟨l1, c1_0, c1_1⟩ := At.two A1)
    go_wp2_with (first | (go_at_call 23; (with_reducible refine (rlen_any _ _ _ _ _).mono ?_); rintro e w' ⟨rfl, hb⟩; (clear l0 c0_0 c0_1 l1 c1_0 c1_1); (replace hB := Below.after2 (by first | exact hB | exact Below.alloc' hB _ | exact Below.alloc' (Below.alloc' hB _) _) (Nat.le_refl _) hb); replace A0 := At.keep (by first | exact A0 | exact At.alloc A0 _ | exact At.alloc (At.alloc A0 _) _) hb; replace A1 := At.keep (by first | exact A1 | exact At.alloc A1 _ | exact At.alloc (At.alloc A1 _) _) hb; clear hb; obtain ⟨l0, c0_0, c0_1⟩ := At.two A0; obtain ⟨l1, c1_0, c1_1⟩ := At.two A1) | (go_at_call 25; (with_reducible refine (rfixed_any _ _ _ _).mono ?_); rintro e w' ⟨rfl, hb⟩; (clear l0 c0_0 c0_1 l1 c1_0 c1_1); (replace hB := Below.after2 (by first | exact hB | exact Below.alloc' hB _ | exact Below.alloc' (Below.alloc' hB _) _) (Nat.le_refl _) hb); replace A0 := At.keep (by first | exact A0 | exact At.alloc A0 _ | exact At.alloc (At.alloc A0 _) _) hb; replace A1 := At.keep (by first | exact A1 | exact At.alloc A1 _ | exact At.alloc (At.alloc A1 _) _) hb; clear hb; obtain ⟨l0, c0_0, c0_1⟩ := At.two A0; obtain ⟨l1, c1_0, c1_1⟩ := At.two A1) | (go_at_call 24; (with_reducible refine (rsub_any _ _ _).mono ?_); rintro e w' ⟨rfl, rfl⟩) | (go_at_call 26; (with_reducible refine (rdiv_any _ _ _).mono ?_); rintro e w' ⟨rfl, rfl⟩))
  all_goals
    go_ret2
  all_goals
    refine ⟨ret_two ?_ ?_, hB⟩
  all_goals
    first | rw [← EA.out] | rw [← EB.out]
    first | unfold Fx.rautoA | unfold Fx.rautoB
    split <;> simp_all [Fx.div_two, wrap_half] <;> omega

end Go.Proofs.Ytcjoljclijkmcaa.Fix
