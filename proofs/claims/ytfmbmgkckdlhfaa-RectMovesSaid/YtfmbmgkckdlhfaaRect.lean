/- The contracts of the calls of the layer rect: for all integers each call returns what the plain functions of XRectMath say, and leaves all that was there as it was. -/
import Derived.Test.YtfmbmgkckdlhfaaPoint
import Derived.Test.YtfmbmgkckdlhfaaSpan
import Derived.Test.YtfmbmgkckdlhfaaRectMath
import Derived.LoopN
import Derived.Deep.Cut
import Derived.Test.YtfmbmgkckdlhfaaDrawnAt
namespace Go.Proofs.Ytfmbmgkckdlhfaa.Fix
open Go.ChangeShapes Go.WideShapes Go.ChangeAt Go.RowKit
set_option linter.unusedVariables false


theorem ret_rect {a b c d a' b' c' d' : Int} (h1 : a = a') (h2 : b = b') (h3 : c = c') (h4 : d = d') : Ending.returned (.agg #[.int .i64 a, .int .i64 b, .int .i64 c, .int .i64 d]) = .returned (.agg #[.int .i64 a', .int .i64 b', .int .i64 c', .int .i64 d']) := by rw [h1, h2, h3, h4]

theorem emptyR_any (x y a b : Int) (w : World) : Calls Try.prog 30 #[.agg #[.int .i64 x, .int .i64 y, .int .i64 a, .int .i64 b]] w fun e w' => e = .returned (.bool (Fx.emp a b)) ∧ Below w.heap.size w w' := by
  go_enter Try.func30, Try.ntmps30
  go_wp2
  all_goals go_ret
  all_goals exact ⟨ret_bool (by unfold Fx.emp; simp <;> omega), (Below.refl _ _).alloc (Nat.le_refl _) _⟩

theorem small_any (x y a b : Int) (w : World) : Calls Try.prog 8 #[.agg #[.int .i64 x, .int .i64 y, .int .i64 a, .int .i64 b]] w fun e w' => e = .returned (.bool (Fx.small x y a b)) ∧ Below w.heap.size w w' := by
  go_enter Try.func8, Try.ntmps8
  go_wp2
  all_goals go_ret
  all_goals exact ⟨ret_bool (by unfold Fx.small; simp <;> omega), (Below.refl _ _).alloc (Nat.le_refl _) _⟩

theorem ofR_any (x y a b : Int) (w : World) : Calls Try.prog 16 #[.int .i64 x, .int .i64 y, .int .i64 a, .int .i64 b] w fun e w' => e = .returned (.agg #[.int .i64 (Fx.cut x), .int .i64 (Fx.cut y), .int .i64 (Fx.mx (Fx.cut a) 0), .int .i64 (Fx.mx (Fx.cut b) 0)]) ∧ Below w.heap.size w w' := by
  go_enter Try.func16, Try.ntmps16
  go_wp2_with (first | (go_at_call 22; (with_reducible refine (cut_any _ _).mono ?_); rintro e w' ⟨rfl, rfl⟩))
  all_goals
    refine bodyPost_ret (v := .agg #[.int .i64 _, .int .i64 _, .int .i64 _, .int .i64 _]) (by simp [results, Try.results16, go_sem]; first | done | exact ⟨rfl, rfl⟩ | exact ⟨rfl, rfl, rfl, rfl⟩ | rfl) rfl ⟨ret_rect rfl rfl (by unfold Fx.mx; split <;> omega) (by unfold Fx.mx; split <;> omega), ?_⟩
    (repeat (first | exact Below.refl _ _ | assumption | refine Below.drew ?_ | refine Below.drewN ?_ _ | refine Below.alloc' ?_ _ | refine Below.setCell ?_ (by first | (simp; done) | (simp; omega)) _ | refine Below.after2 ?_ (Nat.le_refl _) (by assumption)))

theorem across_any (x y a b : Int) (w : World) : Calls Try.prog 18 #[.agg #[.int .i64 x, .int .i64 y, .int .i64 a, .int .i64 b]] w fun e w' => e = .returned (.agg #[.int .i64 (Fx.cut x), .int .i64 (Fx.hi x a)]) ∧ Below w.heap.size w w' := by
  go_enter Try.func18, Try.ntmps18
  go_wp2_with (first | (go_at_call 33; (with_reducible refine (of_span _ _ _).mono ?_); rintro e w' ⟨rfl, hb⟩; (try replace hb := Below.after (by assumption) hb); obtain ⟨hc, hf⟩ := bcell hb; have hz := hb.size; (try simp at hz)))
  refine bodyPost_ret (by simp [results, Try.results18, go_sem, *]; first | done | exact ⟨rfl, rfl⟩ | rfl) rfl ⟨ret_span rfl rfl, ?_⟩
  (repeat (first | exact Below.refl _ _ | assumption | refine Below.drew ?_ | refine Below.drewN ?_ _ | refine Below.alloc' ?_ _ | refine Below.setCell ?_ (by first | (simp; done) | (simp; omega)) _ | refine Below.after2 ?_ (Nat.le_refl _) (by assumption)))

theorem down_span (x y a b : Int) (w : World) : Calls Try.prog 19 #[.agg #[.int .i64 x, .int .i64 y, .int .i64 a, .int .i64 b]] w fun e w' => e = .returned (.agg #[.int .i64 (Fx.cut y), .int .i64 (Fx.hi y b)]) ∧ Below w.heap.size w w' := by
  go_enter Try.func19, Try.ntmps19
  go_wp2_with (first | (go_at_call 33; (with_reducible refine (of_span _ _ _).mono ?_); rintro e w' ⟨rfl, hb⟩; (try replace hb := Below.after (by assumption) hb); obtain ⟨hc, hf⟩ := bcell hb; have hz := hb.size; (try simp at hz)))
  refine bodyPost_ret (by simp [results, Try.results19, go_sem, *]; first | done | exact ⟨rfl, rfl⟩ | rfl) rfl ⟨ret_span rfl rfl, ?_⟩
  (repeat (first | exact Below.refl _ _ | assumption | refine Below.drew ?_ | refine Below.drewN ?_ _ | refine Below.alloc' ?_ _ | refine Below.setCell ?_ (by first | (simp; done) | (simp; omega)) _ | refine Below.after2 ?_ (Nat.le_refl _) (by assumption)))

theorem byR_any (a b c d : Int) (w : World) : Calls Try.prog 17 #[.agg #[.int .i64 a, .int .i64 b], .agg #[.int .i64 c, .int .i64 d]] w fun e w' => e = .returned (.agg #[.int .i64 a, .int .i64 c, .int .i64 (Fx.size a b), .int .i64 (Fx.size c d)]) ∧ Below w.heap.size w w' := by
  go_enter Try.func17, Try.ntmps17
  go_wp2
  refine Drawn.wp_region_tail 9 1 (by first | assumption | exact Below.refl _ _) (by kernel_rfl) (by kernel_rfl) rfl (by kernel_rfl) (by kernel_rfl) ?_
  (repeat (first | (refine Drawn.seq_skip (by rfl) ?_; (try simp only [Act.put, List.setIfInBounds_toArray, List.set_cons_zero, List.set_cons_succ])) | (refine Drawn.seq_call (o := ⟨_, .call ⟨.value _, _, _⟩, _, _, _, _⟩) (by rfl) (by intro w2 hS; go_simp; first | done | with_reducible rfl | exact ⟨rfl, rfl⟩) (by intro w2 hS; first | ((with_reducible refine (size_any _ _ _).mono ?_); rintro e w' ⟨rfl, hb⟩; exact ⟨rfl, Below.after hS hb⟩)) ?_; (try simp only [Act.put, List.setIfInBounds_toArray, List.set_cons_zero, List.set_cons_succ])) | (refine Drawn.seq_value (by rfl) (by intro w2 hS; obtain ⟨hc, hf⟩ := bcell hS; go_simp; first | done | with_reducible rfl | exact ⟨rfl, rfl⟩) ?_; (try simp only [Act.put, List.setIfInBounds_toArray, List.set_cons_zero, List.set_cons_succ]))))
  refine Drawn.seq_tail ?_; intro w2 hS; obtain ⟨hc, hf⟩ := bcell hS; refine Drawn.text_cons (by rfl) ?_; intro K hK; go_simp; refine hK _ _ (Drawn.text_nil ?_); clear hK K
  go_wp2
  refine bodyPost_ret (by simp [results, Try.results17, go_sem, *]; first | done | exact ⟨rfl, rfl⟩ | rfl) rfl ⟨ret_rect rfl rfl rfl rfl, ?_⟩
  (repeat (first | exact Below.refl _ _ | assumption | refine Below.drew ?_ | refine Below.drewN ?_ _ | refine Below.alloc' ?_ _ | refine Below.setCell ?_ (by first | (simp; done) | (simp; omega)) _ | refine Below.after2 ?_ (Nat.le_refl _) (by assumption)))

theorem hasR_any (x y a b p q : Int) (w : World) : Calls Try.prog 12 #[.agg #[.int .i64 x, .int .i64 y, .int .i64 a, .int .i64 b], pt p q] w fun e w' => e = .returned (.bool (Fx.hasR x y a b (Fx.cut p) (Fx.cut q))) ∧ Below w.heap.size w w' := by
  go_enter Try.func12, Try.ntmps12
  go_wp2_with (first | (go_at_call 18; (with_reducible refine (across_any _ _ _ _ _).mono ?_); rintro e w' ⟨rfl, hb⟩; (try replace hb := Below.after (by assumption) hb); obtain ⟨hc, hf⟩ := bcell hb; have hz := hb.size; (try simp at hz)) | (go_at_call 19; (with_reducible refine (down_span _ _ _ _ _).mono ?_); rintro e w' ⟨rfl, hb⟩; (try replace hb := Below.after (by assumption) hb); obtain ⟨hc, hf⟩ := bcell hb; have hz := hb.size; (try simp at hz)) | (go_at_call 23; (with_reducible refine (x_any _ _ _).mono ?_); rintro e w' ⟨rfl, rfl⟩) | (go_at_call 24; (with_reducible refine (y_any _ _ _).mono ?_); rintro e w' ⟨rfl, rfl⟩) | (go_at_call 26; (with_reducible refine (has_any _ _ _ _).mono ?_); rintro e w' ⟨rfl, hb⟩; (try replace hb := Below.after (by assumption) hb); obtain ⟨hc, hf⟩ := bcell hb; have hz := hb.size; (try simp at hz)))
  all_goals go_ret
  all_goals
    refine ⟨ret_bool (by simp [Fx.hasR, *]), ?_⟩
    (repeat (first | exact Below.refl _ _ | assumption | refine Below.drew ?_ | refine Below.drewN ?_ _ | refine Below.alloc' ?_ _ | refine Below.setCell ?_ (by first | (simp; done) | (simp; omega)) _ | refine Below.after2 ?_ (Nat.le_refl _) (by assumption)))

theorem inR_any (x y a b x' y' a' b' : Int) (w : World) : Calls Try.prog 15 #[.agg #[.int .i64 x, .int .i64 y, .int .i64 a, .int .i64 b], .agg #[.int .i64 x', .int .i64 y', .int .i64 a', .int .i64 b']] w fun e w' => e = .returned (.bool (Fx.innR x y a b x' y' a' b')) ∧ Below w.heap.size w w' := by
  cases hE : Fx.emp a b with
  | true =>
    go_enter Try.func15, Try.ntmps15
    go_wp2
    refine Drawn.wp_region_from (by first | assumption | exact Below.refl _ _) (by kernel_rfl) (by kernel_rfl) (by kernel_rfl) ?_
    (repeat (first | (refine Drawn.seq_skip (by rfl) ?_; (try simp only [Act.put, List.setIfInBounds_toArray, List.set_cons_zero, List.set_cons_succ])) | (refine Drawn.seq_call (o := ⟨_, .call ⟨.value _, _, _⟩, _, _, _, _⟩) (by rfl) (by intro w2 hS; go_simp; first | done | with_reducible rfl | exact ⟨rfl, rfl⟩) (by intro w2 hS; first | ((with_reducible refine (emptyR_any _ _ _ _ _).mono ?_); rintro e w' ⟨rfl, hb⟩; exact ⟨rfl, Below.after hS hb⟩)) ?_; (try simp only [Act.put, List.setIfInBounds_toArray, List.set_cons_zero, List.set_cons_succ])) | (refine Drawn.seq_value (by rfl) (by intro w2 hS; obtain ⟨hc, hf⟩ := bcell hS; go_simp; first | done | with_reducible rfl | exact ⟨rfl, rfl⟩) ?_; (try simp only [Act.put, List.setIfInBounds_toArray, List.set_cons_zero, List.set_cons_succ]))))
    refine Drawn.seq_end ?_; intro w2 hS
    go_wp2
    go_ret
    refine ⟨ret_bool (by simp [Fx.innR, hE]), ?_⟩
    (repeat (first | exact Below.refl _ _ | assumption | refine Below.drew ?_ | refine Below.drewN ?_ _ | refine Below.alloc' ?_ _ | refine Below.setCell ?_ (by first | (simp; done) | (simp; omega)) _ | refine Below.after2 ?_ (Nat.le_refl _) (by assumption)))
  | false =>
    cases hX : Fx.inn (Fx.cut x) (Fx.hi x a) (Fx.cut x') (Fx.hi x' a') with
    | false =>
      go_enter Try.func15, Try.ntmps15
      go_wp2
      refine Drawn.wp_region_from (by first | assumption | exact Below.refl _ _) (by kernel_rfl) (by kernel_rfl) (by kernel_rfl) ?_
      (repeat (first | (refine Drawn.seq_skip (by rfl) ?_; (try simp only [Act.put, List.setIfInBounds_toArray, List.set_cons_zero, List.set_cons_succ])) | (refine Drawn.seq_call (o := ⟨_, .call ⟨.value _, _, _⟩, _, _, _, _⟩) (by rfl) (by intro w2 hS; go_simp; first | done | with_reducible rfl | exact ⟨rfl, rfl⟩) (by intro w2 hS; first | ((with_reducible refine (emptyR_any _ _ _ _ _).mono ?_); rintro e w' ⟨rfl, hb⟩; exact ⟨rfl, Below.after hS hb⟩) | ((with_reducible refine (across_any _ _ _ _ _).mono ?_); rintro e w' ⟨rfl, hb⟩; exact ⟨rfl, Below.after hS hb⟩) | ((with_reducible refine (in_any _ _ _ _ _).mono ?_); rintro e w' ⟨rfl, hb⟩; exact ⟨rfl, Below.after hS hb⟩)) ?_; (try simp only [Act.put, List.setIfInBounds_toArray, List.set_cons_zero, List.set_cons_succ])) | (refine Drawn.seq_value (by rfl) (by intro w2 hS; obtain ⟨hc, hf⟩ := bcell hS; go_simp; first | done | with_reducible rfl | exact ⟨rfl, rfl⟩) ?_; (try simp only [Act.put, List.setIfInBounds_toArray, List.set_cons_zero, List.set_cons_succ]))))
      refine Drawn.seq_end ?_; intro w2 hS
      go_wp2
      go_ret
      refine ⟨ret_bool (by simp [Fx.innR, hE, hX]), ?_⟩
      (repeat (first | exact Below.refl _ _ | assumption | refine Below.drew ?_ | refine Below.drewN ?_ _ | refine Below.alloc' ?_ _ | refine Below.setCell ?_ (by first | (simp; done) | (simp; omega)) _ | refine Below.after2 ?_ (Nat.le_refl _) (by assumption)))
    | true =>
      go_enter Try.func15, Try.ntmps15
      go_wp2
      refine Drawn.wp_region_from (by first | assumption | exact Below.refl _ _) (by kernel_rfl) (by kernel_rfl) (by kernel_rfl) ?_
      (repeat (first | (refine Drawn.seq_skip (by rfl) ?_; (try simp only [Act.put, List.setIfInBounds_toArray, List.set_cons_zero, List.set_cons_succ])) | (refine Drawn.seq_call (o := ⟨_, .call ⟨.value _, _, _⟩, _, _, _, _⟩) (by rfl) (by intro w2 hS; go_simp; first | done | with_reducible rfl | exact ⟨rfl, rfl⟩) (by intro w2 hS; first | ((with_reducible refine (emptyR_any _ _ _ _ _).mono ?_); rintro e w' ⟨rfl, hb⟩; exact ⟨rfl, Below.after hS hb⟩) | ((with_reducible refine (across_any _ _ _ _ _).mono ?_); rintro e w' ⟨rfl, hb⟩; exact ⟨rfl, Below.after hS hb⟩) | ((with_reducible refine (down_span _ _ _ _ _).mono ?_); rintro e w' ⟨rfl, hb⟩; exact ⟨rfl, Below.after hS hb⟩) | ((with_reducible refine (in_any _ _ _ _ _).mono ?_); rintro e w' ⟨rfl, hb⟩; exact ⟨rfl, Below.after hS hb⟩)) ?_; (try simp only [Act.put, List.setIfInBounds_toArray, List.set_cons_zero, List.set_cons_succ])) | (refine Drawn.seq_value (by rfl) (by intro w2 hS; obtain ⟨hc, hf⟩ := bcell hS; go_simp; first | done | with_reducible rfl | exact ⟨rfl, rfl⟩) ?_; (try simp only [Act.put, List.setIfInBounds_toArray, List.set_cons_zero, List.set_cons_succ]))))
      refine Drawn.seq_end ?_; intro w2 hS
      go_wp2
      go_ret
      refine ⟨ret_bool (by simp [Fx.innR, hE, hX]), ?_⟩
      (repeat (first | exact Below.refl _ _ | assumption | refine Below.drew ?_ | refine Below.drewN ?_ _ | refine Below.alloc' ?_ _ | refine Below.setCell ?_ (by first | (simp; done) | (simp; omega)) _ | refine Below.after2 ?_ (Nat.le_refl _) (by assumption)))

set_option maxHeartbeats 4000000 in
theorem meetR_any (x y a b x' y' a' b' : Int) (w : World) : Calls Try.prog 21 #[.agg #[.int .i64 x, .int .i64 y, .int .i64 a, .int .i64 b], .agg #[.int .i64 x', .int .i64 y', .int .i64 a', .int .i64 b']] w fun e w' => e = .returned (.agg #[.int .i64 (Fx.mOf x y a b x' y' a' b' (Fx.mLo x a x' a')), .int .i64 (Fx.mOf x y a b x' y' a' b' (Fx.mLo y b y' b')), .int .i64 (Fx.mOf x y a b x' y' a' b' (Fx.mSz x a x' a')), .int .i64 (Fx.mOf x y a b x' y' a' b' (Fx.mSz y b y' b'))]) ∧ Below w.heap.size w w' := by
  cases hE : Fx.emp (Fx.mSz x a x' a') (Fx.mSz y b y' b')
  all_goals
    have HE := Lib.hid hE
    unfold Fx.mSz Fx.mLo Fx.mHi at hE
    go_enter Try.func21, Try.ntmps21
    go_wp2
    (generalize hW : World.alloc (World.alloc (World.alloc w _) _) _ = W0; have A0 : At W0 (w.heap.size) (.cells #[.int .i64 x, .int .i64 y, .int .i64 a, .int .i64 b] 23) := (by ((rw [← hW]) <;> exact At.alloc (At.alloc (At.new' _ (by first | done | rfl | simp)) _) _)); have A1 : At W0 (w.heap.size + 1) (.cells #[.int .i64 x', .int .i64 y', .int .i64 a', .int .i64 b'] 23) := (by ((rw [← hW]) <;> exact At.alloc (At.new' _ (by first | done | rfl | simp)) _)); have A2 : At W0 (w.heap.size + 1 + 1) (.cells #[.int .i64 0, .int .i64 0, .int .i64 0, .int .i64 0] 23) := (by ((rw [← hW]) <;> exact At.new' _ (by first | done | rfl | simp))); have hB : Below w.heap.size w W0 := (by ((rw [← hW]) <;> exact Below.alloc' (Below.alloc' (Below.alloc' (Below.refl _ _) _) _) _)); clear hW; obtain ⟨l0, c0_0, c0_1, c0_2, c0_3⟩ := At.four A0; obtain ⟨l1, c1_0, c1_1, c1_2, c1_3⟩ := At.four A1; obtain ⟨l2, c2_0, c2_1, c2_2, c2_3⟩ := At.four A2; have z2_0 := A2.thaw 0; have z2_1 := A2.thaw 1; have z2_2 := A2.thaw 2; have z2_3 := A2.thaw 3)
    refine Drawn.wp_region_alloc (norm := [⟨_, _, _, _, _, _⟩, ⟨_, _, _, _, _, _⟩, ⟨_, _, _, _, _, _⟩, ⟨_, _, _, _, _, _⟩, ⟨_, _, _, _, _, _⟩, ⟨_, _, _, _, _, _⟩, ⟨_, _, _, _, _, _⟩, ⟨_, _, _, _, _, _⟩, ⟨_, _, _, _, _, _⟩, ⟨_, _, _, _, _, _⟩, ⟨_, _, _, _, _, _⟩]) (tail := [⟨_, _, _, _, _, _⟩]) (x := .cells #[.int .i64 0, .int .i64 0, .int .i64 0, .int .i64 0] 23) (so := ⟨_, _, _, _, _, _⟩) [0, 1, 2, 3, 4, 5, 6, 7, 8, 9, 10] 11 12 (Below.refl _ _) (by kernel_rfl) (by kernel_rfl) rfl rfl rfl rfl (by kernel_rfl) (by kernel_rfl) (by kernel_rfl) (by intro a w2 hS; refine ⟨rfl, ?_⟩; go_simp; first | done | with_reducible rfl | exact ⟨rfl, rfl⟩) ?_
    (repeat (first | (refine Drawn.bseq_skip (by rfl) ?_; (try simp only [Act.put, List.setIfInBounds_toArray, List.set_cons_zero, List.set_cons_succ])) | (refine Drawn.bseq_call (o := ⟨_, .call ⟨.value _, _, _⟩, _, _, _, _⟩) (by rfl) (by intro w2 hS; go_simp; first | done | with_reducible rfl | exact ⟨rfl, rfl⟩) (by intro w2 hS; first | ((with_reducible refine (across_any _ _ _ _ _).mono ?_); exact fun _ _ h => h) | ((with_reducible refine (down_span _ _ _ _ _).mono ?_); exact fun _ _ h => h) | ((with_reducible refine (meet_any _ _ _ _ _).mono ?_); exact fun _ _ h => h) | ((with_reducible refine (byR_any _ _ _ _ _).mono ?_); exact fun _ _ h => h)) ?_; (try simp only [Act.put, List.setIfInBounds_toArray, List.set_cons_zero, List.set_cons_succ])) | (refine Drawn.bseq_value (by rfl) (by intro w2 hS; obtain ⟨hc, hf⟩ := bcell hS; go_simp; first | done | with_reducible rfl | exact ⟨rfl, rfl⟩) ?_; (try simp only [Act.put, List.setIfInBounds_toArray, List.set_cons_zero, List.set_cons_succ]))))
    refine Drawn.bseq_end ?_; intro n0 w2 hn hA hS; (try simp only [Act.put, List.setIfInBounds_toArray, List.set_cons_zero, List.set_cons_succ])
    ((have hB0 := hB); have ne0 := Nat.ne_of_lt (Nat.lt_of_lt_of_le A0.lt hn); have ne1 := Nat.ne_of_lt (Nat.lt_of_lt_of_le A1.lt hn); have ne2 := Nat.ne_of_lt (Nat.lt_of_lt_of_le A2.lt hn); (clear l0 c0_0 c0_1 c0_2 c0_3 l1 c1_0 c1_1 c1_2 c1_3 l2 c2_0 c2_1 c2_2 c2_3 z2_0 z2_1 z2_2 z2_3); (replace hB := Below.after2 (by first | exact hB | exact Below.alloc' hB _ | exact Below.alloc' (Below.alloc' hB _) _) (Nat.le_refl _) hS); replace A0 := At.keep (by first | exact A0 | exact At.alloc A0 _ | exact At.alloc (At.alloc A0 _) _) hS; replace A1 := At.keep (by first | exact A1 | exact At.alloc A1 _ | exact At.alloc (At.alloc A1 _) _) hS; replace A2 := At.keep (by first | exact A2 | exact At.alloc A2 _ | exact At.alloc (At.alloc A2 _) _) hS; clear hS; obtain ⟨l0, c0_0, c0_1, c0_2, c0_3⟩ := At.four A0; obtain ⟨l1, c1_0, c1_1, c1_2, c1_3⟩ := At.four A1; obtain ⟨l2, c2_0, c2_1, c2_2, c2_3⟩ := At.four A2; have z2_0 := A2.thaw 0; have z2_1 := A2.thaw 1; have z2_2 := A2.thaw 2; have z2_3 := A2.thaw 3; have A3 := hA; clear hA; obtain ⟨l3, c3_0, c3_1, c3_2, c3_3⟩ := At.four A3; have z3_0 := A3.thaw 0; have z3_1 := A3.thaw 1; have z3_2 := A3.thaw 2; have z3_3 := A3.thaw 3; have g0 := Nat.le_trans (by first | exact hB0.size | exact Nat.le_refl _) hn; clear hB0)
    refine Drawn.text_cons (by rfl) ?_; intro K hK; go_simp; refine hK _ _ (Drawn.text_nil ?_); clear hK K
    (generalize hW : World.setCell (World.setCell (World.setCell (World.setCell _ _ _) _ _) _ _) _ _ = W2; clear l0 c0_0 c0_1 c0_2 c0_3 l1 c1_0 c1_1 c1_2 c1_3 l2 c2_0 c2_1 c2_2 c2_3 z2_0 z2_1 z2_2 z2_3 l3 c3_0 c3_1 c3_2 c3_3 z3_0 z3_1 z3_2 z3_3; replace A3 : At W2 _ _ := hW ▸ (At.put4 A3 _ _ _ _); replace A0 : At W2 _ _ := hW ▸ (At.off (At.off (At.off (At.off A0 ne0 _ _) ne0 _ _) ne0 _ _) ne0 _ _); replace A1 : At W2 _ _ := hW ▸ (At.off (At.off (At.off (At.off A1 ne1 _ _) ne1 _ _) ne1 _ _) ne1 _ _); replace A2 : At W2 _ _ := hW ▸ (At.off (At.off (At.off (At.off A2 ne2 _ _) ne2 _ _) ne2 _ _) ne2 _ _); replace hB : Below w.heap.size w W2 := hW ▸ (Below.setCell (Below.setCell (Below.setCell (Below.setCell hB g0 _) g0 _) g0 _) g0 _); clear hW ne0 ne1 ne2; obtain ⟨l0, c0_0, c0_1, c0_2, c0_3⟩ := At.four A0; obtain ⟨l1, c1_0, c1_1, c1_2, c1_3⟩ := At.four A1; obtain ⟨l2, c2_0, c2_1, c2_2, c2_3⟩ := At.four A2; have z2_0 := A2.thaw 0; have z2_1 := A2.thaw 1; have z2_2 := A2.thaw 2; have z2_3 := A2.thaw 3; obtain ⟨l3, c3_0, c3_1, c3_2, c3_3⟩ := At.four A3)
    clear A0 l0 c0_0 c0_1 c0_2 c0_3 A1 l1 c1_0 c1_1 c1_2 c1_3
    go_wp2_with (first | (go_at_call 30; (with_reducible refine (emptyR_any _ _ _ _ _).mono ?_); rintro e w' ⟨rfl, hb⟩; (clear l2 c2_0 c2_1 c2_2 c2_3 z2_0 z2_1 z2_2 z2_3 l3 c3_0 c3_1 c3_2 c3_3); (replace hB := Below.after2 (by first | exact hB | exact Below.alloc' hB _ | exact Below.alloc' (Below.alloc' hB _) _) (Nat.le_refl _) hb); replace A2 := At.keep (by first | exact A2 | exact At.alloc A2 _ | exact At.alloc (At.alloc A2 _) _) hb; replace A3 := At.keep (by first | exact A3 | exact At.alloc A3 _ | exact At.alloc (At.alloc A3 _) _) hb; clear hb; obtain ⟨l2, c2_0, c2_1, c2_2, c2_3⟩ := At.four A2; have z2_0 := A2.thaw 0; have z2_1 := A2.thaw 1; have z2_2 := A2.thaw 2; have z2_3 := A2.thaw 3; obtain ⟨l3, c3_0, c3_1, c3_2, c3_3⟩ := At.four A3))
    refine bodyPost_ret (v := .agg #[.int .i64 _, .int .i64 _, .int .i64 _, .int .i64 _]) (by simp [results, Try.results21, go_sem, *]; first | done | exact ⟨rfl, rfl⟩ | exact ⟨rfl, rfl, rfl, rfl⟩ | rfl) rfl ⟨ret_rect (by unfold Fx.mOf; rw [HE.out]; rfl) (by unfold Fx.mOf; rw [HE.out]; rfl) (by unfold Fx.mOf; rw [HE.out]; rfl) (by unfold Fx.mOf; rw [HE.out]; rfl), ?_⟩
    (repeat (first | exact Below.refl _ _ | assumption | refine Below.drew ?_ | refine Below.drewN ?_ _ | refine Below.alloc' ?_ _ | refine Below.setCell ?_ (by first | (simp; done) | (simp; omega)) _ | refine Below.after2 ?_ (Nat.le_refl _) (by assumption)))

set_option maxHeartbeats 4000000 in
theorem joinR_any (x y a b x' y' a' b' : Int) (w : World) : Calls Try.prog 20 #[.agg #[.int .i64 x, .int .i64 y, .int .i64 a, .int .i64 b], .agg #[.int .i64 x', .int .i64 y', .int .i64 a', .int .i64 b']] w fun e w' => e = .returned (.agg #[.int .i64 (Fx.jOf a b a' b' x x' (Fx.jLo x a x' a')), .int .i64 (Fx.jOf a b a' b' y y' (Fx.jLo y b y' b')), .int .i64 (Fx.jOf a b a' b' a a' (Fx.jSz x a x' a')), .int .i64 (Fx.jOf a b a' b' b b' (Fx.jSz y b y' b'))]) ∧ Below w.heap.size w w' := by
  cases hE : Fx.emp a b <;> cases hE' : Fx.emp a' b'
  · have HE := Lib.hid hE
    have HE' := Lib.hid hE'
    go_enter Try.func20, Try.ntmps20
    go_upto_region 1 with (fail)
    (generalize hW : World.alloc (World.alloc (World.alloc w _) _) _ = W0; have A0 : At W0 (w.heap.size) (.cells #[.int .i64 x, .int .i64 y, .int .i64 a, .int .i64 b] 23) := (by ((rw [← hW]) <;> exact At.alloc (At.alloc (At.new' _ (by first | done | rfl | simp)) _) _)); have A1 : At W0 (w.heap.size + 1) (.cells #[.int .i64 x', .int .i64 y', .int .i64 a', .int .i64 b'] 23) := (by ((rw [← hW]) <;> exact At.alloc (At.new' _ (by first | done | rfl | simp)) _)); have A2 : At W0 (w.heap.size + 1 + 1) (.cells #[.int .i64 0, .int .i64 0, .int .i64 0, .int .i64 0] 23) := (by ((rw [← hW]) <;> exact At.new' _ (by first | done | rfl | simp))); have hB : Below w.heap.size w W0 := (by ((rw [← hW]) <;> exact Below.alloc' (Below.alloc' (Below.alloc' (Below.refl _ _) _) _) _)); clear hW; obtain ⟨l0, c0_0, c0_1, c0_2, c0_3⟩ := At.four A0; obtain ⟨l1, c1_0, c1_1, c1_2, c1_3⟩ := At.four A1; obtain ⟨l2, c2_0, c2_1, c2_2, c2_3⟩ := At.four A2; have z2_0 := A2.thaw 0; have z2_1 := A2.thaw 1; have z2_2 := A2.thaw 2; have z2_3 := A2.thaw 3)
    go_upto_region 7 with (first | (go_at_call 30; (with_reducible refine (emptyR_any _ _ _ _ _).mono ?_); rintro e w' ⟨rfl, hb⟩; (clear l0 c0_0 c0_1 c0_2 c0_3 l1 c1_0 c1_1 c1_2 c1_3 l2 c2_0 c2_1 c2_2 c2_3 z2_0 z2_1 z2_2 z2_3); (replace hB := Below.after2 (by first | exact hB | exact Below.alloc' hB _ | exact Below.alloc' (Below.alloc' hB _) _) (Nat.le_refl _) hb); replace A0 := At.keep (by first | exact A0 | exact At.alloc A0 _ | exact At.alloc (At.alloc A0 _) _) hb; replace A1 := At.keep (by first | exact A1 | exact At.alloc A1 _ | exact At.alloc (At.alloc A1 _) _) hb; replace A2 := At.keep (by first | exact A2 | exact At.alloc A2 _ | exact At.alloc (At.alloc A2 _) _) hb; clear hb; obtain ⟨l0, c0_0, c0_1, c0_2, c0_3⟩ := At.four A0; obtain ⟨l1, c1_0, c1_1, c1_2, c1_3⟩ := At.four A1; obtain ⟨l2, c2_0, c2_1, c2_2, c2_3⟩ := At.four A2; have z2_0 := A2.thaw 0; have z2_1 := A2.thaw 1; have z2_2 := A2.thaw 2; have z2_3 := A2.thaw 3))
    refine Drawn.wp_region_tail 11 1 (Below.refl _ _) (by kernel_rfl) (by kernel_rfl) rfl (by kernel_rfl) (by kernel_rfl) ?_
    (repeat (first | (refine Drawn.seq_skip (by rfl) ?_; (try simp only [Act.put, List.setIfInBounds_toArray, List.set_cons_zero, List.set_cons_succ])) | (refine Drawn.seq_call (o := ⟨_, .call ⟨.value _, _, _⟩, _, _, _, _⟩) (by rfl) (by intro w2 hS; go_simp; first | done | with_reducible rfl | exact ⟨rfl, rfl⟩) (by intro w2 hS; first | ((with_reducible refine (across_any _ _ _ _ _).mono ?_); rintro e w' ⟨rfl, hb⟩; exact ⟨rfl, Below.after hS hb⟩) | ((with_reducible refine (down_span _ _ _ _ _).mono ?_); rintro e w' ⟨rfl, hb⟩; exact ⟨rfl, Below.after hS hb⟩) | ((with_reducible refine (join_any _ _ _ _ _).mono ?_); rintro e w' ⟨rfl, hb⟩; exact ⟨rfl, Below.after hS hb⟩) | ((with_reducible refine (byR_any _ _ _ _ _).mono ?_); rintro e w' ⟨rfl, hb⟩; exact ⟨rfl, Below.after hS hb⟩)) ?_; (try simp only [Act.put, List.setIfInBounds_toArray, List.set_cons_zero, List.set_cons_succ])) | (refine Drawn.seq_value (by rfl) (by intro w2 hS; obtain ⟨hc, hf⟩ := bcell hS; go_simp; first | done | with_reducible rfl | exact ⟨rfl, rfl⟩) ?_; (try simp only [Act.put, List.setIfInBounds_toArray, List.set_cons_zero, List.set_cons_succ]))))
    refine Drawn.seq_tail ?_; intro w2 hS
    (clear l0 c0_0 c0_1 c0_2 c0_3 l1 c1_0 c1_1 c1_2 c1_3 l2 c2_0 c2_1 c2_2 c2_3 z2_0 z2_1 z2_2 z2_3); (replace hB := Below.after2 (by first | exact hB | exact Below.alloc' hB _ | exact Below.alloc' (Below.alloc' hB _) _) (Nat.le_refl _) hS); replace A0 := At.keep (by first | exact A0 | exact At.alloc A0 _ | exact At.alloc (At.alloc A0 _) _) hS; replace A1 := At.keep (by first | exact A1 | exact At.alloc A1 _ | exact At.alloc (At.alloc A1 _) _) hS; replace A2 := At.keep (by first | exact A2 | exact At.alloc A2 _ | exact At.alloc (At.alloc A2 _) _) hS; clear hS; obtain ⟨l0, c0_0, c0_1, c0_2, c0_3⟩ := At.four A0; obtain ⟨l1, c1_0, c1_1, c1_2, c1_3⟩ := At.four A1; obtain ⟨l2, c2_0, c2_1, c2_2, c2_3⟩ := At.four A2; have z2_0 := A2.thaw 0; have z2_1 := A2.thaw 1; have z2_2 := A2.thaw 2; have z2_3 := A2.thaw 3
    refine Drawn.text_cons (by rfl) ?_; intro K hK; go_simp; refine hK _ _ (Drawn.text_nil ?_); clear hK K
    go_wp2
    refine bodyPost_ret (v := .agg #[.int .i64 _, .int .i64 _, .int .i64 _, .int .i64 _]) (by simp [results, Try.results20, go_sem, *]; first | done | exact ⟨rfl, rfl⟩ | exact ⟨rfl, rfl, rfl, rfl⟩ | rfl) rfl ⟨ret_rect (by unfold Fx.jOf; rw [HE.out, HE'.out]; rfl) (by unfold Fx.jOf; rw [HE.out, HE'.out]; rfl) (by unfold Fx.jOf; rw [HE.out, HE'.out]; rfl) (by unfold Fx.jOf; rw [HE.out, HE'.out]; rfl), ?_⟩
    (repeat (first | exact Below.refl _ _ | assumption | refine Below.drew ?_ | refine Below.drewN ?_ _ | refine Below.alloc' ?_ _ | refine Below.setCell ?_ (by first | (simp; done) | (simp; omega)) _ | refine Below.after2 ?_ (Nat.le_refl _) (by assumption)))
  all_goals
    have HE := Lib.hid hE
    have HE' := Lib.hid hE'
    go_enter Try.func20, Try.ntmps20
    go_upto_region 1 with (fail)
    (generalize hW : World.alloc (World.alloc (World.alloc w _) _) _ = W0; have A0 : At W0 (w.heap.size) (.cells #[.int .i64 x, .int .i64 y, .int .i64 a, .int .i64 b] 23) := (by ((rw [← hW]) <;> exact At.alloc (At.alloc (At.new' _ (by first | done | rfl | simp)) _) _)); have A1 : At W0 (w.heap.size + 1) (.cells #[.int .i64 x', .int .i64 y', .int .i64 a', .int .i64 b'] 23) := (by ((rw [← hW]) <;> exact At.alloc (At.new' _ (by first | done | rfl | simp)) _)); have A2 : At W0 (w.heap.size + 1 + 1) (.cells #[.int .i64 0, .int .i64 0, .int .i64 0, .int .i64 0] 23) := (by ((rw [← hW]) <;> exact At.new' _ (by first | done | rfl | simp))); have hB : Below w.heap.size w W0 := (by ((rw [← hW]) <;> exact Below.alloc' (Below.alloc' (Below.alloc' (Below.refl _ _) _) _) _)); clear hW; obtain ⟨l0, c0_0, c0_1, c0_2, c0_3⟩ := At.four A0; obtain ⟨l1, c1_0, c1_1, c1_2, c1_3⟩ := At.four A1; obtain ⟨l2, c2_0, c2_1, c2_2, c2_3⟩ := At.four A2; have z2_0 := A2.thaw 0; have z2_1 := A2.thaw 1; have z2_2 := A2.thaw 2; have z2_3 := A2.thaw 3)
    go_wp2_with (first | (go_at_call 30; (with_reducible refine (emptyR_any _ _ _ _ _).mono ?_); rintro e w' ⟨rfl, hb⟩; (clear l0 c0_0 c0_1 c0_2 c0_3 l1 c1_0 c1_1 c1_2 c1_3 l2 c2_0 c2_1 c2_2 c2_3 z2_0 z2_1 z2_2 z2_3); (replace hB := Below.after2 (by first | exact hB | exact Below.alloc' hB _ | exact Below.alloc' (Below.alloc' hB _) _) (Nat.le_refl _) hb); replace A0 := At.keep (by first | exact A0 | exact At.alloc A0 _ | exact At.alloc (At.alloc A0 _) _) hb; replace A1 := At.keep (by first | exact A1 | exact At.alloc A1 _ | exact At.alloc (At.alloc A1 _) _) hb; replace A2 := At.keep (by first | exact A2 | exact At.alloc A2 _ | exact At.alloc (At.alloc A2 _) _) hb; clear hb; obtain ⟨l0, c0_0, c0_1, c0_2, c0_3⟩ := At.four A0; obtain ⟨l1, c1_0, c1_1, c1_2, c1_3⟩ := At.four A1; obtain ⟨l2, c2_0, c2_1, c2_2, c2_3⟩ := At.four A2; have z2_0 := A2.thaw 0; have z2_1 := A2.thaw 1; have z2_2 := A2.thaw 2; have z2_3 := A2.thaw 3))
    refine bodyPost_ret (v := .agg #[.int .i64 _, .int .i64 _, .int .i64 _, .int .i64 _]) (by simp [results, Try.results20, go_sem, *]; first | done | exact ⟨rfl, rfl⟩ | exact ⟨rfl, rfl, rfl, rfl⟩ | rfl) rfl ⟨ret_rect (by unfold Fx.jOf; rw [HE.out, HE'.out]; rfl) (by unfold Fx.jOf; rw [HE.out, HE'.out]; rfl) (by unfold Fx.jOf; rw [HE.out, HE'.out]; rfl) (by unfold Fx.jOf; rw [HE.out, HE'.out]; rfl), ?_⟩
    (repeat (first | exact Below.refl _ _ | assumption | refine Below.drew ?_ | refine Below.drewN ?_ _ | refine Below.alloc' ?_ _ | refine Below.setCell ?_ (by first | (simp; done) | (simp; omega)) _ | refine Below.after2 ?_ (Nat.le_refl _) (by assumption)))

theorem moveR_any (x y a b p q : Int) (w : World) : Calls Try.prog 10 #[.agg #[.int .i64 x, .int .i64 y, .int .i64 a, .int .i64 b], pt p q] w fun e w' => e = .returned (.agg #[.int .i64 (Fx.cut (Fx.add x p)), .int .i64 (Fx.cut (Fx.add y q)), .int .i64 a, .int .i64 b]) ∧ Below w.heap.size w w' := by
  go_enter Try.func10, Try.ntmps10
  go_wp2_with (first | (go_at_call 9; (with_reducible refine (of_any _ _ _).mono ?_); rintro e w' ⟨rfl, rfl⟩) | (go_at_call 13; (with_reducible refine (padd_any _ _ _ _ _).mono ?_); rintro e w' ⟨rfl, rfl⟩))
  refine Drawn.wp_region_tail 9 1 (by first | assumption | exact Below.refl _ _) (by kernel_rfl) (by kernel_rfl) rfl (by kernel_rfl) (by kernel_rfl) ?_
  (repeat (first | (refine Drawn.seq_skip (by rfl) ?_; (try simp only [Act.put, List.setIfInBounds_toArray, List.set_cons_zero, List.set_cons_succ])) | (refine Drawn.seq_call (o := ⟨_, .call ⟨.value _, _, _⟩, _, _, _, _⟩) (by rfl) (by intro w2 hS; go_simp; first | done | with_reducible rfl | exact ⟨rfl, rfl⟩) (by intro w2 hS; first | ((with_reducible refine (x_any _ _ _).mono ?_); rintro e w' ⟨rfl, rfl⟩; exact ⟨rfl, hS⟩) | ((with_reducible refine (y_any _ _ _).mono ?_); rintro e w' ⟨rfl, rfl⟩; exact ⟨rfl, hS⟩)) ?_; (try simp only [Act.put, List.setIfInBounds_toArray, List.set_cons_zero, List.set_cons_succ])) | (refine Drawn.seq_value (by rfl) (by intro w2 hS; obtain ⟨hc, hf⟩ := bcell hS; go_simp; first | done | with_reducible rfl | exact ⟨rfl, rfl⟩) ?_; (try simp only [Act.put, List.setIfInBounds_toArray, List.set_cons_zero, List.set_cons_succ]))))
  refine Drawn.seq_tail ?_; intro w2 hS; obtain ⟨hc, hf⟩ := bcell hS; refine Drawn.text_cons (by rfl) ?_; intro K hK; go_simp; refine hK _ _ (Drawn.text_nil ?_); clear hK K
  go_wp2
  refine bodyPost_ret (by simp [results, Try.results10, go_sem, *]; first | done | exact ⟨rfl, rfl⟩ | rfl) rfl ⟨ret_rect rfl rfl rfl rfl, ?_⟩
  (repeat (first | exact Below.refl _ _ | assumption | refine Below.drew ?_ | refine Below.drewN ?_ _ | refine Below.alloc' ?_ _ | refine Below.setCell ?_ (by first | (simp; done) | (simp; omega)) _ | refine Below.after2 ?_ (Nat.le_refl _) (by assumption)))

end Go.Proofs.Ytfmbmgkckdlhfaa.Fix
