/- The contracts of the calls of the layer length (and of the document's own answers for it): for all integers each call returns what the plain function of XLenMath says, and leaves all that was there as it was. -/
import Derived.Test.YthpocilmnohahaaFix
import Derived.Test.YthpocilmnohahaaLenMath
import Derived.Test.YthpocilmnohahaaMem
import Derived.Test.YthpocilmnohahaaDrawn
import Derived.Deep.QuietTactic
import Derived.Deep.Cut
import Derived.BigQuiet
import Derived.WalkMore
namespace Go.Proofs.Ythpocilmnohahaa.Fix
open Go.ChangeShapes Go.WideShapes Go.ChangeAt Go.RowKit
set_option linter.unusedVariables false


theorem fixed_any (k n base : Int) (w : World) : Calls Try.prog 13 #[.agg #[.int .i64 k, .int .i64 n], .int .i64 base] w fun e w' => e = .returned (.bool (Fx.fixd k base)) ∧ Below w.heap.size w w' := by
  go_enter Try.func13, Try.ntmps13
  go_wp2
  all_goals go_ret
  all_goals
    refine ⟨ret_bool (by unfold Fx.fixd; simp [*]), ?_⟩
    (repeat (first | exact Below.refl _ _ | assumption | refine Below.drew ?_ | refine Below.drewN ?_ _ | refine Below.alloc' ?_ _ | refine Below.setCell ?_ (by first | (simp; done) | (simp; omega)) _ | refine Below.after2 ?_ (Nat.le_refl _) (by assumption)))

theorem rfixed_any (k n base : Int) (w : World) : Calls Try.prog 14 #[.agg #[.int .i64 k, .int .i64 n], .int .i64 base] w fun e w' => e = .returned (.bool (Fx.fixd k base)) ∧ Below w.heap.size w w' := by
  go_enter Try.func14, Try.ntmps14
  go_wp2
  all_goals go_ret
  all_goals
    refine ⟨ret_bool (by unfold Fx.fixd; simp [*]), ?_⟩
    (repeat (first | exact Below.refl _ _ | assumption | refine Below.drew ?_ | refine Below.drewN ?_ _ | refine Below.alloc' ?_ _ | refine Below.setCell ?_ (by first | (simp; done) | (simp; omega)) _ | refine Below.after2 ?_ (Nat.le_refl _) (by assumption)))

theorem len_any (k n base none : Int) (w : World) : Calls Try.prog 11 #[.agg #[.int .i64 k, .int .i64 n], .int .i64 base, .int .i64 none] w fun e w' => e = .returned (.int .i64 (Fx.len k n base none)) ∧ Below w.heap.size w w' := by
  cases hF : Fx.fixd k base with
  | false =>
    have Hr := Lib.hid (Fx.len_not (n := n) (none := none) hF)
    go_enter Try.func11, Try.ntmps11
    go_wp2_with (first | (go_at_call 21; (with_reducible refine (cut_any _ _).mono ?_); rintro e w' ⟨rfl, rfl⟩) | (go_at_call 13; (with_reducible refine (fixed_any _ _ _ _).mono ?_); rintro e w' ⟨rfl, hb⟩; (try replace hb := Below.after (by assumption) hb); obtain ⟨hc, hf⟩ := bcell hb; have hz := hb.size; (try simp at hz)))
    all_goals go_ret
    all_goals
      refine ⟨ret_int Hr.out.symm, ?_⟩
      (repeat (first | exact Below.refl _ _ | assumption | refine Below.drew ?_ | refine Below.drewN ?_ _ | refine Below.alloc' ?_ _ | refine Below.setCell ?_ (by first | (simp; done) | (simp; omega)) _ | refine Below.after2 ?_ (Nat.le_refl _) (by assumption)))
  | true =>
    have h := Fx.fixd_iff.1 hF
    by_cases h1 : k = 1
    · clear h
      subst h1
      have Hr := Lib.hid (Fx.len_px (k := 1) (n := n) (base := base) (none := none) rfl)
      go_enter Try.func11, Try.ntmps11
      go_wp2_with (first | (go_at_call 21; (with_reducible refine (cut_any _ _).mono ?_); rintro e w' ⟨rfl, rfl⟩) | (go_at_call 13; (with_reducible refine (fixed_any _ _ _ _).mono ?_); rintro e w' ⟨rfl, hb⟩; (try replace hb := Below.after (by assumption) hb); obtain ⟨hc, hf⟩ := bcell hb; have hz := hb.size; (try simp at hz)) | (go_at_call 22; (with_reducible refine (part_any _ _ _).mono ?_); rintro e w' ⟨rfl, rfl⟩))
      all_goals go_ret
      all_goals
        refine ⟨ret_int Hr.out.symm, ?_⟩
        (repeat (first | exact Below.refl _ _ | assumption | refine Below.drew ?_ | refine Below.drewN ?_ _ | refine Below.alloc' ?_ _ | refine Below.setCell ?_ (by first | (simp; done) | (simp; omega)) _ | refine Below.after2 ?_ (Nat.le_refl _) (by assumption)))
    · obtain ⟨h2, h3⟩ : k = 2 ∧ 0 ≤ base := by omega
      clear h
      subst h2
      have Hr := Lib.hid (Fx.len_per (k := 2) (n := n) (none := none) rfl h3)
      go_enter Try.func11, Try.ntmps11
      go_wp2_with (first | (go_at_call 21; (with_reducible refine (cut_any _ _).mono ?_); rintro e w' ⟨rfl, rfl⟩) | (go_at_call 13; (with_reducible refine (fixed_any _ _ _ _).mono ?_); rintro e w' ⟨rfl, hb⟩; (try replace hb := Below.after (by assumption) hb); obtain ⟨hc, hf⟩ := bcell hb; have hz := hb.size; (try simp at hz)) | (go_at_call 22; (with_reducible refine (part_any _ _ _).mono ?_); rintro e w' ⟨rfl, rfl⟩))
      all_goals go_ret
      all_goals
        refine ⟨ret_int Hr.out.symm, ?_⟩
        (repeat (first | exact Below.refl _ _ | assumption | refine Below.drew ?_ | refine Below.drewN ?_ _ | refine Below.alloc' ?_ _ | refine Below.setCell ?_ (by first | (simp; done) | (simp; omega)) _ | refine Below.after2 ?_ (Nat.le_refl _) (by assumption)))

theorem rlen_any (k n base none : Int) (w : World) : Calls Try.prog 12 #[.agg #[.int .i64 k, .int .i64 n], .int .i64 base, .int .i64 none] w fun e w' => e = .returned (.int .i64 (Fx.len k n base none)) ∧ Below w.heap.size w w' := by
  go_enter Try.func12, Try.ntmps12
  go_wp2_with (first | (go_at_call 23; (with_reducible refine (rcut_any _ _).mono ?_); rintro e w' ⟨rfl, rfl⟩) | (go_at_call 24; (with_reducible refine (rpart_any _ _ _).mono ?_); rintro e w' ⟨rfl, rfl⟩))
  all_goals go_ret
  all_goals
    refine ⟨ret_int (by unfold Fx.len; (repeat' split) <;> first | rfl | omega | (exfalso; simp_all; done) | (exfalso; simp_all; omega)), ?_⟩
    (repeat (first | exact Below.refl _ _ | assumption | refine Below.drew ?_ | refine Below.drewN ?_ _ | refine Below.alloc' ?_ _ | refine Below.setCell ?_ (by first | (simp; done) | (simp; omega)) _ | refine Below.after2 ?_ (Nat.le_refl _) (by assumption)))

theorem valid_any (k n : Int) (w : World) : Calls Try.prog 15 #[.agg #[.int .i64 k, .int .i64 n]] w fun e w' => e = .returned (.bool (Fx.valid k n)) ∧ Below w.heap.size w w' := by
  by_cases h0 : k = 0
  · subst h0
    go_enter Try.func15, Try.ntmps15
    go_wp2
    go_ret
    refine ⟨ret_bool (by unfold Fx.valid; rw [if_pos rfl]; rfl), ?_⟩
    (repeat (first | exact Below.refl _ _ | assumption | refine Below.drew ?_ | refine Below.drewN ?_ _ | refine Below.alloc' ?_ _ | refine Below.setCell ?_ (by first | (simp; done) | (simp; omega)) _ | refine Below.after2 ?_ (Nat.le_refl _) (by assumption)))
  · by_cases h1 : k = 1
    · subst h1
      go_enter Try.func15, Try.ntmps15
      go_wp2
      refine Drawn.wp_region_from (by first | assumption | exact Below.refl _ _) (by kernel_rfl) (by kernel_rfl) (by kernel_rfl) ?_
      (repeat (first | (refine Drawn.seq_skip (by rfl) ?_; (try simp only [Act.put, List.setIfInBounds_toArray, List.set_cons_zero, List.set_cons_succ])) | (refine Drawn.seq_call (o := ⟨_, .call ⟨.value _, _, _⟩, _, _, _, _⟩) (by rfl) (by intro w2 hS; go_simp; first | done | with_reducible rfl | exact ⟨rfl, rfl⟩) (by intro w2 hS; first | ((with_reducible refine (cut_any _ _).mono ?_); rintro e w' ⟨rfl, rfl⟩; exact ⟨rfl, hS⟩)) ?_; (try simp only [Act.put, List.setIfInBounds_toArray, List.set_cons_zero, List.set_cons_succ])) | (refine Drawn.seq_value (by rfl) (by intro w2 hS; obtain ⟨hc, hf⟩ := bcell hS; go_simp; first | done | with_reducible rfl | exact ⟨rfl, rfl⟩) ?_; (try simp only [Act.put, List.setIfInBounds_toArray, List.set_cons_zero, List.set_cons_succ]))))
      refine Drawn.seq_end ?_; intro w2 hS
      go_wp2
      go_ret
      refine ⟨ret_bool (by unfold Fx.valid; rw [if_neg (by omega), if_pos rfl]; rfl), ?_⟩
      (repeat (first | exact Below.refl _ _ | assumption | refine Below.drew ?_ | refine Below.drewN ?_ _ | refine Below.alloc' ?_ _ | refine Below.setCell ?_ (by first | (simp; done) | (simp; omega)) _ | refine Below.after2 ?_ (Nat.le_refl _) (by assumption)))
    · by_cases h2 : k = 2
      · subst h2
        go_enter Try.func15, Try.ntmps15
        go_wp2
        all_goals
          go_ret
          refine ⟨ret_bool (by unfold Fx.valid; rw [if_neg (by omega), if_neg (by omega), if_pos rfl]; simp [*] <;> omega), ?_⟩
          (repeat (first | exact Below.refl _ _ | assumption | refine Below.drew ?_ | refine Below.drewN ?_ _ | refine Below.alloc' ?_ _ | refine Below.setCell ?_ (by first | (simp; done) | (simp; omega)) _ | refine Below.after2 ?_ (Nat.le_refl _) (by assumption)))
      · have g0 : (k == 0) = false := by simp [h0]
        have g1 : (k == 1) = false := by simp [h1]
        have g2 : (k == 2) = false := by simp [h2]
        go_enter Try.func15, Try.ntmps15
        go_wp2
        go_ret
        refine ⟨ret_bool (by unfold Fx.valid; rw [if_neg h0, if_neg h1, if_neg h2]), ?_⟩
        (repeat (first | exact Below.refl _ _ | assumption | refine Below.drew ?_ | refine Below.drewN ?_ _ | refine Below.alloc' ?_ _ | refine Below.setCell ?_ (by first | (simp; done) | (simp; omega)) _ | refine Below.after2 ?_ (Nat.le_refl _) (by assumption)))

theorem rvalid_any (k n : Int) (w : World) : Calls Try.prog 16 #[.agg #[.int .i64 k, .int .i64 n]] w fun e w' => e = .returned (.bool (Fx.valid k n)) ∧ Below w.heap.size w w' := by
  by_cases h0 : k = 0
  · subst h0
    go_enter Try.func16, Try.ntmps16
    go_wp2
    go_ret
    refine ⟨ret_bool (by unfold Fx.valid; rw [if_pos rfl]; rfl), ?_⟩
    (repeat (first | exact Below.refl _ _ | assumption | refine Below.drew ?_ | refine Below.drewN ?_ _ | refine Below.alloc' ?_ _ | refine Below.setCell ?_ (by first | (simp; done) | (simp; omega)) _ | refine Below.after2 ?_ (Nat.le_refl _) (by assumption)))
  · by_cases h1 : k = 1
    · subst h1
      go_enter Try.func16, Try.ntmps16
      go_wp2
      all_goals
        go_ret
        refine ⟨ret_bool (by unfold Fx.valid Fx.cut; rw [if_neg (by omega), if_pos rfl]; (repeat' split) <;> rw [Bool.eq_iff_iff] <;> simp <;> omega), ?_⟩
        (repeat (first | exact Below.refl _ _ | assumption | refine Below.drew ?_ | refine Below.drewN ?_ _ | refine Below.alloc' ?_ _ | refine Below.setCell ?_ (by first | (simp; done) | (simp; omega)) _ | refine Below.after2 ?_ (Nat.le_refl _) (by assumption)))
    · by_cases h2 : k = 2
      · subst h2
        go_enter Try.func16, Try.ntmps16
        go_wp2
        all_goals
          go_ret
          refine ⟨ret_bool (by unfold Fx.valid; rw [if_neg (by omega), if_neg (by omega), if_pos rfl]; simp [*] <;> omega), ?_⟩
          (repeat (first | exact Below.refl _ _ | assumption | refine Below.drew ?_ | refine Below.drewN ?_ _ | refine Below.alloc' ?_ _ | refine Below.setCell ?_ (by first | (simp; done) | (simp; omega)) _ | refine Below.after2 ?_ (Nat.le_refl _) (by assumption)))
      · have g0 : (k == 0) = false := by simp [h0]
        have g1 : (k == 1) = false := by simp [h1]
        have g2 : (k == 2) = false := by simp [h2]
        go_enter Try.func16, Try.ntmps16
        go_wp2
        go_ret
        refine ⟨ret_bool (by unfold Fx.valid; rw [if_neg h0, if_neg h1, if_neg h2]), ?_⟩
        (repeat (first | exact Below.refl _ _ | assumption | refine Below.drew ?_ | refine Below.drewN ?_ _ | refine Below.alloc' ?_ _ | refine Below.setCell ?_ (by first | (simp; done) | (simp; omega)) _ | refine Below.after2 ?_ (Nat.le_refl _) (by assumption)))

theorem end_any (k n far base : Int) (B : Nat) (w : World) (hcell : w.cell? ⟨B, 0, none⟩ = some (.int .i64 base)) : Calls Try.prog 25 #[.agg #[.int .i64 k, .int .i64 n], .int .i64 far, .pointer (some ⟨B, 0, none⟩)] w fun e w' => e = .returned (.int .i64 (Fx.len k n base far)) ∧ Below w.heap.size w w' := by
  have hlt : B < w.heap.size := World.block_lt_of_cell? _ _ hcell
  go_enter Try.func25, Try.ntmps25
  go_wp2_with (first | (go_at_call 11; (with_reducible refine (len_any _ _ _ _ _).mono ?_); rintro e w' ⟨rfl, hb⟩; (try replace hb := Below.after (by assumption) hb); obtain ⟨hc, hf⟩ := bcell hb; have hz := hb.size; (try simp at hz)))
  go_ret
  refine ⟨rfl, ?_⟩
  (repeat (first | exact Below.refl _ _ | assumption | refine Below.drew ?_ | refine Below.drewN ?_ _ | refine Below.alloc' ?_ _ | refine Below.setCell ?_ (by first | (simp; done) | (simp; omega)) _ | refine Below.after2 ?_ (Nat.le_refl _) (by assumption)))

theorem limit_any (n lk ln hk hn base : Int) (w : World) : Calls Try.prog 19 #[.int .i64 n, .agg #[.int .i64 lk, .int .i64 ln], .agg #[.int .i64 hk, .int .i64 hn], .int .i64 base] w fun e w' => e = .returned (.int .i64 (Fx.limit n lk ln hk hn base)) ∧ Below w.heap.size w w' := by
  have hmf : ∀ (fn : Fn) (first cap : Array Value) (w : World), (Instr.makeFunc fn first cap).run Try.prog w = .ok (.func fn first cap) w := fun _ _ _ _ => rfl
  by_cases h : Fx.clamp n (Fx.len lk ln base (-1099511627776)) (Fx.len hk hn base 1099511627776) < 0
  all_goals
    (try replace h := Int.not_lt.1 h)
    go_enter Try.func19, Try.ntmps19
    go_upto_region 1 with (fail)
    (generalize hW : World.alloc (World.alloc (World.alloc w _) _) _ = W0; have A0 : At W0 (w.heap.size) (.cells #[.int .i64 lk, .int .i64 ln] 24) := (by ((rw [← hW]) <;> exact At.alloc (At.alloc (At.new' _ (by first | done | rfl | simp)) _) _)); have A1 : At W0 (w.heap.size + 1) (.cells #[.int .i64 hk, .int .i64 hn] 24) := (by ((rw [← hW]) <;> exact At.alloc (At.new' _ (by first | done | rfl | simp)) _)); have A2 : At W0 (w.heap.size + 1 + 1) (.cells #[.int .i64 base] 3) := (by ((rw [← hW]) <;> exact At.new' _ (by first | done | rfl | simp))); have hB : Below w.heap.size w W0 := (by ((rw [← hW]) <;> exact Below.alloc' (Below.alloc' (Below.alloc' (Below.refl _ _) _) _) _)); clear hW; obtain ⟨l0, c0_0, c0_1⟩ := At.two A0; obtain ⟨l1, c1_0, c1_1⟩ := At.two A1; obtain ⟨l2, c2_0⟩ := At.one A2)
    go_upto_region 2 with (fail)
    refine Drawn.wp_region_from (Below.refl _ _) (by kernel_rfl) (by kernel_rfl) (by kernel_rfl) ?_
    (repeat (first | (refine Drawn.seq_skip (by rfl) ?_; (try simp only [Act.put, List.setIfInBounds_toArray, List.set_cons_zero, List.set_cons_succ])) | (refine Drawn.seq_call (o := ⟨_, .call ⟨.value _, _, _⟩, _, _, _, _⟩) (by rfl) (by intro w2 hS; go_simp; first | done | with_reducible rfl | exact ⟨rfl, rfl⟩) (by intro w2 hS; first | ((with_reducible refine (end_any _ _ _ _ _ _ (((bcell hS).1 _ _ l2).trans c2_0)).mono ?_); rintro e w' ⟨rfl, hb⟩; exact ⟨rfl, Below.after hS hb⟩) | ((with_reducible refine (clamp_any _ _ _ _).mono ?_); rintro e w' ⟨rfl, rfl⟩; exact ⟨rfl, hS⟩)) ?_; (try simp only [Act.put, List.setIfInBounds_toArray, List.set_cons_zero, List.set_cons_succ])) | (refine Drawn.seq_value (by rfl) (by intro w2 hS; obtain ⟨hc, hf⟩ := bcell hS; go_simp; first | done | with_reducible rfl | exact ⟨rfl, rfl⟩) ?_; (try simp only [Act.put, List.setIfInBounds_toArray, List.set_cons_zero, List.set_cons_succ]))))
    refine Drawn.seq_end ?_; intro w2 hS
    go_wp2
    go_ret
    exact ⟨ret_int (by unfold Fx.limit Fx.mx; split <;> omega), Below.after2 hB (Nat.le_refl _) hS⟩

theorem rlimit_any (n lk ln hk hn base : Int) (w : World) : Calls Try.prog 20 #[.int .i64 n, .agg #[.int .i64 lk, .int .i64 ln], .agg #[.int .i64 hk, .int .i64 hn], .int .i64 base] w fun e w' => e = .returned (.int .i64 (Fx.limit n lk ln hk hn base)) ∧ Below w.heap.size w w' := by
  have Hr := Lib.hid (Fx.limit_eq n lk ln hk hn base)
  cases h1 : Fx.fixd lk base <;> cases h2 : Fx.fixd hk base
  all_goals
    go_enter Try.func20, Try.ntmps20
    go_wp2_with (first | (go_at_call 23; (with_reducible refine (rcut_any _ _).mono ?_); rintro e w' ⟨rfl, rfl⟩) | (go_at_call 14; (with_reducible refine (rfixed_any _ _ _ _).mono ?_); rintro e w' ⟨rfl, hb⟩; (try replace hb := Below.after (by assumption) hb); obtain ⟨hc, hf⟩ := bcell hb; have hz := hb.size; (try simp at hz)) | (go_at_call 12; (with_reducible refine (rlen_any _ _ _ _ _).mono ?_); rintro e w' ⟨rfl, hb⟩; (try replace hb := Below.after (by assumption) hb); obtain ⟨hc, hf⟩ := bcell hb; have hz := hb.size; (try simp at hz)))
  all_goals go_ret
  all_goals
    refine ⟨ret_int (by rw [Hr.out, h1, h2]; simp only [cond_true, cond_false]; (try unfold Fx.mx); (try unfold Fx.mn); (repeat' split) <;> omega), ?_⟩
    (repeat (first | exact Below.refl _ _ | assumption | refine Below.drew ?_ | refine Below.drewN ?_ _ | refine Below.alloc' ?_ _ | refine Below.setCell ?_ (by first | (simp; done) | (simp; omega)) _ | refine Below.after2 ?_ (Nat.le_refl _) (by assumption)))

end Go.Proofs.Ythpocilmnohahaa.Fix
