/- The contracts of the calls of the layer anchor: Sight, Keep, of the program and of the document; with letters. -/
import Derived.Test.YtnoofdojbgkmkaaAnRow
namespace Go.Proofs.Ytnoofdojbgkmkaa.Fix
open Go.ChangeShapes Go.WideShapes Go.ChangeAt Go.RowKit
set_option linter.unusedVariables false

theorem meetL {a b c d x y : Int} (w : World) (hx : Fx.meetLo a b c d = x) (hy : Fx.meetHi a b c d = y) : Calls Try.prog 20 #[.agg #[.int .i64 a, .int .i64 b], .agg #[.int .i64 c, .int .i64 d]] w fun e w' => e = .returned (.agg #[.int .i64 x, .int .i64 y]) ∧ Below w.heap.size w w' := by
  subst hx; subst hy; exact meet_any a b c d w

theorem rmeetL {a b c d x y : Int} (w : World) (hx : Fx.meetLo a b c d = x) (hy : Fx.meetHi a b c d = y) : Calls Try.prog 23 #[.agg #[.int .i64 a, .int .i64 b], .agg #[.int .i64 c, .int .i64 d]] w fun e w' => e = .returned (.agg #[.int .i64 x, .int .i64 y]) ∧ Below w.heap.size w w' := by
  subst hx; subst hy; exact rmeet_any a b c d w

theorem inL {a b c d : Int} {v : Bool} (w : World) (hv : Fx.inn a b c d = v) : Calls Try.prog 21 #[.agg #[.int .i64 a, .int .i64 b], .agg #[.int .i64 c, .int .i64 d]] w fun e w' => e = .returned (.bool v) ∧ Below w.heap.size w w' := by
  subst hv; exact in_any a b c d w

theorem rinL {a b c d : Int} {v : Bool} (w : World) (hv : Fx.inn a b c d = v) : Calls Try.prog 24 #[.agg #[.int .i64 a, .int .i64 b], .agg #[.int .i64 c, .int .i64 d]] w fun e w' => e = .returned (.bool v) ∧ Below w.heap.size w w' := by
  subst hv; exact rin_any a b c d w

theorem remptyL {a b : Int} {v : Bool} (w : World) (hv : decide (b ≤ a) = v) : Calls Try.prog 22 #[.agg #[.int .i64 a, .int .i64 b]] w fun e w' => e = .returned (.bool v) ∧ Below w.heap.size w w' := by
  subst hv; exact rempty_any a b w

theorem meet_no {a b c d : Int} (h : Fx.mn b d ≤ Fx.mx a c) : Fx.meetLo a b c d = 0 ∧ Fx.meetHi a b c d = 0 := by unfold Fx.meetLo Fx.meetHi; rw [if_pos h, if_pos h]; exact ⟨rfl, rfl⟩
theorem meet_yes {a b c d : Int} (h : ¬ Fx.mn b d ≤ Fx.mx a c) : Fx.meetLo a b c d = Fx.mx a c ∧ Fx.meetHi a b c d = Fx.mn b d := by unfold Fx.meetLo Fx.meetHi; rw [if_neg h, if_neg h]; exact ⟨rfl, rfl⟩
theorem inn_of {a b c d : Int} (h : ¬ Fx.mn b d ≤ Fx.mx a c) : Fx.inn a b c d = Fx.ends a b c d := by
  have : ¬ b ≤ a := by unfold Fx.mn Fx.mx at h; (repeat' split at h) <;> omega
  unfold Fx.inn; simp [this]

/-- The three cases of Sight. -/
theorem sight_cases {a b c d r : Int} (h : An.sight a b c d = r) : (r = 0 ∧ Fx.meetLo a b c d = 0 ∧ Fx.meetHi a b c d = 0) ∨ ((∃ x y : Int, Fx.meetLo a b c d = x ∧ Fx.meetHi a b c d = y ∧ x < y) ∧ ∃ v : Bool, Fx.inn a b c d = v ∧ ((v = true ∧ r = 2) ∨ (v = false ∧ r = 1))) := by
  by_cases g : Fx.mn b d ≤ Fx.mx a c
  · rw [An.sight_zero g] at h
    exact .inl ⟨h.symm, meet_no g⟩
  · refine .inr ⟨⟨_, _, (meet_yes g).1, (meet_yes g).2, by omega⟩, _, rfl, ?_⟩
    rw [inn_of g]
    cases e : Fx.ends a b c d
    · rw [An.sight_one g e] at h; exact .inr ⟨rfl, h.symm⟩
    · rw [An.sight_two g e] at h; exact .inl ⟨rfl, h.symm⟩

theorem eql_empty {x y : Int} (h : x < y) (w : World) : (binOp .eql 24 (.agg #[.int .i64 x, .int .i64 y]) (.agg #[.int .i64 0, .int .i64 0])).run Try.prog w = .ok (.bool false) w := by
  rw [run_eql_span]
  have : (decide (x = 0) && decide (y = 0)) = false := by
    by_cases e : x = 0
    · simp; omega
    · simp [e]
  rw [this]

theorem ansight_any {a b c d r : Int} (w : World) (hr : An.sight a b c d = r) : Calls Try.prog 13 #[.agg #[.int .i64 a, .int .i64 b], .agg #[.int .i64 c, .int .i64 d]] w fun e w' => e = .returned (.int .i64 r) ∧ Below w.heap.size w w' := by
  rcases sight_cases hr with ⟨rfl, hx, hy⟩ | ⟨⟨x, y, hx, hy, hlt⟩, v, hv, h⟩
  · have q := run_eql_span
    have HX := Lib.hid hx
    have HY := Lib.hid hy
    clear hx hy hr
    go_enter Try.func13, Try.ntmps13
    go_wp2_with (go_at_call 20; with_reducible refine (meetL (x := 0) (y := 0) _ HX.out HY.out).mono ?_; rintro e w2 ⟨rfl, hb⟩)
    go_ret
    refine ⟨rfl, ?_⟩
    (repeat (first | exact Below.refl _ _ | assumption | refine Below.drew ?_ | refine Below.drewN ?_ _ | refine Below.alloc' ?_ _ | refine Below.setCell ?_ (by first | (simp; done) | (simp; omega)) _ | refine Below.after2 ?_ (Nat.le_refl _) (by assumption)))
  · have HX := Lib.hid hx
    have HY := Lib.hid hy
    have HV := Lib.hid hv
    have q := fun w => eql_empty hlt w
    clear hx hy hv hr
    rcases h with ⟨rfl, rfl⟩ | ⟨rfl, rfl⟩
    all_goals
      go_enter Try.func13, Try.ntmps13
      go_upto_region 1 with (fail)
      (generalize hW : World.alloc (World.alloc w _) _ = W0; have A0 : At W0 (w.heap.size) (.cells #[.int .i64 a, .int .i64 b] 24) := (by ((rw [← hW]) <;> exact At.alloc (At.new' _ (by first | done | rfl | simp)) _)); have A1 : At W0 (w.heap.size + 1) (.cells #[.int .i64 c, .int .i64 d] 24) := (by ((rw [← hW]) <;> exact At.new' _ (by first | done | rfl | simp))); have hB : Below w.heap.size w W0 := (by ((rw [← hW]) <;> exact Below.alloc' (Below.alloc' (Below.refl _ _) _) _)); clear hW; obtain ⟨l0, c0_0, c0_1⟩ := At.two A0; obtain ⟨l1, c1_0, c1_1⟩ := At.two A1)
      go_wp2_with (first
        | (go_at_call 20; with_reducible refine (meetL _ HX.out HY.out).mono ?_; rintro e w' ⟨rfl, hb⟩; (clear l0 c0_0 c0_1 l1 c1_0 c1_1); (replace hB := Below.after2 (by first | exact hB | exact Below.alloc' hB _ | exact Below.alloc' (Below.alloc' hB _) _) (Nat.le_refl _) hb); replace A0 := At.keep (by first | exact A0 | exact At.alloc A0 _ | exact At.alloc (At.alloc A0 _) _) hb; replace A1 := At.keep (by first | exact A1 | exact At.alloc A1 _ | exact At.alloc (At.alloc A1 _) _) hb; clear hb; obtain ⟨l0, c0_0, c0_1⟩ := At.two A0; obtain ⟨l1, c1_0, c1_1⟩ := At.two A1)
        | (go_at_call 21; with_reducible refine (inL _ HV.out).mono ?_; rintro e w' ⟨rfl, hb⟩; (clear l0 c0_0 c0_1 l1 c1_0 c1_1); (replace hB := Below.after2 (by first | exact hB | exact Below.alloc' hB _ | exact Below.alloc' (Below.alloc' hB _) _) (Nat.le_refl _) hb); replace A0 := At.keep (by first | exact A0 | exact At.alloc A0 _ | exact At.alloc (At.alloc A0 _) _) hb; replace A1 := At.keep (by first | exact A1 | exact At.alloc A1 _ | exact At.alloc (At.alloc A1 _) _) hb; clear hb; obtain ⟨l0, c0_0, c0_1⟩ := At.two A0; obtain ⟨l1, c1_0, c1_1⟩ := At.two A1))
      go_ret
      exact ⟨rfl, hB⟩

theorem ransight_any {a b c d r : Int} (w : World) (hr : An.sight a b c d = r) : Calls Try.prog 14 #[.agg #[.int .i64 a, .int .i64 b], .agg #[.int .i64 c, .int .i64 d]] w fun e w' => e = .returned (.int .i64 r) ∧ Below w.heap.size w w' := by
  rcases sight_cases hr with ⟨rfl, hx, hy⟩ | ⟨⟨x, y, hx, hy, hlt⟩, v, hv, h⟩
  · have HX := Lib.hid hx
    have HY := Lib.hid hy
    clear hx hy hr
    go_enter Try.func14, Try.ntmps14
    go_wp2_with (first
      | (go_at_call 23; with_reducible refine (rmeetL (x := 0) (y := 0) _ HX.out HY.out).mono ?_; rintro e w2 ⟨rfl, hb⟩)
      | (go_at_call 22; with_reducible refine (remptyL (v := true) _ (by decide)).mono ?_; rintro e w3 ⟨rfl, hb3⟩))
    go_ret
    refine ⟨rfl, ?_⟩
    (repeat (first | exact Below.refl _ _ | assumption | refine Below.drew ?_ | refine Below.drewN ?_ _ | refine Below.alloc' ?_ _ | refine Below.setCell ?_ (by first | (simp; done) | (simp; omega)) _ | refine Below.after2 ?_ (Nat.le_refl _) (by assumption)))
  · have HX := Lib.hid hx
    have HY := Lib.hid hy
    have HV := Lib.hid hv
    have HZ := Lib.hid (show decide (y ≤ x) = false from decide_eq_false (by omega))
    clear hx hy hv hr
    rcases h with ⟨rfl, rfl⟩ | ⟨rfl, rfl⟩
    all_goals
      go_enter Try.func14, Try.ntmps14
      go_upto_region 1 with (fail)
      (generalize hW : World.alloc (World.alloc w _) _ = W0; have A0 : At W0 (w.heap.size) (.cells #[.int .i64 a, .int .i64 b] 24) := (by ((rw [← hW]) <;> exact At.alloc (At.new' _ (by first | done | rfl | simp)) _)); have A1 : At W0 (w.heap.size + 1) (.cells #[.int .i64 c, .int .i64 d] 24) := (by ((rw [← hW]) <;> exact At.new' _ (by first | done | rfl | simp))); have hB : Below w.heap.size w W0 := (by ((rw [← hW]) <;> exact Below.alloc' (Below.alloc' (Below.refl _ _) _) _)); clear hW; obtain ⟨l0, c0_0, c0_1⟩ := At.two A0; obtain ⟨l1, c1_0, c1_1⟩ := At.two A1)
      go_wp2_with (first
        | (go_at_call 23; with_reducible refine (rmeetL _ HX.out HY.out).mono ?_; rintro e w' ⟨rfl, hb⟩; (clear l0 c0_0 c0_1 l1 c1_0 c1_1); (replace hB := Below.after2 (by first | exact hB | exact Below.alloc' hB _ | exact Below.alloc' (Below.alloc' hB _) _) (Nat.le_refl _) hb); replace A0 := At.keep (by first | exact A0 | exact At.alloc A0 _ | exact At.alloc (At.alloc A0 _) _) hb; replace A1 := At.keep (by first | exact A1 | exact At.alloc A1 _ | exact At.alloc (At.alloc A1 _) _) hb; clear hb; obtain ⟨l0, c0_0, c0_1⟩ := At.two A0; obtain ⟨l1, c1_0, c1_1⟩ := At.two A1)
        | (go_at_call 22; with_reducible refine (remptyL _ HZ.out).mono ?_; rintro e w' ⟨rfl, hb⟩; (clear l0 c0_0 c0_1 l1 c1_0 c1_1); (replace hB := Below.after2 (by first | exact hB | exact Below.alloc' hB _ | exact Below.alloc' (Below.alloc' hB _) _) (Nat.le_refl _) hb); replace A0 := At.keep (by first | exact A0 | exact At.alloc A0 _ | exact At.alloc (At.alloc A0 _) _) hb; replace A1 := At.keep (by first | exact A1 | exact At.alloc A1 _ | exact At.alloc (At.alloc A1 _) _) hb; clear hb; obtain ⟨l0, c0_0, c0_1⟩ := At.two A0; obtain ⟨l1, c1_0, c1_1⟩ := At.two A1)
        | (go_at_call 24; with_reducible refine (rinL _ HV.out).mono ?_; rintro e w' ⟨rfl, hb⟩; (clear l0 c0_0 c0_1 l1 c1_0 c1_1); (replace hB := Below.after2 (by first | exact hB | exact Below.alloc' hB _ | exact Below.alloc' (Below.alloc' hB _) _) (Nat.le_refl _) hb); replace A0 := At.keep (by first | exact A0 | exact At.alloc A0 _ | exact At.alloc (At.alloc A0 _) _) hb; replace A1 := At.keep (by first | exact A1 | exact At.alloc A1 _ | exact At.alloc (At.alloc A1 _) _) hb; clear hb; obtain ⟨l0, c0_0, c0_1⟩ := At.two A0; obtain ⟨l1, c1_0, c1_1⟩ := At.two A1))
      go_ret
      exact ⟨rfl, hB⟩

theorem sightof_any {a b c d r u : Int} {s : Bool} (w : World) (hr : (s = true ∧ r = 0) ∨ (s = false ∧ An.sight a b c d = r)) : Calls Try.prog 25 #[.agg #[.int .i64 u, .int .i64 a, .int .i64 b, .bool s], .agg #[.int .i64 c, .int .i64 d]] w fun e w' => e = .returned (.int .i64 r) ∧ Below w.heap.size w w' := by
  rcases hr with ⟨rfl, rfl⟩ | ⟨rfl, hr⟩
  · go_enter Try.func25, Try.ntmps25
    go_wp2
    go_ret
    refine ⟨rfl, ?_⟩
    (repeat (first | exact Below.refl _ _ | assumption | refine Below.drew ?_ | refine Below.drewN ?_ _ | refine Below.alloc' ?_ _ | refine Below.setCell ?_ (by first | (simp; done) | (simp; omega)) _ | refine Below.after2 ?_ (Nat.le_refl _) (by assumption)))
  · have HR := Lib.hid hr
    clear hr
    go_enter Try.func25, Try.ntmps25
    go_wp2_with (go_at_call 13; with_reducible refine (ansight_any _ HR.out).mono ?_; rintro e w2 ⟨rfl, hb⟩)
    go_ret
    refine ⟨rfl, ?_⟩
    (repeat (first | exact Below.refl _ _ | assumption | refine Below.drew ?_ | refine Below.drewN ?_ _ | refine Below.alloc' ?_ _ | refine Below.setCell ?_ (by first | (simp; done) | (simp; omega)) _ | refine Below.after2 ?_ (Nat.le_refl _) (by assumption)))

theorem ankeep_any {o was now m r : Int} (w : World) (hr : An.keep o was now m = r) : Calls Try.prog 17 #[.int .i64 o, .int .i64 was, .int .i64 now, .int .i64 m] w fun e w' => e = .returned (.int .i64 r) ∧ Below w.heap.size w w' := by
  subst hr
  by_cases h : o = 0
  · subst h
    go_enter Try.func17, Try.ntmps17
    go_wp2
    go_ret
    exact ⟨ret_int (by unfold An.keep; simp), Below.refl _ _⟩
  · go_enter Try.func17, Try.ntmps17
    go_wp2_with (first | (go_at_call 29; (with_reducible refine (sub_any _ _ _).mono ?_); rintro e w' ⟨rfl, rfl⟩) | (go_at_call 28; (with_reducible refine (add_any _ _ _).mono ?_); rintro e w' ⟨rfl, rfl⟩) | (go_at_call 27; (with_reducible refine (clamp_any _ _ _ _).mono ?_); rintro e w' ⟨rfl, rfl⟩))
    go_ret
    exact ⟨ret_int (by unfold An.keep; rw [if_neg h]), Below.refl _ _⟩

theorem rankeep_any {o was now m r : Int} (w : World) (hr : An.keep o was now m = r) : Calls Try.prog 18 #[.int .i64 o, .int .i64 was, .int .i64 now, .int .i64 m] w fun e w' => e = .returned (.int .i64 r) ∧ Below w.heap.size w w' := by
  rw [← An.keep_eq] at hr
  subst hr
  by_cases h : o = 0
  · subst h
    go_enter Try.func18, Try.ntmps18
    go_wp2
    go_ret
    exact ⟨ret_int (by unfold An.rkeep; simp), Below.refl _ _⟩
  · go_enter Try.func18, Try.ntmps18
    go_wp2_with (first | (go_at_call 32; (with_reducible refine (rsub_any _ _ _).mono ?_); rintro e w' ⟨rfl, rfl⟩) | (go_at_call 31; (with_reducible refine (radd_any _ _ _).mono ?_); rintro e w' ⟨rfl, rfl⟩) | (go_at_call 30; (with_reducible refine (rclamp_any _ _ _ _).mono ?_); rintro e w' ⟨rfl, rfl⟩))
    go_ret
    exact ⟨ret_int (by unfold An.rkeep; rw [if_neg h]), Below.refl _ _⟩

end Go.Proofs.Ytnoofdojbgkmkaa.Fix
