/- The contracts of Both of the layer stick (and of the document's own answer for it). -/
import Derived.Test.YtdgphjpjgldbaaaStick
import Derived.Deep.Cut
namespace Go.Proofs.Ytdgphjpjgldbaaa.Fix
open Go.ChangeShapes Go.WideShapes Go.ChangeAt Go.RowKit Fl
set_option linter.unusedVariables false
set_option linter.unusedSimpArgs false


theorem rofP_any (x y : Int) (w : World) :
    Calls Try.prog 34 #[.int .i64 x, .int .i64 y] w fun e w' => e = .returned (pt x y) ∧ w = w' := by
  go_enter Try.func34, Try.ntmps34
  go_wp2_with (first | (go_at_call 38; (with_reducible refine (rcut_any _ _).mono ?_); rintro e w' ⟨rfl, rfl⟩))
  go_ret
  exact ⟨rfl, rfl⟩

theorem racrossS_any (x y a b : Int) (w : World) : Calls Try.prog 32 #[.agg #[.int .i64 x, .int .i64 y, .int .i64 a, .int .i64 b]] w fun e w' => e = .returned (.agg #[.int .i64 (Fx.cut x), .int .i64 (Fx.hi x a)]) ∧ Below w.heap.size w w' := by
  go_enter Try.func32, Try.ntmps32
  go_wp2_with (first | (go_at_call 42; (with_reducible refine (rof_span _ _ _).mono ?_); rintro e w' ⟨rfl, hb⟩; (try replace hb := Below.after (by assumption) hb); obtain ⟨hc, hf⟩ := bcell hb; have hz := hb.size; (try simp at hz)))
  refine bodyPost_ret (by simp [results, Try.results32, go_sem, *]; first | done | exact ⟨rfl, rfl⟩ | rfl) rfl ⟨ret_span rfl rfl, ?_⟩
  (repeat (first | exact Below.refl _ _ | assumption | refine Below.drew ?_ | refine Below.drewN ?_ _ | refine Below.alloc' ?_ _ | refine Below.setCell ?_ (by first | (simp; done) | (simp; omega)) _ | refine Below.after2 ?_ (Nat.le_refl _) (by assumption)))

theorem rdownS_any (x y a b : Int) (w : World) : Calls Try.prog 33 #[.agg #[.int .i64 x, .int .i64 y, .int .i64 a, .int .i64 b]] w fun e w' => e = .returned (.agg #[.int .i64 (Fx.cut y), .int .i64 (Fx.hi y b)]) ∧ Below w.heap.size w w' := by
  go_enter Try.func33, Try.ntmps33
  go_wp2_with (first | (go_at_call 42; (with_reducible refine (rof_span _ _ _).mono ?_); rintro e w' ⟨rfl, hb⟩; (try replace hb := Below.after (by assumption) hb); obtain ⟨hc, hf⟩ := bcell hb; have hz := hb.size; (try simp at hz)))
  refine bodyPost_ret (by simp [results, Try.results33, go_sem, *]; first | done | exact ⟨rfl, rfl⟩ | rfl) rfl ⟨ret_span rfl rfl, ?_⟩
  (repeat (first | exact Below.refl _ _ | assumption | refine Below.drew ?_ | refine Below.drewN ?_ _ | refine Below.alloc' ?_ _ | refine Below.setCell ?_ (by first | (simp; done) | (simp; omega)) _ | refine Below.after2 ?_ (Nat.le_refl _) (by assumption)))

section
variable {bx by_ bw bh ix iy iw ih px py pw ph : Int} {o0 o1 o2 o3 : Bool} {y0 y1 y2 y3 : Int} {b0 b1 b2 b3 : Nat} {w : World}

theorem both1a_any (A0 : At w b0 (.cells #[.int .i64 bx, .int .i64 by_, .int .i64 bw, .int .i64 bh] 33)) (A1 : At w b1 (.cells #[.int .i64 ix, .int .i64 iy, .int .i64 iw, .int .i64 ih] 33)) (A2 : At w b2 (.cells #[.int .i64 px, .int .i64 py, .int .i64 pw, .int .i64 ph] 33)) (A3 : At w b3 (.cells #[.bool o0, .int .i64 y0, .bool o1, .int .i64 y1, .bool o2, .int .i64 y2, .bool o3, .int .i64 y3] 38)) :
    Calls Try.prog 29 #[.func (.func 30) #[] #[], .int .i64 3, .int .i64 1, .pointer (some ⟨b0, 0, none⟩), .pointer (some ⟨b1, 0, none⟩), .pointer (some ⟨b2, 0, none⟩), .pointer (some ⟨b3, 0, none⟩)] w fun e w' => e = .returned (.int .i64 (St.shift (Fx.cut bx) (Fx.hi bx bw) (Fx.cut ix) (Fx.hi ix iw) (Fx.cut px) (Fx.hi px pw) o3 y3 o1 y1)) ∧ Below w.heap.size w w' := by
  obtain ⟨l0, c0_0, c0_1, c0_2, c0_3⟩ := At.four A0
  obtain ⟨l1, c1_0, c1_1, c1_2, c1_3⟩ := At.four A1
  obtain ⟨l2, c2_0, c2_1, c2_2, c2_3⟩ := At.four A2
  obtain ⟨l3, c3_0, c3_1, c3_2, c3_3, c3_4, c3_5, c3_6, c3_7⟩ := At.eight A3
  clear A0 A1 A2 A3
  go_enter Try.func29, Try.ntmps29
  go_upto_region 1 with (fail)
  refine Drawn.wp_region_from (Below.refl _ _) (by kernel_rfl) (by kernel_rfl) (by kernel_rfl) ?_
  (repeat (first | (refine Drawn.seq_skip (by rfl) ?_; (try simp only [Act.put, List.setIfInBounds_toArray, List.set_cons_zero, List.set_cons_succ])) | (refine Drawn.seq_call (o := ⟨_, .call ⟨.value _, _, _⟩, _, _, _, _⟩) (by rfl) (by intro w2 hS; go_simp; first | done | with_reducible rfl | exact ⟨rfl, rfl⟩) (by intro w2 hS; first | ((with_reducible refine (across_any _ _ _ _ _).mono ?_); rintro e w' ⟨rfl, hb⟩; exact ⟨rfl, Below.after hS hb⟩) | ((with_reducible refine (shift_any _ _ _ _ _ _ _ _ _ _ _).mono ?_); rintro e w' ⟨rfl, hb⟩; exact ⟨rfl, Below.after hS hb⟩)) ?_; (try simp only [Act.put, List.setIfInBounds_toArray, List.set_cons_zero, List.set_cons_succ])) | (refine Drawn.seq_value (by rfl) (by intro w2 hS; obtain ⟨hc, hf⟩ := bcell hS; go_simp; first | done | with_reducible rfl | exact ⟨rfl, rfl⟩) ?_; (try simp only [Act.put, List.setIfInBounds_toArray, List.set_cons_zero, List.set_cons_succ]))))
  refine Drawn.seq_end ?_; intro w2 hS
  go_wp2
  go_ret
  exact ⟨rfl, hS⟩

theorem both1d_any (A0 : At w b0 (.cells #[.int .i64 bx, .int .i64 by_, .int .i64 bw, .int .i64 bh] 33)) (A1 : At w b1 (.cells #[.int .i64 ix, .int .i64 iy, .int .i64 iw, .int .i64 ih] 33)) (A2 : At w b2 (.cells #[.int .i64 px, .int .i64 py, .int .i64 pw, .int .i64 ph] 33)) (A3 : At w b3 (.cells #[.bool o0, .int .i64 y0, .bool o1, .int .i64 y1, .bool o2, .int .i64 y2, .bool o3, .int .i64 y3] 38)) :
    Calls Try.prog 29 #[.func (.func 31) #[] #[], .int .i64 0, .int .i64 2, .pointer (some ⟨b0, 0, none⟩), .pointer (some ⟨b1, 0, none⟩), .pointer (some ⟨b2, 0, none⟩), .pointer (some ⟨b3, 0, none⟩)] w fun e w' => e = .returned (.int .i64 (St.shift (Fx.cut by_) (Fx.hi by_ bh) (Fx.cut iy) (Fx.hi iy ih) (Fx.cut py) (Fx.hi py ph) o0 y0 o2 y2)) ∧ Below w.heap.size w w' := by
  obtain ⟨l0, c0_0, c0_1, c0_2, c0_3⟩ := At.four A0
  obtain ⟨l1, c1_0, c1_1, c1_2, c1_3⟩ := At.four A1
  obtain ⟨l2, c2_0, c2_1, c2_2, c2_3⟩ := At.four A2
  obtain ⟨l3, c3_0, c3_1, c3_2, c3_3, c3_4, c3_5, c3_6, c3_7⟩ := At.eight A3
  clear A0 A1 A2 A3
  go_enter Try.func29, Try.ntmps29
  go_upto_region 1 with (fail)
  refine Drawn.wp_region_from (Below.refl _ _) (by kernel_rfl) (by kernel_rfl) (by kernel_rfl) ?_
  (repeat (first | (refine Drawn.seq_skip (by rfl) ?_; (try simp only [Act.put, List.setIfInBounds_toArray, List.set_cons_zero, List.set_cons_succ])) | (refine Drawn.seq_call (o := ⟨_, .call ⟨.value _, _, _⟩, _, _, _, _⟩) (by rfl) (by intro w2 hS; go_simp; first | done | with_reducible rfl | exact ⟨rfl, rfl⟩) (by intro w2 hS; first | ((with_reducible refine (down_span _ _ _ _ _).mono ?_); rintro e w' ⟨rfl, hb⟩; exact ⟨rfl, Below.after hS hb⟩) | ((with_reducible refine (shift_any _ _ _ _ _ _ _ _ _ _ _).mono ?_); rintro e w' ⟨rfl, hb⟩; exact ⟨rfl, Below.after hS hb⟩)) ?_; (try simp only [Act.put, List.setIfInBounds_toArray, List.set_cons_zero, List.set_cons_succ])) | (refine Drawn.seq_value (by rfl) (by intro w2 hS; obtain ⟨hc, hf⟩ := bcell hS; go_simp; first | done | with_reducible rfl | exact ⟨rfl, rfl⟩) ?_; (try simp only [Act.put, List.setIfInBounds_toArray, List.set_cons_zero, List.set_cons_succ]))))
  refine Drawn.seq_end ?_; intro w2 hS
  go_wp2
  go_ret
  exact ⟨rfl, hS⟩
end

/-- both ways, as a point -/
def bothP (bx by_ bw bh ix iy iw ih px py pw ph : Int) (o0 : Bool) (y0 : Int) (o1 : Bool) (y1 : Int) (o2 : Bool) (y2 : Int) (o3 : Bool) (y3 : Int) : Value :=
  pt (St.shift (Fx.cut bx) (Fx.hi bx bw) (Fx.cut ix) (Fx.hi ix iw) (Fx.cut px) (Fx.hi px pw) o3 y3 o1 y1) (St.shift (Fx.cut by_) (Fx.hi by_ bh) (Fx.cut iy) (Fx.hi iy ih) (Fx.cut py) (Fx.hi py ph) o0 y0 o2 y2)

set_option maxHeartbeats 1000000 in
theorem stboth_any (bx by_ bw bh ix iy iw ih px py pw ph : Int) (o0 : Bool) (y0 : Int) (o1 : Bool) (y1 : Int) (o2 : Bool) (y2 : Int) (o3 : Bool) (y3 : Int) (w : World) : Calls Try.prog 15 #[.agg #[.int .i64 bx, .int .i64 by_, .int .i64 bw, .int .i64 bh], .agg #[.int .i64 ix, .int .i64 iy, .int .i64 iw, .int .i64 ih], .agg #[.int .i64 px, .int .i64 py, .int .i64 pw, .int .i64 ph], .agg #[.bool o0, .int .i64 y0, .bool o1, .int .i64 y1, .bool o2, .int .i64 y2, .bool o3, .int .i64 y3]] w fun e w' => e = .returned (bothP bx by_ bw bh ix iy iw ih px py pw ph o0 y0 o1 y1 o2 y2 o3 y3) ∧ Below w.heap.size w w' := by
  have hmf : ∀ (fn : Fn) (first cap : Array Value) (w : World), (Instr.makeFunc fn first cap).run Try.prog w = .ok (.func fn first cap) w := fun _ _ _ _ => rfl
  go_enter Try.func15, Try.ntmps15
  go_upto_region 1 with (fail)
  (generalize hW : World.alloc (World.alloc (World.alloc (World.alloc w _) _) _) _ = W0; have A0 : At W0 (w.heap.size) (.cells #[.int .i64 bx, .int .i64 by_, .int .i64 bw, .int .i64 bh] 33) := (by ((rw [← hW]) <;> exact At.alloc (At.alloc (At.alloc (At.new' _ (by first | done | rfl | simp)) _) _) _)); have A1 : At W0 (w.heap.size + 1) (.cells #[.int .i64 ix, .int .i64 iy, .int .i64 iw, .int .i64 ih] 33) := (by ((rw [← hW]) <;> exact At.alloc (At.alloc (At.new' _ (by first | done | rfl | simp)) _) _)); have A2 : At W0 (w.heap.size + 1 + 1) (.cells #[.int .i64 px, .int .i64 py, .int .i64 pw, .int .i64 ph] 33) := (by ((rw [← hW]) <;> exact At.alloc (At.new' _ (by first | done | rfl | simp)) _)); have A3 : At W0 (w.heap.size + 1 + 1 + 1) (.cells #[.bool o0, .int .i64 y0, .bool o1, .int .i64 y1, .bool o2, .int .i64 y2, .bool o3, .int .i64 y3] 38) := (by ((rw [← hW]) <;> exact At.new' _ (by first | done | rfl | simp))); have hB : Below w.heap.size w W0 := (by ((rw [← hW]) <;> exact Below.alloc' (Below.alloc' (Below.alloc' (Below.alloc' (Below.refl _ _) _) _) _) _)); clear hW; obtain ⟨l0, c0_0, c0_1, c0_2, c0_3⟩ := At.four A0; obtain ⟨l1, c1_0, c1_1, c1_2, c1_3⟩ := At.four A1; obtain ⟨l2, c2_0, c2_1, c2_2, c2_3⟩ := At.four A2; obtain ⟨l3, c3_0, c3_1, c3_2, c3_3, c3_4, c3_5, c3_6, c3_7⟩ := At.eight A3)
  go_wp2_with (first | (go_at_call 29; (with_reducible refine (both1a_any A0 A1 A2 A3).mono ?_); rintro e w' ⟨rfl, hb⟩; (clear l0 c0_0 c0_1 c0_2 c0_3 l1 c1_0 c1_1 c1_2 c1_3 l2 c2_0 c2_1 c2_2 c2_3 l3 c3_0 c3_1 c3_2 c3_3 c3_4 c3_5 c3_6 c3_7); (replace hB := Below.after2 (by first | exact hB | exact Below.alloc' hB _ | exact Below.alloc' (Below.alloc' hB _) _) (Nat.le_refl _) hb); replace A0 := At.keep (by first | exact A0 | exact At.alloc A0 _ | exact At.alloc (At.alloc A0 _) _) hb; replace A1 := At.keep (by first | exact A1 | exact At.alloc A1 _ | exact At.alloc (At.alloc A1 _) _) hb; replace A2 := At.keep (by first | exact A2 | exact At.alloc A2 _ | exact At.alloc (At.alloc A2 _) _) hb; replace A3 := At.keep (by first | exact A3 | exact At.alloc A3 _ | exact At.alloc (At.alloc A3 _) _) hb; clear hb; obtain ⟨l0, c0_0, c0_1, c0_2, c0_3⟩ := At.four A0; obtain ⟨l1, c1_0, c1_1, c1_2, c1_3⟩ := At.four A1; obtain ⟨l2, c2_0, c2_1, c2_2, c2_3⟩ := At.four A2; obtain ⟨l3, c3_0, c3_1, c3_2, c3_3, c3_4, c3_5, c3_6, c3_7⟩ := At.eight A3) | (go_at_call 29; (with_reducible refine (both1d_any A0 A1 A2 A3).mono ?_); rintro e w' ⟨rfl, hb⟩; (clear l0 c0_0 c0_1 c0_2 c0_3 l1 c1_0 c1_1 c1_2 c1_3 l2 c2_0 c2_1 c2_2 c2_3 l3 c3_0 c3_1 c3_2 c3_3 c3_4 c3_5 c3_6 c3_7); (replace hB := Below.after2 (by first | exact hB | exact Below.alloc' hB _ | exact Below.alloc' (Below.alloc' hB _) _) (Nat.le_refl _) hb); replace A0 := At.keep (by first | exact A0 | exact At.alloc A0 _ | exact At.alloc (At.alloc A0 _) _) hb; replace A1 := At.keep (by first | exact A1 | exact At.alloc A1 _ | exact At.alloc (At.alloc A1 _) _) hb; replace A2 := At.keep (by first | exact A2 | exact At.alloc A2 _ | exact At.alloc (At.alloc A2 _) _) hb; replace A3 := At.keep (by first | exact A3 | exact At.alloc A3 _ | exact At.alloc (At.alloc A3 _) _) hb; clear hb; obtain ⟨l0, c0_0, c0_1, c0_2, c0_3⟩ := At.four A0; obtain ⟨l1, c1_0, c1_1, c1_2, c1_3⟩ := At.four A1; obtain ⟨l2, c2_0, c2_1, c2_2, c2_3⟩ := At.four A2; obtain ⟨l3, c3_0, c3_1, c3_2, c3_3, c3_4, c3_5, c3_6, c3_7⟩ := At.eight A3) | (go_at_call 18; (with_reducible refine (of_any _ _ _).mono ?_); rintro e w' ⟨rfl, rfl⟩))
  go_ret
  exact ⟨rfl, hB⟩

set_option maxHeartbeats 1000000 in
theorem rstboth_any (bx by_ bw bh ix iy iw ih px py pw ph : Int) (o0 : Bool) (y0 : Int) (o1 : Bool) (y1 : Int) (o2 : Bool) (y2 : Int) (o3 : Bool) (y3 : Int) (w : World) : Calls Try.prog 16 #[.agg #[.int .i64 bx, .int .i64 by_, .int .i64 bw, .int .i64 bh], .agg #[.int .i64 ix, .int .i64 iy, .int .i64 iw, .int .i64 ih], .agg #[.int .i64 px, .int .i64 py, .int .i64 pw, .int .i64 ph], .agg #[.bool o0, .int .i64 y0, .bool o1, .int .i64 y1, .bool o2, .int .i64 y2, .bool o3, .int .i64 y3]] w fun e w' => e = .returned (bothP bx by_ bw bh ix iy iw ih px py pw ph o0 y0 o1 y1 o2 y2 o3 y3) ∧ Below w.heap.size w w' := by
  go_enter Try.func16, Try.ntmps16
  go_upto_region 1 with (fail)
  (generalize hW : World.alloc (World.alloc (World.alloc (World.alloc w _) _) _) _ = W0; have A0 : At W0 (w.heap.size) (.cells #[.int .i64 bx, .int .i64 by_, .int .i64 bw, .int .i64 bh] 33) := (by ((rw [← hW]) <;> exact At.alloc (At.alloc (At.alloc (At.new' _ (by first | done | rfl | simp)) _) _) _)); have A1 : At W0 (w.heap.size + 1) (.cells #[.int .i64 ix, .int .i64 iy, .int .i64 iw, .int .i64 ih] 33) := (by ((rw [← hW]) <;> exact At.alloc (At.alloc (At.new' _ (by first | done | rfl | simp)) _) _)); have A2 : At W0 (w.heap.size + 1 + 1) (.cells #[.int .i64 px, .int .i64 py, .int .i64 pw, .int .i64 ph] 33) := (by ((rw [← hW]) <;> exact At.alloc (At.new' _ (by first | done | rfl | simp)) _)); have A3 : At W0 (w.heap.size + 1 + 1 + 1) (.cells #[.bool o0, .int .i64 y0, .bool o1, .int .i64 y1, .bool o2, .int .i64 y2, .bool o3, .int .i64 y3] 40) := (by ((rw [← hW]) <;> exact At.new' _ (by first | done | rfl | simp))); have hB : Below w.heap.size w W0 := (by ((rw [← hW]) <;> exact Below.alloc' (Below.alloc' (Below.alloc' (Below.alloc' (Below.refl _ _) _) _) _) _)); clear hW; obtain ⟨l0, c0_0, c0_1, c0_2, c0_3⟩ := At.four A0; obtain ⟨l1, c1_0, c1_1, c1_2, c1_3⟩ := At.four A1; obtain ⟨l2, c2_0, c2_1, c2_2, c2_3⟩ := At.four A2; obtain ⟨l3, c3_0, c3_1, c3_2, c3_3, c3_4, c3_5, c3_6, c3_7⟩ := At.eight A3)
  refine Drawn.wp_region_from (Below.refl _ _) (by kernel_rfl) (by kernel_rfl) (by kernel_rfl) ?_
  (repeat (first | (refine Drawn.seq_skip (by rfl) ?_; (try simp only [Act.put, List.setIfInBounds_toArray, List.set_cons_zero, List.set_cons_succ])) | (refine Drawn.seq_call (o := ⟨_, .call ⟨.value _, _, _⟩, _, _, _, _⟩) (by rfl) (by intro w2 hS; go_simp; first | done | with_reducible rfl | exact ⟨rfl, rfl⟩) (by intro w2 hS; first | ((with_reducible refine (racrossS_any _ _ _ _ _).mono ?_); rintro e w' ⟨rfl, hb⟩; exact ⟨rfl, Below.after hS hb⟩) | ((with_reducible refine (rshift_any _ _ _ _ _ _ _ _ _ _ _).mono ?_); rintro e w' ⟨rfl, hb⟩; exact ⟨rfl, Below.after hS hb⟩)) ?_; (try simp only [Act.put, List.setIfInBounds_toArray, List.set_cons_zero, List.set_cons_succ])) | (refine Drawn.seq_value (by rfl) (by intro w2 hS; obtain ⟨hc, hf⟩ := bcell hS; go_simp; first | done | with_reducible rfl | exact ⟨rfl, rfl⟩) ?_; (try simp only [Act.put, List.setIfInBounds_toArray, List.set_cons_zero, List.set_cons_succ]))))
  refine Drawn.seq_end ?_; intro w2 hS
  (clear l0 c0_0 c0_1 c0_2 c0_3 l1 c1_0 c1_1 c1_2 c1_3 l2 c2_0 c2_1 c2_2 c2_3 l3 c3_0 c3_1 c3_2 c3_3 c3_4 c3_5 c3_6 c3_7); (replace hB := Below.after2 (by first | exact hB | exact Below.alloc' hB _ | exact Below.alloc' (Below.alloc' hB _) _) (Nat.le_refl _) hS); replace A0 := At.keep (by first | exact A0 | exact At.alloc A0 _ | exact At.alloc (At.alloc A0 _) _) hS; replace A1 := At.keep (by first | exact A1 | exact At.alloc A1 _ | exact At.alloc (At.alloc A1 _) _) hS; replace A2 := At.keep (by first | exact A2 | exact At.alloc A2 _ | exact At.alloc (At.alloc A2 _) _) hS; replace A3 := At.keep (by first | exact A3 | exact At.alloc A3 _ | exact At.alloc (At.alloc A3 _) _) hS; clear hS; obtain ⟨l0, c0_0, c0_1, c0_2, c0_3⟩ := At.four A0; obtain ⟨l1, c1_0, c1_1, c1_2, c1_3⟩ := At.four A1; obtain ⟨l2, c2_0, c2_1, c2_2, c2_3⟩ := At.four A2; obtain ⟨l3, c3_0, c3_1, c3_2, c3_3, c3_4, c3_5, c3_6, c3_7⟩ := At.eight A3
  go_upto_region 2 with (fail)
  refine Drawn.wp_region_from (Below.refl _ _) (by kernel_rfl) (by kernel_rfl) (by kernel_rfl) ?_
  (repeat (first | (refine Drawn.seq_skip (by rfl) ?_; (try simp only [Act.put, List.setIfInBounds_toArray, List.set_cons_zero, List.set_cons_succ])) | (refine Drawn.seq_call (o := ⟨_, .call ⟨.value _, _, _⟩, _, _, _, _⟩) (by rfl) (by intro w2 hS; go_simp; first | done | with_reducible rfl | exact ⟨rfl, rfl⟩) (by intro w2 hS; first | ((with_reducible refine (rdownS_any _ _ _ _ _).mono ?_); rintro e w' ⟨rfl, hb⟩; exact ⟨rfl, Below.after hS hb⟩) | ((with_reducible refine (rshift_any _ _ _ _ _ _ _ _ _ _ _).mono ?_); rintro e w' ⟨rfl, hb⟩; exact ⟨rfl, Below.after hS hb⟩)) ?_; (try simp only [Act.put, List.setIfInBounds_toArray, List.set_cons_zero, List.set_cons_succ])) | (refine Drawn.seq_value (by rfl) (by intro w2 hS; obtain ⟨hc, hf⟩ := bcell hS; go_simp; first | done | with_reducible rfl | exact ⟨rfl, rfl⟩) ?_; (try simp only [Act.put, List.setIfInBounds_toArray, List.set_cons_zero, List.set_cons_succ]))))
  refine Drawn.seq_end ?_; intro w2 hS
  (clear l0 c0_0 c0_1 c0_2 c0_3 l1 c1_0 c1_1 c1_2 c1_3 l2 c2_0 c2_1 c2_2 c2_3 l3 c3_0 c3_1 c3_2 c3_3 c3_4 c3_5 c3_6 c3_7); (replace hB := Below.after2 (by first | exact hB | exact Below.alloc' hB _ | exact Below.alloc' (Below.alloc' hB _) _) (Nat.le_refl _) hS); replace A0 := At.keep (by first | exact A0 | exact At.alloc A0 _ | exact At.alloc (At.alloc A0 _) _) hS; replace A1 := At.keep (by first | exact A1 | exact At.alloc A1 _ | exact At.alloc (At.alloc A1 _) _) hS; replace A2 := At.keep (by first | exact A2 | exact At.alloc A2 _ | exact At.alloc (At.alloc A2 _) _) hS; replace A3 := At.keep (by first | exact A3 | exact At.alloc A3 _ | exact At.alloc (At.alloc A3 _) _) hS; clear hS; obtain ⟨l0, c0_0, c0_1, c0_2, c0_3⟩ := At.four A0; obtain ⟨l1, c1_0, c1_1, c1_2, c1_3⟩ := At.four A1; obtain ⟨l2, c2_0, c2_1, c2_2, c2_3⟩ := At.four A2; obtain ⟨l3, c3_0, c3_1, c3_2, c3_3, c3_4, c3_5, c3_6, c3_7⟩ := At.eight A3
  go_wp2_with (first | (go_at_call 34; (with_reducible refine (rofP_any _ _ _).mono ?_); rintro e w' ⟨rfl, rfl⟩))
  go_ret
  exact ⟨rfl, hB⟩

end Go.Proofs.Ytdgphjpjgldbaaa.Fix
