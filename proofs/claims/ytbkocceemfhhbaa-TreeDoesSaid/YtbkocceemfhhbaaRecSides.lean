/- The contracts of the walk: four lengths, four edges, what is true or false. -/
import Derived.Test.YtbkocceemfhhbaaRecWalk
namespace Go.Proofs.Ytbkocceemfhhbaa.Fix
open Go.ChangeShapes Go.WideShapes Go.ChangeAt Go.RowKit
set_option linter.unusedVariables false

/-- the walk's blocks -/
def Of3 (mine : Nat → Prop) (bs bw : Nat) : Nat → Prop := fun c => mine c ∨ c = bs ∨ c = bw

theorem Out.trans' {M M' : Nat → Prop} {X Y Z : World} (h : Out M X Y) (k : Out M' Y Z) (hm : ∀ b, b < X.heap.size → M' b → M b) : Out M X Z := ⟨h.1.trans k.1, fun b hb hn => (k.2 b (Nat.lt_of_lt_of_le hb h.size) (fun q => hn (hm b hb q))).trans (h.2 b hb hn)⟩

theorem walktruth_any {F : FuncId} {caps : Array Value} {f : Nat → Int → Int} {mine : Nat → Prop} {I : List Int → World → Prop} (hA : Asks F caps f mine I) {bs bw k : Nat} {t : Re.St} {wr : Bool} {w : World} (h : On F caps f I bw bs t k wr w) (hp : Apart3 mine bs bw) (hm : ∀ b, w.heap.size ≤ b → ¬ mine b) (hk : k < 55) (hb : Re.isB k = true) :
    Calls Try.prog 75 #[.pointer (some ⟨bw, 0, none⟩), .pointer (some ⟨bs, k, none⟩)] w fun e w' => e = .returned (.tuple #[]) ∧ On F caps f I bw bs t (k + 1) (wr || !Re.inn (f k (Re.num t k)) 0 1) w' ∧ Out (Of3 mine bs bw) w w' := by
  obtain ⟨hI, a, aw⟩ := h
  have ck : w.cell? ⟨bs, k, none⟩ = some (.bool (t.b k)) := (a.cell k).trans (by rw [cells_bool _ hk hb, mix_bge f t (Nat.le_refl k)])
  have lb := a.lt
  have lw := aw.lt
  have hn : Re.num t k = if t.b k = true then 1 else 0 := by unfold Re.num; rw [if_pos hb]
  have HN := Lib.hid hn
  obtain ⟨y, hy⟩ : ∃ y, y = f k (Re.num t k) := ⟨_, rfl⟩
  have HY := Lib.hid hy
  obtain ⟨q, hq⟩ : ∃ q, q = t.b k := ⟨_, rfl⟩
  rw [← hq] at ck hn
  have HQ := Lib.hid hq
  clear hy hn hq
  have HK := Lib.hid hk
  have HB := Lib.hid hb
  clear hk hb
  have hp2 : Apart3 mine w.heap.size bw := ⟨hm _ (Nat.le_refl _), hp.nw, by omega⟩
  have hne : bs ≠ w.heap.size := by omega
  cases q
  · have hx : Re.num t k = 0 := by rw [HN.out, ← HQ.out]; rfl
    have HX := Lib.hid hx
    clear hx
    go_enter Try.func75, Try.ntmps75
    go_wp2_with (go_at_call 72; (with_reducible refine (withini_any (y := y) hA (⟨hA.keep _ _ _ hI (Below.alloc' (Below.refl _ _) _), At.new _ _, aw.alloc _⟩ : Here F caps I bw w.heap.size 3 #[.int .i64 0] wr (ins t k) _) hp2 (by rw [ins_len]; exact HK.out) rfl (by rw [ins_len, ← HX.out]; exact HY.out)).mono ?_); rintro e w2 ⟨rfl, h2, hO2⟩; have a2 := At.out (a.alloc _) (fun q => q.elim hp.nb fun q => q.elim hne hp.ne) hO2; have c2 : w2.cell? ⟨w.heap.size, 0, none⟩ = some (.int .i64 y) := (h2.a.cell 0).trans rfl; have ck2 : w2.cell? ⟨bs, k, none⟩ = some (.bool false) := (a2.cell k).trans (by rw [cells_bool _ HK.out HB.out, mix_bge f t (Nat.le_refl k), ← HQ.out]); have z2 := a2.thaw k)
    refine bodyPost_end (results_none rfl _ _ _) rfl ⟨rfl, ⟨?_, ?_, ?_⟩, ?_⟩
    · rw [ins_succ, HX.out]
      exact hA.set _ _ _ _ _ h2.i hp.nb
    · have := a2.set k (.bool (f k (Re.num t k) == 1))
      rw [mix_set_bool f t HB.out, ← HY.out] at this
      exact this
    · rw [← HY.out]
      exact h2.w.off (Ne.symm hp.ne) _ _
    · refine Out.set ?_ (.inr (.inl rfl)) _ _
      exact Out.trans' (Out.of_below (Below.alloc' (Below.refl _ _) _)) hO2 fun b hb q => q.elim .inl fun q => q.elim (fun q => absurd q (Nat.ne_of_lt hb)) fun q => .inr (.inr q)
  · have hx : Re.num t k = 1 := by rw [HN.out, ← HQ.out]; rfl
    have HX := Lib.hid hx
    clear hx
    go_enter Try.func75, Try.ntmps75
    go_wp2_with (go_at_call 72; (with_reducible refine (withini_any (y := y) hA (⟨hA.keep _ _ _ hI (Below.alloc' (Below.refl _ _) _), At.new _ _, aw.alloc _⟩ : Here F caps I bw w.heap.size 3 #[.int .i64 1] wr (ins t k) _) hp2 (by rw [ins_len]; exact HK.out) rfl (by rw [ins_len, ← HX.out]; exact HY.out)).mono ?_); rintro e w2 ⟨rfl, h2, hO2⟩; have a2 := At.out (a.alloc _) (fun q => q.elim hp.nb fun q => q.elim hne hp.ne) hO2; have c2 : w2.cell? ⟨w.heap.size, 0, none⟩ = some (.int .i64 y) := (h2.a.cell 0).trans rfl; have ck2 : w2.cell? ⟨bs, k, none⟩ = some (.bool true) := (a2.cell k).trans (by rw [cells_bool _ HK.out HB.out, mix_bge f t (Nat.le_refl k), ← HQ.out]); have z2 := a2.thaw k)
    refine bodyPost_end (results_none rfl _ _ _) rfl ⟨rfl, ⟨?_, ?_, ?_⟩, ?_⟩
    · rw [ins_succ, HX.out]
      exact hA.set _ _ _ _ _ h2.i hp.nb
    · have := a2.set k (.bool (f k (Re.num t k) == 1))
      rw [mix_set_bool f t HB.out, ← HY.out] at this
      exact this
    · rw [← HY.out]
      exact h2.w.off (Ne.symm hp.ne) _ _
    · refine Out.set ?_ (.inr (.inl rfl)) _ _
      exact Out.trans' (Out.of_below (Below.alloc' (Below.refl _ _) _)) hO2 fun b hb q => q.elim .inl fun q => q.elim (fun q => absurd q (Nat.ne_of_lt hb)) fun q => .inr (.inr q)

theorem walklens15_any {F : FuncId} {caps : Array Value} {f : Nat → Int → Int} {mine : Nat → Prop} {I : List Int → World → Prop} (hA : Asks F caps f mine I) {bs bw : Nat} {t : Re.St} {wr : Bool} {w : World} (h : On F caps f I bw bs t 15 wr w) (hp : Apart3 mine bs bw) :
    Calls Try.prog 70 #[.pointer (some ⟨bw, 0, none⟩), .pointer (some ⟨bs, 15, none⟩)] w fun e w' => e = .returned (.tuple #[]) ∧ On F caps f I bw bs t (15 + 8) ((((wr || !Fx.valid (f 15 (Re.num t 15)) (f (15 + 1) (Re.num t (15 + 1)))) || !Fx.valid (f (15 + 2) (Re.num t (15 + 2))) (f (15 + 3) (Re.num t (15 + 3)))) || !Fx.valid (f (15 + 4) (Re.num t (15 + 4))) (f (15 + 5) (Re.num t (15 + 5)))) || !Fx.valid (f (15 + 6) (Re.num t (15 + 6))) (f (15 + 7) (Re.num t (15 + 7)))) w' ∧ Out (Of3 mine bs bw) w w' := by
  have hO : Out (Of3 mine bs bw) w w := Out.refl _ _
  go_enter Try.func70, Try.ntmps70
  go_wp2
  refine wp_loop_rounds 5 ?_
  rw [rounds_succ]
  go_wp2_with (go_at_call 69; (with_reducible refine (onlen_any hA h hp (by decide) rfl rfl).mono ?_); rintro e w1 ⟨rfl, h1, hO1⟩; replace hO := hO.trans hO1; clear h hO1)
  rw [rounds_succ]
  go_wp2_with (go_at_call 69; (with_reducible refine (onlen_any hA h1 hp (by decide) rfl rfl).mono ?_); rintro e w2 ⟨rfl, h2, hO1⟩; replace hO := hO.trans hO1; clear h1 hO1)
  rw [rounds_succ]
  go_wp2_with (go_at_call 69; (with_reducible refine (onlen_any hA h2 hp (by decide) rfl rfl).mono ?_); rintro e w3 ⟨rfl, h3, hO1⟩; replace hO := hO.trans hO1; clear h2 hO1)
  rw [rounds_succ]
  go_wp2_with (go_at_call 69; (with_reducible refine (onlen_any hA h3 hp (by decide) rfl rfl).mono ?_); rintro e w4 ⟨rfl, h4, hO1⟩; replace hO := hO.trans hO1; clear h3 hO1)
  rw [rounds_succ]
  go_wp2
  go_end0
  exact ⟨rfl, h4, hO⟩

theorem walklens23_any {F : FuncId} {caps : Array Value} {f : Nat → Int → Int} {mine : Nat → Prop} {I : List Int → World → Prop} (hA : Asks F caps f mine I) {bs bw : Nat} {t : Re.St} {wr : Bool} {w : World} (h : On F caps f I bw bs t 23 wr w) (hp : Apart3 mine bs bw) :
    Calls Try.prog 70 #[.pointer (some ⟨bw, 0, none⟩), .pointer (some ⟨bs, 23, none⟩)] w fun e w' => e = .returned (.tuple #[]) ∧ On F caps f I bw bs t (23 + 8) ((((wr || !Fx.valid (f 23 (Re.num t 23)) (f (23 + 1) (Re.num t (23 + 1)))) || !Fx.valid (f (23 + 2) (Re.num t (23 + 2))) (f (23 + 3) (Re.num t (23 + 3)))) || !Fx.valid (f (23 + 4) (Re.num t (23 + 4))) (f (23 + 5) (Re.num t (23 + 5)))) || !Fx.valid (f (23 + 6) (Re.num t (23 + 6))) (f (23 + 7) (Re.num t (23 + 7)))) w' ∧ Out (Of3 mine bs bw) w w' := by
  have hO : Out (Of3 mine bs bw) w w := Out.refl _ _
  go_enter Try.func70, Try.ntmps70
  go_wp2
  refine wp_loop_rounds 5 ?_
  rw [rounds_succ]
  go_wp2_with (go_at_call 69; (with_reducible refine (onlen_any hA h hp (by decide) rfl rfl).mono ?_); rintro e w1 ⟨rfl, h1, hO1⟩; replace hO := hO.trans hO1; clear h hO1)
  rw [rounds_succ]
  go_wp2_with (go_at_call 69; (with_reducible refine (onlen_any hA h1 hp (by decide) rfl rfl).mono ?_); rintro e w2 ⟨rfl, h2, hO1⟩; replace hO := hO.trans hO1; clear h1 hO1)
  rw [rounds_succ]
  go_wp2_with (go_at_call 69; (with_reducible refine (onlen_any hA h2 hp (by decide) rfl rfl).mono ?_); rintro e w3 ⟨rfl, h3, hO1⟩; replace hO := hO.trans hO1; clear h2 hO1)
  rw [rounds_succ]
  go_wp2_with (go_at_call 69; (with_reducible refine (onlen_any hA h3 hp (by decide) rfl rfl).mono ?_); rintro e w4 ⟨rfl, h4, hO1⟩; replace hO := hO.trans hO1; clear h3 hO1)
  rw [rounds_succ]
  go_wp2
  go_end0
  exact ⟨rfl, h4, hO⟩

theorem walkedges31_any {F : FuncId} {caps : Array Value} {f : Nat → Int → Int} {mine : Nat → Prop} {I : List Int → World → Prop} (hA : Asks F caps f mine I) {bs bw : Nat} {t : Re.St} {wr : Bool} {w : World} (h : On F caps f I bw bs t 31 wr w) (hp : Apart3 mine bs bw) :
    Calls Try.prog 71 #[.pointer (some ⟨bw, 0, none⟩), .pointer (some ⟨bs, 31, none⟩)] w fun e w' => e = .returned (.tuple #[]) ∧ On F caps f I bw bs t (31 + 4) ((((wr || !Re.inn (f 31 (Re.num t 31)) 0 1048576) || !Re.inn (f (31 + 1) (Re.num t (31 + 1))) 0 1048576) || !Re.inn (f (31 + 2) (Re.num t (31 + 2))) 0 1048576) || !Re.inn (f (31 + 3) (Re.num t (31 + 3))) 0 1048576) w' ∧ Out (Of3 mine bs bw) w w' := by
  have hO : Out (Of3 mine bs bw) w w := Out.refl _ _
  go_enter Try.func71, Try.ntmps71
  go_wp2
  refine wp_loop_rounds 5 ?_
  rw [rounds_succ]
  go_wp2_with (go_at_call 72; (with_reducible refine (oni_any hA h hp (by decide) rfl).mono ?_); rintro e w1 ⟨rfl, h1, hO1⟩; replace hO := hO.trans hO1; clear h hO1)
  rw [rounds_succ]
  go_wp2_with (go_at_call 72; (with_reducible refine (oni_any hA h1 hp (by decide) rfl).mono ?_); rintro e w2 ⟨rfl, h2, hO1⟩; replace hO := hO.trans hO1; clear h1 hO1)
  rw [rounds_succ]
  go_wp2_with (go_at_call 72; (with_reducible refine (oni_any hA h2 hp (by decide) rfl).mono ?_); rintro e w3 ⟨rfl, h3, hO1⟩; replace hO := hO.trans hO1; clear h2 hO1)
  rw [rounds_succ]
  go_wp2_with (go_at_call 72; (with_reducible refine (oni_any hA h3 hp (by decide) rfl).mono ?_); rintro e w4 ⟨rfl, h4, hO1⟩; replace hO := hO.trans hO1; clear h3 hO1)
  rw [rounds_succ]
  go_wp2
  go_end0
  exact ⟨rfl, h4, hO⟩

theorem walkedges35_any {F : FuncId} {caps : Array Value} {f : Nat → Int → Int} {mine : Nat → Prop} {I : List Int → World → Prop} (hA : Asks F caps f mine I) {bs bw : Nat} {t : Re.St} {wr : Bool} {w : World} (h : On F caps f I bw bs t 35 wr w) (hp : Apart3 mine bs bw) :
    Calls Try.prog 71 #[.pointer (some ⟨bw, 0, none⟩), .pointer (some ⟨bs, 35, none⟩)] w fun e w' => e = .returned (.tuple #[]) ∧ On F caps f I bw bs t (35 + 4) ((((wr || !Re.inn (f 35 (Re.num t 35)) 0 1048576) || !Re.inn (f (35 + 1) (Re.num t (35 + 1))) 0 1048576) || !Re.inn (f (35 + 2) (Re.num t (35 + 2))) 0 1048576) || !Re.inn (f (35 + 3) (Re.num t (35 + 3))) 0 1048576) w' ∧ Out (Of3 mine bs bw) w w' := by
  have hO : Out (Of3 mine bs bw) w w := Out.refl _ _
  go_enter Try.func71, Try.ntmps71
  go_wp2
  refine wp_loop_rounds 5 ?_
  rw [rounds_succ]
  go_wp2_with (go_at_call 72; (with_reducible refine (oni_any hA h hp (by decide) rfl).mono ?_); rintro e w1 ⟨rfl, h1, hO1⟩; replace hO := hO.trans hO1; clear h hO1)
  rw [rounds_succ]
  go_wp2_with (go_at_call 72; (with_reducible refine (oni_any hA h1 hp (by decide) rfl).mono ?_); rintro e w2 ⟨rfl, h2, hO1⟩; replace hO := hO.trans hO1; clear h1 hO1)
  rw [rounds_succ]
  go_wp2_with (go_at_call 72; (with_reducible refine (oni_any hA h2 hp (by decide) rfl).mono ?_); rintro e w3 ⟨rfl, h3, hO1⟩; replace hO := hO.trans hO1; clear h2 hO1)
  rw [rounds_succ]
  go_wp2_with (go_at_call 72; (with_reducible refine (oni_any hA h3 hp (by decide) rfl).mono ?_); rintro e w4 ⟨rfl, h4, hO1⟩; replace hO := hO.trans hO1; clear h3 hO1)
  rw [rounds_succ]
  go_wp2
  go_end0
  exact ⟨rfl, h4, hO⟩

end Go.Proofs.Ytbkocceemfhhbaa.Fix
