/- The contracts of tell, hold and within, of each kind. -/
import Derived.Test.YtbkocceemfhhbaaRecSt
import Derived.Test.YtbkocceemfhhbaaDrawnGen
import Derived.Deep.RegionWith
namespace Go.Proofs.Ytbkocceemfhhbaa.Fix
open Go.ChangeShapes Go.WideShapes Go.ChangeAt Go.RowKit
set_option linter.unusedVariables false

/-- what a step of the walk speaks of: the numbers asked so far, the block b that it goes through, the walk's own block -/
structure Here (F : FuncId) (caps : Array Value) (I : List Int → World → Prop) (bw b : Nat) (T : TypeId) (cs : Array Value) (wr : Bool) (xs : List Int) (W : World) : Prop where
  i : I xs W
  a : At W b (.cells cs T)
  w : At W bw (.cells #[.func (.func F) #[] caps, .bool wr] 101)

/-- the blocks apart -/
structure Apart3 (mine : Nat → Prop) (b bw : Nat) : Prop where
  nb : ¬ mine b
  nw : ¬ mine bw
  ne : b ≠ bw

theorem hold_any {bw : Nat} {v : Value} {wr ok : Bool} {w : World} (aw : At w bw (.cells #[v, .bool wr] 101)) :
    Calls Try.prog 80 #[.pointer (some ⟨bw, 0, none⟩), .bool ok] w fun e w' => e = .returned (.tuple #[]) ∧ w' = w.setCell ⟨bw, 1, none⟩ (.bool (wr || !ok)) := by
  obtain ⟨lw, c0, c1⟩ := At.two aw
  have z1 := aw.thaw 1
  cases wr
  · go_enter Try.func80, Try.ntmps80
    go_wp2
    refine bodyPost_end (results_none rfl _ _ _) rfl ⟨rfl, rfl⟩
  · go_enter Try.func80, Try.ntmps80
    go_wp2
    refine bodyPost_end (results_none rfl _ _ _) rfl ⟨rfl, rfl⟩

theorem Here.held {F : FuncId} {caps : Array Value} {f : Nat → Int → Int} {mine : Nat → Prop} {I : List Int → World → Prop} (hA : Asks F caps f mine I) {bw b : Nat} {T : TypeId} {cs : Array Value} {wr : Bool} {xs : List Int} {W : World}
    (h : Here F caps I bw b T cs wr xs W) (hp : Apart3 mine b bw) (v : Bool) : Here F caps I bw b T cs v xs (W.setCell ⟨bw, 1, none⟩ (.bool v)) := ⟨hA.set _ _ _ _ _ h.i hp.nw, h.a.off hp.ne _ _, h.w.set 1 _⟩

theorem Here.keep {F : FuncId} {caps : Array Value} {f : Nat → Int → Int} {mine : Nat → Prop} {I : List Int → World → Prop} (hA : Asks F caps f mine I) {bw b : Nat} {T : TypeId} {cs : Array Value} {wr : Bool} {xs : List Int} {W W' : World}
    (h : Here F caps I bw b T cs wr xs W) (hb : Below W.heap.size W W') : Here F caps I bw b T cs wr xs W' := ⟨hA.keep _ _ _ h.i hb, h.a.keep hb, h.w.keep hb⟩

theorem toldD_any {F : FuncId} {caps : Array Value} {f : Nat → Int → Int} {mine : Nat → Prop} {I : List Int → World → Prop} (hA : Asks F caps f mine I) {b o bw : Nat} {cs : Array Value} {T : TypeId} {wr : Bool} {x y : Int} {xs : List Int} {w : World}
    (h : Here F caps I bw b T cs wr xs w) (hp : Apart3 mine b bw) (hx : xs.length < 55) (ho : cs[o]? = some (.int .i64 x)) (hy : y = f xs.length x) :
    Calls Try.prog 79 #[.pointer (some ⟨bw, 0, none⟩), .pointer (some ⟨b, o, none⟩)] w fun e w' => e = .returned (.tuple #[]) ∧ Here F caps I bw b T (cs.setIfInBounds o (.int .i64 y)) wr (xs ++ [x]) w' ∧ Out (fun c => mine c ∨ c = b) w w' := by
  subst hy
  obtain ⟨hI, a, aw⟩ := h
  obtain ⟨n1, n2, n3⟩ := hp
  have cx : w.cell? ⟨b, o, none⟩ = some (.int .i64 x) := (a.cell o).trans ho
  have lb := a.lt
  obtain ⟨lw, c0, c1⟩ := At.two aw
  have hcf := hA.enters
  go_enter Try.func79, Try.ntmps79
  go_region_with (refine (hA.call xs x _ (hA.keep _ _ _ hI (Below.drew (Below.refl _ _))) hx).mono ?_; rintro e w1 ⟨rfl, hI1, hO1⟩; replace hO1 := (Out.of_below (M := mine) (Below.drew (Below.refl w.heap.size w))).trans hO1; have a1 := At.out a n1 hO1; have aw1 := At.out aw n2 hO1; have cx1 : w1.cell? ⟨b, o, none⟩ = some (.int .i64 x) := (a1.cell o).trans ho; have hf1 := a1.thaw o)
  all_goals (refine bodyPost_end (results_none rfl _ _ _) rfl ⟨rfl, ⟨hA.set _ _ _ _ _ hI1 n1, At.set a1 _ _, At.off aw1 (Ne.symm n3) _ _⟩, Out.set (hO1.mono fun _ _ h => .inl h) (.inr rfl) _ _⟩)

theorem toldP_any {F : FuncId} {caps : Array Value} {f : Nat → Int → Int} {mine : Nat → Prop} {I : List Int → World → Prop} (hA : Asks F caps f mine I) {b o bw : Nat} {cs : Array Value} {T : TypeId} {wr : Bool} {x y : Int} {xs : List Int} {w : World}
    (h : Here F caps I bw b T cs wr xs w) (hp : Apart3 mine b bw) (hx : xs.length < 55) (ho : cs[o]? = some (.int .i64 x)) (hy : y = f xs.length x) :
    Calls Try.prog 81 #[.pointer (some ⟨bw, 0, none⟩), .pointer (some ⟨b, o, none⟩)] w fun e w' => e = .returned (.tuple #[]) ∧ Here F caps I bw b T (cs.setIfInBounds o (.int .i64 y)) wr (xs ++ [x]) w' ∧ Out (fun c => mine c ∨ c = b) w w' := by
  subst hy
  obtain ⟨hI, a, aw⟩ := h
  obtain ⟨n1, n2, n3⟩ := hp
  have cx : w.cell? ⟨b, o, none⟩ = some (.int .i64 x) := (a.cell o).trans ho
  have lb := a.lt
  obtain ⟨lw, c0, c1⟩ := At.two aw
  have hcf := hA.enters
  go_enter Try.func81, Try.ntmps81
  go_region_with (refine (hA.call xs x _ (hA.keep _ _ _ hI (Below.drew (Below.refl _ _))) hx).mono ?_; rintro e w1 ⟨rfl, hI1, hO1⟩; replace hO1 := (Out.of_below (M := mine) (Below.drew (Below.refl w.heap.size w))).trans hO1; have a1 := At.out a n1 hO1; have aw1 := At.out aw n2 hO1; have cx1 : w1.cell? ⟨b, o, none⟩ = some (.int .i64 x) := (a1.cell o).trans ho; have hf1 := a1.thaw o)
  all_goals (refine bodyPost_end (results_none rfl _ _ _) rfl ⟨rfl, ⟨hA.set _ _ _ _ _ hI1 n1, At.set a1 _ _, At.off aw1 (Ne.symm n3) _ _⟩, Out.set (hO1.mono fun _ _ h => .inl h) (.inr rfl) _ _⟩)

theorem toldO_any {F : FuncId} {caps : Array Value} {f : Nat → Int → Int} {mine : Nat → Prop} {I : List Int → World → Prop} (hA : Asks F caps f mine I) {b o bw : Nat} {cs : Array Value} {T : TypeId} {wr : Bool} {x y : Int} {xs : List Int} {w : World}
    (h : Here F caps I bw b T cs wr xs w) (hp : Apart3 mine b bw) (hx : xs.length < 55) (ho : cs[o]? = some (.int .i64 x)) (hy : y = f xs.length x) :
    Calls Try.prog 82 #[.pointer (some ⟨bw, 0, none⟩), .pointer (some ⟨b, o, none⟩)] w fun e w' => e = .returned (.tuple #[]) ∧ Here F caps I bw b T (cs.setIfInBounds o (.int .i64 y)) wr (xs ++ [x]) w' ∧ Out (fun c => mine c ∨ c = b) w w' := by
  subst hy
  obtain ⟨hI, a, aw⟩ := h
  obtain ⟨n1, n2, n3⟩ := hp
  have cx : w.cell? ⟨b, o, none⟩ = some (.int .i64 x) := (a.cell o).trans ho
  have lb := a.lt
  obtain ⟨lw, c0, c1⟩ := At.two aw
  have hcf := hA.enters
  go_enter Try.func82, Try.ntmps82
  go_region_with (refine (hA.call xs x _ (hA.keep _ _ _ hI (Below.drew (Below.refl _ _))) hx).mono ?_; rintro e w1 ⟨rfl, hI1, hO1⟩; replace hO1 := (Out.of_below (M := mine) (Below.drew (Below.refl w.heap.size w))).trans hO1; have a1 := At.out a n1 hO1; have aw1 := At.out aw n2 hO1; have cx1 : w1.cell? ⟨b, o, none⟩ = some (.int .i64 x) := (a1.cell o).trans ho; have hf1 := a1.thaw o)
  all_goals (refine bodyPost_end (results_none rfl _ _ _) rfl ⟨rfl, ⟨hA.set _ _ _ _ _ hI1 n1, At.set a1 _ _, At.off aw1 (Ne.symm n3) _ _⟩, Out.set (hO1.mono fun _ _ h => .inl h) (.inr rfl) _ _⟩)

theorem toldL_any {F : FuncId} {caps : Array Value} {f : Nat → Int → Int} {mine : Nat → Prop} {I : List Int → World → Prop} (hA : Asks F caps f mine I) {b o bw : Nat} {cs : Array Value} {T : TypeId} {wr : Bool} {x y : Int} {xs : List Int} {w : World}
    (h : Here F caps I bw b T cs wr xs w) (hp : Apart3 mine b bw) (hx : xs.length < 55) (ho : cs[o]? = some (.int .i64 x)) (hy : y = f xs.length x) :
    Calls Try.prog 83 #[.pointer (some ⟨bw, 0, none⟩), .pointer (some ⟨b, o, none⟩)] w fun e w' => e = .returned (.tuple #[]) ∧ Here F caps I bw b T (cs.setIfInBounds o (.int .i64 y)) wr (xs ++ [x]) w' ∧ Out (fun c => mine c ∨ c = b) w w' := by
  subst hy
  obtain ⟨hI, a, aw⟩ := h
  obtain ⟨n1, n2, n3⟩ := hp
  have cx : w.cell? ⟨b, o, none⟩ = some (.int .i64 x) := (a.cell o).trans ho
  have lb := a.lt
  obtain ⟨lw, c0, c1⟩ := At.two aw
  have hcf := hA.enters
  go_enter Try.func83, Try.ntmps83
  go_region_with (refine (hA.call xs x _ (hA.keep _ _ _ hI (Below.drew (Below.refl _ _))) hx).mono ?_; rintro e w1 ⟨rfl, hI1, hO1⟩; replace hO1 := (Out.of_below (M := mine) (Below.drew (Below.refl w.heap.size w))).trans hO1; have a1 := At.out a n1 hO1; have aw1 := At.out aw n2 hO1; have cx1 : w1.cell? ⟨b, o, none⟩ = some (.int .i64 x) := (a1.cell o).trans ho; have hf1 := a1.thaw o)
  all_goals (refine bodyPost_end (results_none rfl _ _ _) rfl ⟨rfl, ⟨hA.set _ _ _ _ _ hI1 n1, At.set a1 _ _, At.off aw1 (Ne.symm n3) _ _⟩, Out.set (hO1.mono fun _ _ h => .inl h) (.inr rfl) _ _⟩)

theorem toldi_any {F : FuncId} {caps : Array Value} {f : Nat → Int → Int} {mine : Nat → Prop} {I : List Int → World → Prop} (hA : Asks F caps f mine I) {b o bw : Nat} {cs : Array Value} {T : TypeId} {wr : Bool} {x y : Int} {xs : List Int} {w : World}
    (h : Here F caps I bw b T cs wr xs w) (hp : Apart3 mine b bw) (hx : xs.length < 55) (ho : cs[o]? = some (.int .i64 x)) (hy : y = f xs.length x) :
    Calls Try.prog 84 #[.pointer (some ⟨bw, 0, none⟩), .pointer (some ⟨b, o, none⟩)] w fun e w' => e = .returned (.tuple #[]) ∧ Here F caps I bw b T (cs.setIfInBounds o (.int .i64 y)) wr (xs ++ [x]) w' ∧ Out (fun c => mine c ∨ c = b) w w' := by
  subst hy
  obtain ⟨hI, a, aw⟩ := h
  obtain ⟨n1, n2, n3⟩ := hp
  have cx : w.cell? ⟨b, o, none⟩ = some (.int .i64 x) := (a.cell o).trans ho
  have lb := a.lt
  obtain ⟨lw, c0, c1⟩ := At.two aw
  have hcf := hA.enters
  go_enter Try.func84, Try.ntmps84
  go_region_with (refine (hA.call xs x _ (hA.keep _ _ _ hI (Below.drew (Below.refl _ _))) hx).mono ?_; rintro e w1 ⟨rfl, hI1, hO1⟩; replace hO1 := (Out.of_below (M := mine) (Below.drew (Below.refl w.heap.size w))).trans hO1; have a1 := At.out a n1 hO1; have aw1 := At.out aw n2 hO1; have cx1 : w1.cell? ⟨b, o, none⟩ = some (.int .i64 x) := (a1.cell o).trans ho; have hf1 := a1.thaw o)
  all_goals (refine bodyPost_end (results_none rfl _ _ _) rfl ⟨rfl, ⟨hA.set _ _ _ _ _ hI1 n1, At.set a1 _ _, At.off aw1 (Ne.symm n3) _ _⟩, Out.set (hO1.mono fun _ _ h => .inl h) (.inr rfl) _ _⟩)

theorem toldJ_any {F : FuncId} {caps : Array Value} {f : Nat → Int → Int} {mine : Nat → Prop} {I : List Int → World → Prop} (hA : Asks F caps f mine I) {b o bw : Nat} {cs : Array Value} {T : TypeId} {wr : Bool} {x y : Int} {xs : List Int} {w : World}
    (h : Here F caps I bw b T cs wr xs w) (hp : Apart3 mine b bw) (hx : xs.length < 55) (ho : cs[o]? = some (.int .i64 x)) (hy : y = f xs.length x) :
    Calls Try.prog 86 #[.pointer (some ⟨bw, 0, none⟩), .pointer (some ⟨b, o, none⟩)] w fun e w' => e = .returned (.tuple #[]) ∧ Here F caps I bw b T (cs.setIfInBounds o (.int .i64 y)) wr (xs ++ [x]) w' ∧ Out (fun c => mine c ∨ c = b) w w' := by
  subst hy
  obtain ⟨hI, a, aw⟩ := h
  obtain ⟨n1, n2, n3⟩ := hp
  have cx : w.cell? ⟨b, o, none⟩ = some (.int .i64 x) := (a.cell o).trans ho
  have lb := a.lt
  obtain ⟨lw, c0, c1⟩ := At.two aw
  have hcf := hA.enters
  go_enter Try.func86, Try.ntmps86
  go_region_with (refine (hA.call xs x _ (hA.keep _ _ _ hI (Below.drew (Below.refl _ _))) hx).mono ?_; rintro e w1 ⟨rfl, hI1, hO1⟩; replace hO1 := (Out.of_below (M := mine) (Below.drew (Below.refl w.heap.size w))).trans hO1; have a1 := At.out a n1 hO1; have aw1 := At.out aw n2 hO1; have cx1 : w1.cell? ⟨b, o, none⟩ = some (.int .i64 x) := (a1.cell o).trans ho; have hf1 := a1.thaw o)
  all_goals (refine bodyPost_end (results_none rfl _ _ _) rfl ⟨rfl, ⟨hA.set _ _ _ _ _ hI1 n1, At.set a1 _ _, At.off aw1 (Ne.symm n3) _ _⟩, Out.set (hO1.mono fun _ _ h => .inl h) (.inr rfl) _ _⟩)

theorem toldA_any {F : FuncId} {caps : Array Value} {f : Nat → Int → Int} {mine : Nat → Prop} {I : List Int → World → Prop} (hA : Asks F caps f mine I) {b o bw : Nat} {cs : Array Value} {T : TypeId} {wr : Bool} {x y : Int} {xs : List Int} {w : World}
    (h : Here F caps I bw b T cs wr xs w) (hp : Apart3 mine b bw) (hx : xs.length < 55) (ho : cs[o]? = some (.int .i64 x)) (hy : y = f xs.length x) :
    Calls Try.prog 87 #[.pointer (some ⟨bw, 0, none⟩), .pointer (some ⟨b, o, none⟩)] w fun e w' => e = .returned (.tuple #[]) ∧ Here F caps I bw b T (cs.setIfInBounds o (.int .i64 y)) wr (xs ++ [x]) w' ∧ Out (fun c => mine c ∨ c = b) w w' := by
  subst hy
  obtain ⟨hI, a, aw⟩ := h
  obtain ⟨n1, n2, n3⟩ := hp
  have cx : w.cell? ⟨b, o, none⟩ = some (.int .i64 x) := (a.cell o).trans ho
  have lb := a.lt
  obtain ⟨lw, c0, c1⟩ := At.two aw
  have hcf := hA.enters
  go_enter Try.func87, Try.ntmps87
  go_region_with (refine (hA.call xs x _ (hA.keep _ _ _ hI (Below.drew (Below.refl _ _))) hx).mono ?_; rintro e w1 ⟨rfl, hI1, hO1⟩; replace hO1 := (Out.of_below (M := mine) (Below.drew (Below.refl w.heap.size w))).trans hO1; have a1 := At.out a n1 hO1; have aw1 := At.out aw n2 hO1; have cx1 : w1.cell? ⟨b, o, none⟩ = some (.int .i64 x) := (a1.cell o).trans ho; have hf1 := a1.thaw o)
  all_goals (refine bodyPost_end (results_none rfl _ _ _) rfl ⟨rfl, ⟨hA.set _ _ _ _ _ hI1 n1, At.set a1 _ _, At.off aw1 (Ne.symm n3) _ _⟩, Out.set (hO1.mono fun _ _ h => .inl h) (.inr rfl) _ _⟩)

theorem toldK_any {F : FuncId} {caps : Array Value} {f : Nat → Int → Int} {mine : Nat → Prop} {I : List Int → World → Prop} (hA : Asks F caps f mine I) {b o bw : Nat} {cs : Array Value} {T : TypeId} {wr : Bool} {x y : Int} {xs : List Int} {w : World}
    (h : Here F caps I bw b T cs wr xs w) (hp : Apart3 mine b bw) (hx : xs.length < 55) (ho : cs[o]? = some (.int .i64 x)) (hy : y = f xs.length x) :
    Calls Try.prog 88 #[.pointer (some ⟨bw, 0, none⟩), .pointer (some ⟨b, o, none⟩)] w fun e w' => e = .returned (.tuple #[]) ∧ Here F caps I bw b T (cs.setIfInBounds o (.int .i64 y)) wr (xs ++ [x]) w' ∧ Out (fun c => mine c ∨ c = b) w w' := by
  subst hy
  obtain ⟨hI, a, aw⟩ := h
  obtain ⟨n1, n2, n3⟩ := hp
  have cx : w.cell? ⟨b, o, none⟩ = some (.int .i64 x) := (a.cell o).trans ho
  have lb := a.lt
  obtain ⟨lw, c0, c1⟩ := At.two aw
  have hcf := hA.enters
  go_enter Try.func88, Try.ntmps88
  go_region_with (refine (hA.call xs x _ (hA.keep _ _ _ hI (Below.drew (Below.refl _ _))) hx).mono ?_; rintro e w1 ⟨rfl, hI1, hO1⟩; replace hO1 := (Out.of_below (M := mine) (Below.drew (Below.refl w.heap.size w))).trans hO1; have a1 := At.out a n1 hO1; have aw1 := At.out aw n2 hO1; have cx1 : w1.cell? ⟨b, o, none⟩ = some (.int .i64 x) := (a1.cell o).trans ho; have hf1 := a1.thaw o)
  all_goals (refine bodyPost_end (results_none rfl _ _ _) rfl ⟨rfl, ⟨hA.set _ _ _ _ _ hI1 n1, At.set a1 _ _, At.off aw1 (Ne.symm n3) _ _⟩, Out.set (hO1.mono fun _ _ h => .inl h) (.inr rfl) _ _⟩)

theorem toldE_any {F : FuncId} {caps : Array Value} {f : Nat → Int → Int} {mine : Nat → Prop} {I : List Int → World → Prop} (hA : Asks F caps f mine I) {b o bw : Nat} {cs : Array Value} {T : TypeId} {wr : Bool} {x y : Int} {xs : List Int} {w : World}
    (h : Here F caps I bw b T cs wr xs w) (hp : Apart3 mine b bw) (hx : xs.length < 55) (ho : cs[o]? = some (.int .i64 x)) (hy : y = f xs.length x) :
    Calls Try.prog 89 #[.pointer (some ⟨bw, 0, none⟩), .pointer (some ⟨b, o, none⟩)] w fun e w' => e = .returned (.tuple #[]) ∧ Here F caps I bw b T (cs.setIfInBounds o (.int .i64 y)) wr (xs ++ [x]) w' ∧ Out (fun c => mine c ∨ c = b) w w' := by
  subst hy
  obtain ⟨hI, a, aw⟩ := h
  obtain ⟨n1, n2, n3⟩ := hp
  have cx : w.cell? ⟨b, o, none⟩ = some (.int .i64 x) := (a.cell o).trans ho
  have lb := a.lt
  obtain ⟨lw, c0, c1⟩ := At.two aw
  have hcf := hA.enters
  go_enter Try.func89, Try.ntmps89
  go_region_with (refine (hA.call xs x _ (hA.keep _ _ _ hI (Below.drew (Below.refl _ _))) hx).mono ?_; rintro e w1 ⟨rfl, hI1, hO1⟩; replace hO1 := (Out.of_below (M := mine) (Below.drew (Below.refl w.heap.size w))).trans hO1; have a1 := At.out a n1 hO1; have aw1 := At.out aw n2 hO1; have cx1 : w1.cell? ⟨b, o, none⟩ = some (.int .i64 x) := (a1.cell o).trans ho; have hf1 := a1.thaw o)
  all_goals (refine bodyPost_end (results_none rfl _ _ _) rfl ⟨rfl, ⟨hA.set _ _ _ _ _ hI1 n1, At.set a1 _ _, At.off aw1 (Ne.symm n3) _ _⟩, Out.set (hO1.mono fun _ _ h => .inl h) (.inr rfl) _ _⟩)

theorem withinD_any {F : FuncId} {caps : Array Value} {f : Nat → Int → Int} {mine : Nat → Prop} {I : List Int → World → Prop} (hA : Asks F caps f mine I) {b o bw : Nat} {cs : Array Value} {T : TypeId} {wr : Bool} {x y lo hi : Int} {xs : List Int} {w : World}
    (h : Here F caps I bw b T cs wr xs w) (hp : Apart3 mine b bw) (hx : xs.length < 55) (ho : cs[o]? = some (.int .i64 x)) (hy : y = f xs.length x) :
    Calls Try.prog 66 #[.pointer (some ⟨bw, 0, none⟩), .pointer (some ⟨b, o, none⟩), .int .i64 lo, .int .i64 hi] w fun e w' => e = .returned (.tuple #[]) ∧ Here F caps I bw b T (cs.setIfInBounds o (.int .i64 y)) (wr || !Re.inn y lo hi) (xs ++ [x]) w' ∧ Out (fun c => mine c ∨ c = b ∨ c = bw) w w' := by
  have HY := Lib.hid hy
  clear hy
  have hlt : o < cs.size := (Array.getElem?_eq_some_iff.1 ho).1
  have hgo : (cs.setIfInBounds o (.int .i64 y))[o]? = some (.int .i64 y) := by simp [hlt]
  have HGO := Lib.hid hgo
  have HO := Lib.hid ho
  clear hgo ho hlt
  by_cases h1 : lo ≤ y
  · have e1 : decide (lo ≤ y) = true := decide_eq_true h1
    by_cases h2 : y ≤ hi
    · have e2 : decide (y ≤ hi) = true := decide_eq_true h2
      have HIN := Lib.hid (show Re.inn y lo hi = true by unfold Re.inn; rw [e1, e2]; rfl)
      go_enter Try.func66, Try.ntmps66
      go_wp2_with (first | (go_at_call 79; refine (toldD_any hA h hp hx HO.out HY.out).mono ?_; rintro e w1 ⟨rfl, h1', hO⟩; have cx1 := (h1'.a.cell o).trans HGO.out) | (go_at_call 80; refine (hold_any h1'.w).mono ?_; rintro e w2 ⟨rfl, rfl⟩))
      refine bodyPost_end (results_none rfl _ _ _) rfl ⟨rfl, ?_, Out.set (hO.mono fun _ _ q => q.elim .inl fun q => .inr (.inl q)) (.inr (.inr rfl)) _ _⟩
      rw [HIN.out]
      simp only [Bool.not_true, Bool.or_false]
      exact Here.held hA h1' hp _
    · have e2 : decide (y ≤ hi) = false := decide_eq_false h2
      have HIN := Lib.hid (show Re.inn y lo hi = false by unfold Re.inn; rw [e1, e2]; rfl)
      go_enter Try.func66, Try.ntmps66
      go_wp2_with (first | (go_at_call 79; refine (toldD_any hA h hp hx HO.out HY.out).mono ?_; rintro e w1 ⟨rfl, h1', hO⟩; have cx1 := (h1'.a.cell o).trans HGO.out) | (go_at_call 80; refine (hold_any h1'.w).mono ?_; rintro e w2 ⟨rfl, rfl⟩))
      refine bodyPost_end (results_none rfl _ _ _) rfl ⟨rfl, ?_, Out.set (hO.mono fun _ _ q => q.elim .inl fun q => .inr (.inl q)) (.inr (.inr rfl)) _ _⟩
      rw [HIN.out]
      simp only [Bool.not_false, Bool.or_true]
      exact Here.held hA h1' hp _
  · have e1 : decide (lo ≤ y) = false := decide_eq_false h1
    have HIN := Lib.hid (show Re.inn y lo hi = false by unfold Re.inn; rw [e1]; rfl)
    go_enter Try.func66, Try.ntmps66
    go_wp2_with (first | (go_at_call 79; refine (toldD_any hA h hp hx HO.out HY.out).mono ?_; rintro e w1 ⟨rfl, h1', hO⟩; have cx1 := (h1'.a.cell o).trans HGO.out) | (go_at_call 80; refine (hold_any h1'.w).mono ?_; rintro e w2 ⟨rfl, rfl⟩))
    refine bodyPost_end (results_none rfl _ _ _) rfl ⟨rfl, ?_, Out.set (hO.mono fun _ _ q => q.elim .inl fun q => .inr (.inl q)) (.inr (.inr rfl)) _ _⟩
    rw [HIN.out]
    simp only [Bool.not_false, Bool.or_true]
    exact Here.held hA h1' hp _

theorem withinP_any {F : FuncId} {caps : Array Value} {f : Nat → Int → Int} {mine : Nat → Prop} {I : List Int → World → Prop} (hA : Asks F caps f mine I) {b o bw : Nat} {cs : Array Value} {T : TypeId} {wr : Bool} {x y lo hi : Int} {xs : List Int} {w : World}
    (h : Here F caps I bw b T cs wr xs w) (hp : Apart3 mine b bw) (hx : xs.length < 55) (ho : cs[o]? = some (.int .i64 x)) (hy : y = f xs.length x) :
    Calls Try.prog 67 #[.pointer (some ⟨bw, 0, none⟩), .pointer (some ⟨b, o, none⟩), .int .i64 lo, .int .i64 hi] w fun e w' => e = .returned (.tuple #[]) ∧ Here F caps I bw b T (cs.setIfInBounds o (.int .i64 y)) (wr || !Re.inn y lo hi) (xs ++ [x]) w' ∧ Out (fun c => mine c ∨ c = b ∨ c = bw) w w' := by
  have HY := Lib.hid hy
  clear hy
  have hlt : o < cs.size := (Array.getElem?_eq_some_iff.1 ho).1
  have hgo : (cs.setIfInBounds o (.int .i64 y))[o]? = some (.int .i64 y) := by simp [hlt]
  have HGO := Lib.hid hgo
  have HO := Lib.hid ho
  clear hgo ho hlt
  by_cases h1 : lo ≤ y
  · have e1 : decide (lo ≤ y) = true := decide_eq_true h1
    by_cases h2 : y ≤ hi
    · have e2 : decide (y ≤ hi) = true := decide_eq_true h2
      have HIN := Lib.hid (show Re.inn y lo hi = true by unfold Re.inn; rw [e1, e2]; rfl)
      go_enter Try.func67, Try.ntmps67
      go_wp2_with (first | (go_at_call 81; refine (toldP_any hA h hp hx HO.out HY.out).mono ?_; rintro e w1 ⟨rfl, h1', hO⟩; have cx1 := (h1'.a.cell o).trans HGO.out) | (go_at_call 80; refine (hold_any h1'.w).mono ?_; rintro e w2 ⟨rfl, rfl⟩))
      refine bodyPost_end (results_none rfl _ _ _) rfl ⟨rfl, ?_, Out.set (hO.mono fun _ _ q => q.elim .inl fun q => .inr (.inl q)) (.inr (.inr rfl)) _ _⟩
      rw [HIN.out]
      simp only [Bool.not_true, Bool.or_false]
      exact Here.held hA h1' hp _
    · have e2 : decide (y ≤ hi) = false := decide_eq_false h2
      have HIN := Lib.hid (show Re.inn y lo hi = false by unfold Re.inn; rw [e1, e2]; rfl)
      go_enter Try.func67, Try.ntmps67
      go_wp2_with (first | (go_at_call 81; refine (toldP_any hA h hp hx HO.out HY.out).mono ?_; rintro e w1 ⟨rfl, h1', hO⟩; have cx1 := (h1'.a.cell o).trans HGO.out) | (go_at_call 80; refine (hold_any h1'.w).mono ?_; rintro e w2 ⟨rfl, rfl⟩))
      refine bodyPost_end (results_none rfl _ _ _) rfl ⟨rfl, ?_, Out.set (hO.mono fun _ _ q => q.elim .inl fun q => .inr (.inl q)) (.inr (.inr rfl)) _ _⟩
      rw [HIN.out]
      simp only [Bool.not_false, Bool.or_true]
      exact Here.held hA h1' hp _
  · have e1 : decide (lo ≤ y) = false := decide_eq_false h1
    have HIN := Lib.hid (show Re.inn y lo hi = false by unfold Re.inn; rw [e1]; rfl)
    go_enter Try.func67, Try.ntmps67
    go_wp2_with (first | (go_at_call 81; refine (toldP_any hA h hp hx HO.out HY.out).mono ?_; rintro e w1 ⟨rfl, h1', hO⟩; have cx1 := (h1'.a.cell o).trans HGO.out) | (go_at_call 80; refine (hold_any h1'.w).mono ?_; rintro e w2 ⟨rfl, rfl⟩))
    refine bodyPost_end (results_none rfl _ _ _) rfl ⟨rfl, ?_, Out.set (hO.mono fun _ _ q => q.elim .inl fun q => .inr (.inl q)) (.inr (.inr rfl)) _ _⟩
    rw [HIN.out]
    simp only [Bool.not_false, Bool.or_true]
    exact Here.held hA h1' hp _

theorem withinO_any {F : FuncId} {caps : Array Value} {f : Nat → Int → Int} {mine : Nat → Prop} {I : List Int → World → Prop} (hA : Asks F caps f mine I) {b o bw : Nat} {cs : Array Value} {T : TypeId} {wr : Bool} {x y lo hi : Int} {xs : List Int} {w : World}
    (h : Here F caps I bw b T cs wr xs w) (hp : Apart3 mine b bw) (hx : xs.length < 55) (ho : cs[o]? = some (.int .i64 x)) (hy : y = f xs.length x) :
    Calls Try.prog 68 #[.pointer (some ⟨bw, 0, none⟩), .pointer (some ⟨b, o, none⟩), .int .i64 lo, .int .i64 hi] w fun e w' => e = .returned (.tuple #[]) ∧ Here F caps I bw b T (cs.setIfInBounds o (.int .i64 y)) (wr || !Re.inn y lo hi) (xs ++ [x]) w' ∧ Out (fun c => mine c ∨ c = b ∨ c = bw) w w' := by
  have HY := Lib.hid hy
  clear hy
  have hlt : o < cs.size := (Array.getElem?_eq_some_iff.1 ho).1
  have hgo : (cs.setIfInBounds o (.int .i64 y))[o]? = some (.int .i64 y) := by simp [hlt]
  have HGO := Lib.hid hgo
  have HO := Lib.hid ho
  clear hgo ho hlt
  by_cases h1 : lo ≤ y
  · have e1 : decide (lo ≤ y) = true := decide_eq_true h1
    by_cases h2 : y ≤ hi
    · have e2 : decide (y ≤ hi) = true := decide_eq_true h2
      have HIN := Lib.hid (show Re.inn y lo hi = true by unfold Re.inn; rw [e1, e2]; rfl)
      go_enter Try.func68, Try.ntmps68
      go_wp2_with (first | (go_at_call 82; refine (toldO_any hA h hp hx HO.out HY.out).mono ?_; rintro e w1 ⟨rfl, h1', hO⟩; have cx1 := (h1'.a.cell o).trans HGO.out) | (go_at_call 80; refine (hold_any h1'.w).mono ?_; rintro e w2 ⟨rfl, rfl⟩))
      refine bodyPost_end (results_none rfl _ _ _) rfl ⟨rfl, ?_, Out.set (hO.mono fun _ _ q => q.elim .inl fun q => .inr (.inl q)) (.inr (.inr rfl)) _ _⟩
      rw [HIN.out]
      simp only [Bool.not_true, Bool.or_false]
      exact Here.held hA h1' hp _
    · have e2 : decide (y ≤ hi) = false := decide_eq_false h2
      have HIN := Lib.hid (show Re.inn y lo hi = false by unfold Re.inn; rw [e1, e2]; rfl)
      go_enter Try.func68, Try.ntmps68
      go_wp2_with (first | (go_at_call 82; refine (toldO_any hA h hp hx HO.out HY.out).mono ?_; rintro e w1 ⟨rfl, h1', hO⟩; have cx1 := (h1'.a.cell o).trans HGO.out) | (go_at_call 80; refine (hold_any h1'.w).mono ?_; rintro e w2 ⟨rfl, rfl⟩))
      refine bodyPost_end (results_none rfl _ _ _) rfl ⟨rfl, ?_, Out.set (hO.mono fun _ _ q => q.elim .inl fun q => .inr (.inl q)) (.inr (.inr rfl)) _ _⟩
      rw [HIN.out]
      simp only [Bool.not_false, Bool.or_true]
      exact Here.held hA h1' hp _
  · have e1 : decide (lo ≤ y) = false := decide_eq_false h1
    have HIN := Lib.hid (show Re.inn y lo hi = false by unfold Re.inn; rw [e1]; rfl)
    go_enter Try.func68, Try.ntmps68
    go_wp2_with (first | (go_at_call 82; refine (toldO_any hA h hp hx HO.out HY.out).mono ?_; rintro e w1 ⟨rfl, h1', hO⟩; have cx1 := (h1'.a.cell o).trans HGO.out) | (go_at_call 80; refine (hold_any h1'.w).mono ?_; rintro e w2 ⟨rfl, rfl⟩))
    refine bodyPost_end (results_none rfl _ _ _) rfl ⟨rfl, ?_, Out.set (hO.mono fun _ _ q => q.elim .inl fun q => .inr (.inl q)) (.inr (.inr rfl)) _ _⟩
    rw [HIN.out]
    simp only [Bool.not_false, Bool.or_true]
    exact Here.held hA h1' hp _

theorem withini_any {F : FuncId} {caps : Array Value} {f : Nat → Int → Int} {mine : Nat → Prop} {I : List Int → World → Prop} (hA : Asks F caps f mine I) {b o bw : Nat} {cs : Array Value} {T : TypeId} {wr : Bool} {x y lo hi : Int} {xs : List Int} {w : World}
    (h : Here F caps I bw b T cs wr xs w) (hp : Apart3 mine b bw) (hx : xs.length < 55) (ho : cs[o]? = some (.int .i64 x)) (hy : y = f xs.length x) :
    Calls Try.prog 72 #[.pointer (some ⟨bw, 0, none⟩), .pointer (some ⟨b, o, none⟩), .int .i64 lo, .int .i64 hi] w fun e w' => e = .returned (.tuple #[]) ∧ Here F caps I bw b T (cs.setIfInBounds o (.int .i64 y)) (wr || !Re.inn y lo hi) (xs ++ [x]) w' ∧ Out (fun c => mine c ∨ c = b ∨ c = bw) w w' := by
  have HY := Lib.hid hy
  clear hy
  have hlt : o < cs.size := (Array.getElem?_eq_some_iff.1 ho).1
  have hgo : (cs.setIfInBounds o (.int .i64 y))[o]? = some (.int .i64 y) := by simp [hlt]
  have HGO := Lib.hid hgo
  have HO := Lib.hid ho
  clear hgo ho hlt
  by_cases h1 : lo ≤ y
  · have e1 : decide (lo ≤ y) = true := decide_eq_true h1
    by_cases h2 : y ≤ hi
    · have e2 : decide (y ≤ hi) = true := decide_eq_true h2
      have HIN := Lib.hid (show Re.inn y lo hi = true by unfold Re.inn; rw [e1, e2]; rfl)
      go_enter Try.func72, Try.ntmps72
      go_wp2_with (first | (go_at_call 84; refine (toldi_any hA h hp hx HO.out HY.out).mono ?_; rintro e w1 ⟨rfl, h1', hO⟩; have cx1 := (h1'.a.cell o).trans HGO.out) | (go_at_call 80; refine (hold_any h1'.w).mono ?_; rintro e w2 ⟨rfl, rfl⟩))
      refine bodyPost_end (results_none rfl _ _ _) rfl ⟨rfl, ?_, Out.set (hO.mono fun _ _ q => q.elim .inl fun q => .inr (.inl q)) (.inr (.inr rfl)) _ _⟩
      rw [HIN.out]
      simp only [Bool.not_true, Bool.or_false]
      exact Here.held hA h1' hp _
    · have e2 : decide (y ≤ hi) = false := decide_eq_false h2
      have HIN := Lib.hid (show Re.inn y lo hi = false by unfold Re.inn; rw [e1, e2]; rfl)
      go_enter Try.func72, Try.ntmps72
      go_wp2_with (first | (go_at_call 84; refine (toldi_any hA h hp hx HO.out HY.out).mono ?_; rintro e w1 ⟨rfl, h1', hO⟩; have cx1 := (h1'.a.cell o).trans HGO.out) | (go_at_call 80; refine (hold_any h1'.w).mono ?_; rintro e w2 ⟨rfl, rfl⟩))
      refine bodyPost_end (results_none rfl _ _ _) rfl ⟨rfl, ?_, Out.set (hO.mono fun _ _ q => q.elim .inl fun q => .inr (.inl q)) (.inr (.inr rfl)) _ _⟩
      rw [HIN.out]
      simp only [Bool.not_false, Bool.or_true]
      exact Here.held hA h1' hp _
  · have e1 : decide (lo ≤ y) = false := decide_eq_false h1
    have HIN := Lib.hid (show Re.inn y lo hi = false by unfold Re.inn; rw [e1]; rfl)
    go_enter Try.func72, Try.ntmps72
    go_wp2_with (first | (go_at_call 84; refine (toldi_any hA h hp hx HO.out HY.out).mono ?_; rintro e w1 ⟨rfl, h1', hO⟩; have cx1 := (h1'.a.cell o).trans HGO.out) | (go_at_call 80; refine (hold_any h1'.w).mono ?_; rintro e w2 ⟨rfl, rfl⟩))
    refine bodyPost_end (results_none rfl _ _ _) rfl ⟨rfl, ?_, Out.set (hO.mono fun _ _ q => q.elim .inl fun q => .inr (.inl q)) (.inr (.inr rfl)) _ _⟩
    rw [HIN.out]
    simp only [Bool.not_false, Bool.or_true]
    exact Here.held hA h1' hp _

theorem withinJ_any {F : FuncId} {caps : Array Value} {f : Nat → Int → Int} {mine : Nat → Prop} {I : List Int → World → Prop} (hA : Asks F caps f mine I) {b o bw : Nat} {cs : Array Value} {T : TypeId} {wr : Bool} {x y lo hi : Int} {xs : List Int} {w : World}
    (h : Here F caps I bw b T cs wr xs w) (hp : Apart3 mine b bw) (hx : xs.length < 55) (ho : cs[o]? = some (.int .i64 x)) (hy : y = f xs.length x) :
    Calls Try.prog 73 #[.pointer (some ⟨bw, 0, none⟩), .pointer (some ⟨b, o, none⟩), .int .i64 lo, .int .i64 hi] w fun e w' => e = .returned (.tuple #[]) ∧ Here F caps I bw b T (cs.setIfInBounds o (.int .i64 y)) (wr || !Re.inn y lo hi) (xs ++ [x]) w' ∧ Out (fun c => mine c ∨ c = b ∨ c = bw) w w' := by
  have HY := Lib.hid hy
  clear hy
  have hlt : o < cs.size := (Array.getElem?_eq_some_iff.1 ho).1
  have hgo : (cs.setIfInBounds o (.int .i64 y))[o]? = some (.int .i64 y) := by simp [hlt]
  have HGO := Lib.hid hgo
  have HO := Lib.hid ho
  clear hgo ho hlt
  by_cases h1 : lo ≤ y
  · have e1 : decide (lo ≤ y) = true := decide_eq_true h1
    by_cases h2 : y ≤ hi
    · have e2 : decide (y ≤ hi) = true := decide_eq_true h2
      have HIN := Lib.hid (show Re.inn y lo hi = true by unfold Re.inn; rw [e1, e2]; rfl)
      go_enter Try.func73, Try.ntmps73
      go_wp2_with (first | (go_at_call 86; refine (toldJ_any hA h hp hx HO.out HY.out).mono ?_; rintro e w1 ⟨rfl, h1', hO⟩; have cx1 := (h1'.a.cell o).trans HGO.out) | (go_at_call 80; refine (hold_any h1'.w).mono ?_; rintro e w2 ⟨rfl, rfl⟩))
      refine bodyPost_end (results_none rfl _ _ _) rfl ⟨rfl, ?_, Out.set (hO.mono fun _ _ q => q.elim .inl fun q => .inr (.inl q)) (.inr (.inr rfl)) _ _⟩
      rw [HIN.out]
      simp only [Bool.not_true, Bool.or_false]
      exact Here.held hA h1' hp _
    · have e2 : decide (y ≤ hi) = false := decide_eq_false h2
      have HIN := Lib.hid (show Re.inn y lo hi = false by unfold Re.inn; rw [e1, e2]; rfl)
      go_enter Try.func73, Try.ntmps73
      go_wp2_with (first | (go_at_call 86; refine (toldJ_any hA h hp hx HO.out HY.out).mono ?_; rintro e w1 ⟨rfl, h1', hO⟩; have cx1 := (h1'.a.cell o).trans HGO.out) | (go_at_call 80; refine (hold_any h1'.w).mono ?_; rintro e w2 ⟨rfl, rfl⟩))
      refine bodyPost_end (results_none rfl _ _ _) rfl ⟨rfl, ?_, Out.set (hO.mono fun _ _ q => q.elim .inl fun q => .inr (.inl q)) (.inr (.inr rfl)) _ _⟩
      rw [HIN.out]
      simp only [Bool.not_false, Bool.or_true]
      exact Here.held hA h1' hp _
  · have e1 : decide (lo ≤ y) = false := decide_eq_false h1
    have HIN := Lib.hid (show Re.inn y lo hi = false by unfold Re.inn; rw [e1]; rfl)
    go_enter Try.func73, Try.ntmps73
    go_wp2_with (first | (go_at_call 86; refine (toldJ_any hA h hp hx HO.out HY.out).mono ?_; rintro e w1 ⟨rfl, h1', hO⟩; have cx1 := (h1'.a.cell o).trans HGO.out) | (go_at_call 80; refine (hold_any h1'.w).mono ?_; rintro e w2 ⟨rfl, rfl⟩))
    refine bodyPost_end (results_none rfl _ _ _) rfl ⟨rfl, ?_, Out.set (hO.mono fun _ _ q => q.elim .inl fun q => .inr (.inl q)) (.inr (.inr rfl)) _ _⟩
    rw [HIN.out]
    simp only [Bool.not_false, Bool.or_true]
    exact Here.held hA h1' hp _

theorem withinA_any {F : FuncId} {caps : Array Value} {f : Nat → Int → Int} {mine : Nat → Prop} {I : List Int → World → Prop} (hA : Asks F caps f mine I) {b o bw : Nat} {cs : Array Value} {T : TypeId} {wr : Bool} {x y lo hi : Int} {xs : List Int} {w : World}
    (h : Here F caps I bw b T cs wr xs w) (hp : Apart3 mine b bw) (hx : xs.length < 55) (ho : cs[o]? = some (.int .i64 x)) (hy : y = f xs.length x) :
    Calls Try.prog 74 #[.pointer (some ⟨bw, 0, none⟩), .pointer (some ⟨b, o, none⟩), .int .i64 lo, .int .i64 hi] w fun e w' => e = .returned (.tuple #[]) ∧ Here F caps I bw b T (cs.setIfInBounds o (.int .i64 y)) (wr || !Re.inn y lo hi) (xs ++ [x]) w' ∧ Out (fun c => mine c ∨ c = b ∨ c = bw) w w' := by
  have HY := Lib.hid hy
  clear hy
  have hlt : o < cs.size := (Array.getElem?_eq_some_iff.1 ho).1
  have hgo : (cs.setIfInBounds o (.int .i64 y))[o]? = some (.int .i64 y) := by simp [hlt]
  have HGO := Lib.hid hgo
  have HO := Lib.hid ho
  clear hgo ho hlt
  by_cases h1 : lo ≤ y
  · have e1 : decide (lo ≤ y) = true := decide_eq_true h1
    by_cases h2 : y ≤ hi
    · have e2 : decide (y ≤ hi) = true := decide_eq_true h2
      have HIN := Lib.hid (show Re.inn y lo hi = true by unfold Re.inn; rw [e1, e2]; rfl)
      go_enter Try.func74, Try.ntmps74
      go_wp2_with (first | (go_at_call 87; refine (toldA_any hA h hp hx HO.out HY.out).mono ?_; rintro e w1 ⟨rfl, h1', hO⟩; have cx1 := (h1'.a.cell o).trans HGO.out) | (go_at_call 80; refine (hold_any h1'.w).mono ?_; rintro e w2 ⟨rfl, rfl⟩))
      refine bodyPost_end (results_none rfl _ _ _) rfl ⟨rfl, ?_, Out.set (hO.mono fun _ _ q => q.elim .inl fun q => .inr (.inl q)) (.inr (.inr rfl)) _ _⟩
      rw [HIN.out]
      simp only [Bool.not_true, Bool.or_false]
      exact Here.held hA h1' hp _
    · have e2 : decide (y ≤ hi) = false := decide_eq_false h2
      have HIN := Lib.hid (show Re.inn y lo hi = false by unfold Re.inn; rw [e1, e2]; rfl)
      go_enter Try.func74, Try.ntmps74
      go_wp2_with (first | (go_at_call 87; refine (toldA_any hA h hp hx HO.out HY.out).mono ?_; rintro e w1 ⟨rfl, h1', hO⟩; have cx1 := (h1'.a.cell o).trans HGO.out) | (go_at_call 80; refine (hold_any h1'.w).mono ?_; rintro e w2 ⟨rfl, rfl⟩))
      refine bodyPost_end (results_none rfl _ _ _) rfl ⟨rfl, ?_, Out.set (hO.mono fun _ _ q => q.elim .inl fun q => .inr (.inl q)) (.inr (.inr rfl)) _ _⟩
      rw [HIN.out]
      simp only [Bool.not_false, Bool.or_true]
      exact Here.held hA h1' hp _
  · have e1 : decide (lo ≤ y) = false := decide_eq_false h1
    have HIN := Lib.hid (show Re.inn y lo hi = false by unfold Re.inn; rw [e1]; rfl)
    go_enter Try.func74, Try.ntmps74
    go_wp2_with (first | (go_at_call 87; refine (toldA_any hA h hp hx HO.out HY.out).mono ?_; rintro e w1 ⟨rfl, h1', hO⟩; have cx1 := (h1'.a.cell o).trans HGO.out) | (go_at_call 80; refine (hold_any h1'.w).mono ?_; rintro e w2 ⟨rfl, rfl⟩))
    refine bodyPost_end (results_none rfl _ _ _) rfl ⟨rfl, ?_, Out.set (hO.mono fun _ _ q => q.elim .inl fun q => .inr (.inl q)) (.inr (.inr rfl)) _ _⟩
    rw [HIN.out]
    simp only [Bool.not_false, Bool.or_true]
    exact Here.held hA h1' hp _

theorem withinK_any {F : FuncId} {caps : Array Value} {f : Nat → Int → Int} {mine : Nat → Prop} {I : List Int → World → Prop} (hA : Asks F caps f mine I) {b o bw : Nat} {cs : Array Value} {T : TypeId} {wr : Bool} {x y lo hi : Int} {xs : List Int} {w : World}
    (h : Here F caps I bw b T cs wr xs w) (hp : Apart3 mine b bw) (hx : xs.length < 55) (ho : cs[o]? = some (.int .i64 x)) (hy : y = f xs.length x) :
    Calls Try.prog 76 #[.pointer (some ⟨bw, 0, none⟩), .pointer (some ⟨b, o, none⟩), .int .i64 lo, .int .i64 hi] w fun e w' => e = .returned (.tuple #[]) ∧ Here F caps I bw b T (cs.setIfInBounds o (.int .i64 y)) (wr || !Re.inn y lo hi) (xs ++ [x]) w' ∧ Out (fun c => mine c ∨ c = b ∨ c = bw) w w' := by
  have HY := Lib.hid hy
  clear hy
  have hlt : o < cs.size := (Array.getElem?_eq_some_iff.1 ho).1
  have hgo : (cs.setIfInBounds o (.int .i64 y))[o]? = some (.int .i64 y) := by simp [hlt]
  have HGO := Lib.hid hgo
  have HO := Lib.hid ho
  clear hgo ho hlt
  by_cases h1 : lo ≤ y
  · have e1 : decide (lo ≤ y) = true := decide_eq_true h1
    by_cases h2 : y ≤ hi
    · have e2 : decide (y ≤ hi) = true := decide_eq_true h2
      have HIN := Lib.hid (show Re.inn y lo hi = true by unfold Re.inn; rw [e1, e2]; rfl)
      go_enter Try.func76, Try.ntmps76
      go_wp2_with (first | (go_at_call 88; refine (toldK_any hA h hp hx HO.out HY.out).mono ?_; rintro e w1 ⟨rfl, h1', hO⟩; have cx1 := (h1'.a.cell o).trans HGO.out) | (go_at_call 80; refine (hold_any h1'.w).mono ?_; rintro e w2 ⟨rfl, rfl⟩))
      refine bodyPost_end (results_none rfl _ _ _) rfl ⟨rfl, ?_, Out.set (hO.mono fun _ _ q => q.elim .inl fun q => .inr (.inl q)) (.inr (.inr rfl)) _ _⟩
      rw [HIN.out]
      simp only [Bool.not_true, Bool.or_false]
      exact Here.held hA h1' hp _
    · have e2 : decide (y ≤ hi) = false := decide_eq_false h2
      have HIN := Lib.hid (show Re.inn y lo hi = false by unfold Re.inn; rw [e1, e2]; rfl)
      go_enter Try.func76, Try.ntmps76
      go_wp2_with (first | (go_at_call 88; refine (toldK_any hA h hp hx HO.out HY.out).mono ?_; rintro e w1 ⟨rfl, h1', hO⟩; have cx1 := (h1'.a.cell o).trans HGO.out) | (go_at_call 80; refine (hold_any h1'.w).mono ?_; rintro e w2 ⟨rfl, rfl⟩))
      refine bodyPost_end (results_none rfl _ _ _) rfl ⟨rfl, ?_, Out.set (hO.mono fun _ _ q => q.elim .inl fun q => .inr (.inl q)) (.inr (.inr rfl)) _ _⟩
      rw [HIN.out]
      simp only [Bool.not_false, Bool.or_true]
      exact Here.held hA h1' hp _
  · have e1 : decide (lo ≤ y) = false := decide_eq_false h1
    have HIN := Lib.hid (show Re.inn y lo hi = false by unfold Re.inn; rw [e1]; rfl)
    go_enter Try.func76, Try.ntmps76
    go_wp2_with (first | (go_at_call 88; refine (toldK_any hA h hp hx HO.out HY.out).mono ?_; rintro e w1 ⟨rfl, h1', hO⟩; have cx1 := (h1'.a.cell o).trans HGO.out) | (go_at_call 80; refine (hold_any h1'.w).mono ?_; rintro e w2 ⟨rfl, rfl⟩))
    refine bodyPost_end (results_none rfl _ _ _) rfl ⟨rfl, ?_, Out.set (hO.mono fun _ _ q => q.elim .inl fun q => .inr (.inl q)) (.inr (.inr rfl)) _ _⟩
    rw [HIN.out]
    simp only [Bool.not_false, Bool.or_true]
    exact Here.held hA h1' hp _

theorem withinE_any {F : FuncId} {caps : Array Value} {f : Nat → Int → Int} {mine : Nat → Prop} {I : List Int → World → Prop} (hA : Asks F caps f mine I) {b o bw : Nat} {cs : Array Value} {T : TypeId} {wr : Bool} {x y lo hi : Int} {xs : List Int} {w : World}
    (h : Here F caps I bw b T cs wr xs w) (hp : Apart3 mine b bw) (hx : xs.length < 55) (ho : cs[o]? = some (.int .i64 x)) (hy : y = f xs.length x) :
    Calls Try.prog 77 #[.pointer (some ⟨bw, 0, none⟩), .pointer (some ⟨b, o, none⟩), .int .i64 lo, .int .i64 hi] w fun e w' => e = .returned (.tuple #[]) ∧ Here F caps I bw b T (cs.setIfInBounds o (.int .i64 y)) (wr || !Re.inn y lo hi) (xs ++ [x]) w' ∧ Out (fun c => mine c ∨ c = b ∨ c = bw) w w' := by
  have HY := Lib.hid hy
  clear hy
  have hlt : o < cs.size := (Array.getElem?_eq_some_iff.1 ho).1
  have hgo : (cs.setIfInBounds o (.int .i64 y))[o]? = some (.int .i64 y) := by simp [hlt]
  have HGO := Lib.hid hgo
  have HO := Lib.hid ho
  clear hgo ho hlt
  by_cases h1 : lo ≤ y
  · have e1 : decide (lo ≤ y) = true := decide_eq_true h1
    by_cases h2 : y ≤ hi
    · have e2 : decide (y ≤ hi) = true := decide_eq_true h2
      have HIN := Lib.hid (show Re.inn y lo hi = true by unfold Re.inn; rw [e1, e2]; rfl)
      go_enter Try.func77, Try.ntmps77
      go_wp2_with (first | (go_at_call 89; refine (toldE_any hA h hp hx HO.out HY.out).mono ?_; rintro e w1 ⟨rfl, h1', hO⟩; have cx1 := (h1'.a.cell o).trans HGO.out) | (go_at_call 80; refine (hold_any h1'.w).mono ?_; rintro e w2 ⟨rfl, rfl⟩))
      refine bodyPost_end (results_none rfl _ _ _) rfl ⟨rfl, ?_, Out.set (hO.mono fun _ _ q => q.elim .inl fun q => .inr (.inl q)) (.inr (.inr rfl)) _ _⟩
      rw [HIN.out]
      simp only [Bool.not_true, Bool.or_false]
      exact Here.held hA h1' hp _
    · have e2 : decide (y ≤ hi) = false := decide_eq_false h2
      have HIN := Lib.hid (show Re.inn y lo hi = false by unfold Re.inn; rw [e1, e2]; rfl)
      go_enter Try.func77, Try.ntmps77
      go_wp2_with (first | (go_at_call 89; refine (toldE_any hA h hp hx HO.out HY.out).mono ?_; rintro e w1 ⟨rfl, h1', hO⟩; have cx1 := (h1'.a.cell o).trans HGO.out) | (go_at_call 80; refine (hold_any h1'.w).mono ?_; rintro e w2 ⟨rfl, rfl⟩))
      refine bodyPost_end (results_none rfl _ _ _) rfl ⟨rfl, ?_, Out.set (hO.mono fun _ _ q => q.elim .inl fun q => .inr (.inl q)) (.inr (.inr rfl)) _ _⟩
      rw [HIN.out]
      simp only [Bool.not_false, Bool.or_true]
      exact Here.held hA h1' hp _
  · have e1 : decide (lo ≤ y) = false := decide_eq_false h1
    have HIN := Lib.hid (show Re.inn y lo hi = false by unfold Re.inn; rw [e1]; rfl)
    go_enter Try.func77, Try.ntmps77
    go_wp2_with (first | (go_at_call 89; refine (toldE_any hA h hp hx HO.out HY.out).mono ?_; rintro e w1 ⟨rfl, h1', hO⟩; have cx1 := (h1'.a.cell o).trans HGO.out) | (go_at_call 80; refine (hold_any h1'.w).mono ?_; rintro e w2 ⟨rfl, rfl⟩))
    refine bodyPost_end (results_none rfl _ _ _) rfl ⟨rfl, ?_, Out.set (hO.mono fun _ _ q => q.elim .inl fun q => .inr (.inl q)) (.inr (.inr rfl)) _ _⟩
    rw [HIN.out]
    simp only [Bool.not_false, Bool.or_true]
    exact Here.held hA h1' hp _

end Go.Proofs.Ytbkocceemfhhbaa.Fix
