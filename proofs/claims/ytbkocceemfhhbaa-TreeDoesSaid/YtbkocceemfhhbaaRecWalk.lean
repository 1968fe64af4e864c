/- The contracts of the walk: a length, four lengths, four edges, what is true or false. -/
import Derived.Test.YtbkocceemfhhbaaRecTell
import Derived.Test.YtbkocceemfhhbaaLen
import Derived.Deep.Cut
namespace Go.Proofs.Ytbkocceemfhhbaa.Fix
open Go.ChangeShapes Go.WideShapes Go.ChangeAt Go.RowKit
set_option linter.unusedVariables false

theorem walklen_any {F : FuncId} {caps : Array Value} {f : Nat → Int → Int} {mine : Nat → Prop} {I : List Int → World → Prop} (hA : Asks F caps f mine I) {b o bw : Nat} {cs : Array Value} {T : TypeId} {wr : Bool} {x x2 y y2 : Int} {xs : List Int} {w : World}
    (h : Here F caps I bw b T cs wr xs w) (hp : Apart3 mine b bw) (hx : xs.length + 1 < 55) (ho : cs[o]? = some (.int .i64 x)) (ho2 : cs[o + 1]? = some (.int .i64 x2)) (hy : y = f xs.length x) (hy2 : y2 = f (xs.length + 1) x2) :
    Calls Try.prog 69 #[.pointer (some ⟨bw, 0, none⟩), .pointer (some ⟨b, o, none⟩)] w fun e w' => e = .returned (.tuple #[]) ∧ Here F caps I bw b T ((cs.setIfInBounds o (.int .i64 y)).setIfInBounds (o + 1) (.int .i64 y2)) (wr || !Fx.valid y y2) (xs ++ [x] ++ [x2]) w' ∧ Out (fun c => mine c ∨ c = b ∨ c = bw) w w' := by
  have HY := Lib.hid hy
  have HY2 := Lib.hid hy2
  clear hy hy2
  have hlt : o < cs.size := (Array.getElem?_eq_some_iff.1 ho).1
  have hlt2 : o + 1 < cs.size := (Array.getElem?_eq_some_iff.1 ho2).1
  have HO := Lib.hid ho
  have HO2 := Lib.hid (show (cs.setIfInBounds o (.int .i64 y))[o + 1]? = some (.int .i64 x2) by rw [Array.getElem?_setIfInBounds, if_neg (by omega)]; exact ho2)
  have G1 := Lib.hid (show ((cs.setIfInBounds o (.int .i64 y)).setIfInBounds (o + 1) (.int .i64 y2))[o]? = some (.int .i64 y) by rw [Array.getElem?_setIfInBounds, if_neg (by omega), Array.getElem?_setIfInBounds, if_pos rfl, if_pos hlt])
  have G2 := Lib.hid (show ((cs.setIfInBounds o (.int .i64 y)).setIfInBounds (o + 1) (.int .i64 y2))[o + 1]? = some (.int .i64 y2) by rw [Array.getElem?_setIfInBounds, if_pos rfl, Array.size_setIfInBounds, if_pos hlt2])
  have HX := Lib.hid hx
  have hx0 : xs.length < 55 := by omega
  clear ho ho2 hx
  go_enter Try.func69, Try.ntmps69
  go_wp2_with (first | (go_at_call 83; refine (toldL_any hA h hp hx0 HO.out HY.out).mono ?_; rintro e w1 ⟨rfl, h1, hO1⟩) | (go_at_call 84; refine (toldi_any hA h1 hp (by simp; exact HX.out) HO2.out (by simpa using HY2.out)).mono ?_; rintro e w2 ⟨rfl, h2, hO2⟩; have d1 := (h2.a.cell o).trans G1.out; have d2 := (h2.a.cell (o + 1)).trans G2.out) | (go_at_call 85; refine (valid_any _ _ _).mono ?_; rintro e w3 ⟨rfl, hb3⟩; have h3 := Here.keep hA h2 hb3) | (go_at_call 80; refine (hold_any h3.w).mono ?_; rintro e w2 ⟨rfl, rfl⟩))
  refine bodyPost_end (results_none rfl _ _ _) rfl ⟨rfl, ?_, Out.set (((hO1.trans hO2).trans (Out.of_below hb3)).mono fun _ _ q => q.elim .inl fun q => .inr (.inl q)) (.inr (.inr rfl)) _ _⟩
  exact Here.held hA h3 hp _

/-- On the way: k places gone through. -/
def On (F : FuncId) (caps : Array Value) (f : Nat → Int → Int) (I : List Int → World → Prop) (bw bs : Nat) (t : Re.St) (k : Nat) (wr : Bool) (W : World) : Prop := Here F caps I bw bs 43 (cells (mix f t k)) wr (ins t k) W

theorem onD_any {F : FuncId} {caps : Array Value} {f : Nat → Int → Int} {mine : Nat → Prop} {I : List Int → World → Prop} (hA : Asks F caps f mine I) {bs bw k : Nat} {t : Re.St} {wr : Bool} {lo hi : Int} {w : World} (h : On F caps f I bw bs t k wr w) (hp : Apart3 mine bs bw) (hk : k < 55) (hb : Re.isB k = false) :
    Calls Try.prog 66 #[.pointer (some ⟨bw, 0, none⟩), .pointer (some ⟨bs, k, none⟩), .int .i64 lo, .int .i64 hi] w fun e w' => e = .returned (.tuple #[]) ∧ On F caps f I bw bs t (k + 1) (wr || !Re.inn (f k (Re.num t k)) lo hi) w' ∧ Out (fun c => mine c ∨ c = bs ∨ c = bw) w w' := by
  refine (withinD_any hA h hp (by rw [ins_len]; exact hk) (x := t.c k) (by rw [cells_int _ hk hb, mix_ge f t (Nat.le_refl k)]) rfl).mono ?_
  rintro e w' ⟨rfl, h1, hO⟩
  rw [ins_len, mix_set_int f t hb, ← Re.num_c hb, ← ins_succ] at h1
  exact ⟨rfl, h1, hO⟩

theorem onP_any {F : FuncId} {caps : Array Value} {f : Nat → Int → Int} {mine : Nat → Prop} {I : List Int → World → Prop} (hA : Asks F caps f mine I) {bs bw k : Nat} {t : Re.St} {wr : Bool} {lo hi : Int} {w : World} (h : On F caps f I bw bs t k wr w) (hp : Apart3 mine bs bw) (hk : k < 55) (hb : Re.isB k = false) :
    Calls Try.prog 67 #[.pointer (some ⟨bw, 0, none⟩), .pointer (some ⟨bs, k, none⟩), .int .i64 lo, .int .i64 hi] w fun e w' => e = .returned (.tuple #[]) ∧ On F caps f I bw bs t (k + 1) (wr || !Re.inn (f k (Re.num t k)) lo hi) w' ∧ Out (fun c => mine c ∨ c = bs ∨ c = bw) w w' := by
  refine (withinP_any hA h hp (by rw [ins_len]; exact hk) (x := t.c k) (by rw [cells_int _ hk hb, mix_ge f t (Nat.le_refl k)]) rfl).mono ?_
  rintro e w' ⟨rfl, h1, hO⟩
  rw [ins_len, mix_set_int f t hb, ← Re.num_c hb, ← ins_succ] at h1
  exact ⟨rfl, h1, hO⟩

theorem onO_any {F : FuncId} {caps : Array Value} {f : Nat → Int → Int} {mine : Nat → Prop} {I : List Int → World → Prop} (hA : Asks F caps f mine I) {bs bw k : Nat} {t : Re.St} {wr : Bool} {lo hi : Int} {w : World} (h : On F caps f I bw bs t k wr w) (hp : Apart3 mine bs bw) (hk : k < 55) (hb : Re.isB k = false) :
    Calls Try.prog 68 #[.pointer (some ⟨bw, 0, none⟩), .pointer (some ⟨bs, k, none⟩), .int .i64 lo, .int .i64 hi] w fun e w' => e = .returned (.tuple #[]) ∧ On F caps f I bw bs t (k + 1) (wr || !Re.inn (f k (Re.num t k)) lo hi) w' ∧ Out (fun c => mine c ∨ c = bs ∨ c = bw) w w' := by
  refine (withinO_any hA h hp (by rw [ins_len]; exact hk) (x := t.c k) (by rw [cells_int _ hk hb, mix_ge f t (Nat.le_refl k)]) rfl).mono ?_
  rintro e w' ⟨rfl, h1, hO⟩
  rw [ins_len, mix_set_int f t hb, ← Re.num_c hb, ← ins_succ] at h1
  exact ⟨rfl, h1, hO⟩

theorem oni_any {F : FuncId} {caps : Array Value} {f : Nat → Int → Int} {mine : Nat → Prop} {I : List Int → World → Prop} (hA : Asks F caps f mine I) {bs bw k : Nat} {t : Re.St} {wr : Bool} {lo hi : Int} {w : World} (h : On F caps f I bw bs t k wr w) (hp : Apart3 mine bs bw) (hk : k < 55) (hb : Re.isB k = false) :
    Calls Try.prog 72 #[.pointer (some ⟨bw, 0, none⟩), .pointer (some ⟨bs, k, none⟩), .int .i64 lo, .int .i64 hi] w fun e w' => e = .returned (.tuple #[]) ∧ On F caps f I bw bs t (k + 1) (wr || !Re.inn (f k (Re.num t k)) lo hi) w' ∧ Out (fun c => mine c ∨ c = bs ∨ c = bw) w w' := by
  refine (withini_any hA h hp (by rw [ins_len]; exact hk) (x := t.c k) (by rw [cells_int _ hk hb, mix_ge f t (Nat.le_refl k)]) rfl).mono ?_
  rintro e w' ⟨rfl, h1, hO⟩
  rw [ins_len, mix_set_int f t hb, ← Re.num_c hb, ← ins_succ] at h1
  exact ⟨rfl, h1, hO⟩

theorem onJ_any {F : FuncId} {caps : Array Value} {f : Nat → Int → Int} {mine : Nat → Prop} {I : List Int → World → Prop} (hA : Asks F caps f mine I) {bs bw k : Nat} {t : Re.St} {wr : Bool} {lo hi : Int} {w : World} (h : On F caps f I bw bs t k wr w) (hp : Apart3 mine bs bw) (hk : k < 55) (hb : Re.isB k = false) :
    Calls Try.prog 73 #[.pointer (some ⟨bw, 0, none⟩), .pointer (some ⟨bs, k, none⟩), .int .i64 lo, .int .i64 hi] w fun e w' => e = .returned (.tuple #[]) ∧ On F caps f I bw bs t (k + 1) (wr || !Re.inn (f k (Re.num t k)) lo hi) w' ∧ Out (fun c => mine c ∨ c = bs ∨ c = bw) w w' := by
  refine (withinJ_any hA h hp (by rw [ins_len]; exact hk) (x := t.c k) (by rw [cells_int _ hk hb, mix_ge f t (Nat.le_refl k)]) rfl).mono ?_
  rintro e w' ⟨rfl, h1, hO⟩
  rw [ins_len, mix_set_int f t hb, ← Re.num_c hb, ← ins_succ] at h1
  exact ⟨rfl, h1, hO⟩

theorem onA_any {F : FuncId} {caps : Array Value} {f : Nat → Int → Int} {mine : Nat → Prop} {I : List Int → World → Prop} (hA : Asks F caps f mine I) {bs bw k : Nat} {t : Re.St} {wr : Bool} {lo hi : Int} {w : World} (h : On F caps f I bw bs t k wr w) (hp : Apart3 mine bs bw) (hk : k < 55) (hb : Re.isB k = false) :
    Calls Try.prog 74 #[.pointer (some ⟨bw, 0, none⟩), .pointer (some ⟨bs, k, none⟩), .int .i64 lo, .int .i64 hi] w fun e w' => e = .returned (.tuple #[]) ∧ On F caps f I bw bs t (k + 1) (wr || !Re.inn (f k (Re.num t k)) lo hi) w' ∧ Out (fun c => mine c ∨ c = bs ∨ c = bw) w w' := by
  refine (withinA_any hA h hp (by rw [ins_len]; exact hk) (x := t.c k) (by rw [cells_int _ hk hb, mix_ge f t (Nat.le_refl k)]) rfl).mono ?_
  rintro e w' ⟨rfl, h1, hO⟩
  rw [ins_len, mix_set_int f t hb, ← Re.num_c hb, ← ins_succ] at h1
  exact ⟨rfl, h1, hO⟩

theorem onK_any {F : FuncId} {caps : Array Value} {f : Nat → Int → Int} {mine : Nat → Prop} {I : List Int → World → Prop} (hA : Asks F caps f mine I) {bs bw k : Nat} {t : Re.St} {wr : Bool} {lo hi : Int} {w : World} (h : On F caps f I bw bs t k wr w) (hp : Apart3 mine bs bw) (hk : k < 55) (hb : Re.isB k = false) :
    Calls Try.prog 76 #[.pointer (some ⟨bw, 0, none⟩), .pointer (some ⟨bs, k, none⟩), .int .i64 lo, .int .i64 hi] w fun e w' => e = .returned (.tuple #[]) ∧ On F caps f I bw bs t (k + 1) (wr || !Re.inn (f k (Re.num t k)) lo hi) w' ∧ Out (fun c => mine c ∨ c = bs ∨ c = bw) w w' := by
  refine (withinK_any hA h hp (by rw [ins_len]; exact hk) (x := t.c k) (by rw [cells_int _ hk hb, mix_ge f t (Nat.le_refl k)]) rfl).mono ?_
  rintro e w' ⟨rfl, h1, hO⟩
  rw [ins_len, mix_set_int f t hb, ← Re.num_c hb, ← ins_succ] at h1
  exact ⟨rfl, h1, hO⟩

theorem onE_any {F : FuncId} {caps : Array Value} {f : Nat → Int → Int} {mine : Nat → Prop} {I : List Int → World → Prop} (hA : Asks F caps f mine I) {bs bw k : Nat} {t : Re.St} {wr : Bool} {lo hi : Int} {w : World} (h : On F caps f I bw bs t k wr w) (hp : Apart3 mine bs bw) (hk : k < 55) (hb : Re.isB k = false) :
    Calls Try.prog 77 #[.pointer (some ⟨bw, 0, none⟩), .pointer (some ⟨bs, k, none⟩), .int .i64 lo, .int .i64 hi] w fun e w' => e = .returned (.tuple #[]) ∧ On F caps f I bw bs t (k + 1) (wr || !Re.inn (f k (Re.num t k)) lo hi) w' ∧ Out (fun c => mine c ∨ c = bs ∨ c = bw) w w' := by
  refine (withinE_any hA h hp (by rw [ins_len]; exact hk) (x := t.c k) (by rw [cells_int _ hk hb, mix_ge f t (Nat.le_refl k)]) rfl).mono ?_
  rintro e w' ⟨rfl, h1, hO⟩
  rw [ins_len, mix_set_int f t hb, ← Re.num_c hb, ← ins_succ] at h1
  exact ⟨rfl, h1, hO⟩

theorem onlen_any {F : FuncId} {caps : Array Value} {f : Nat → Int → Int} {mine : Nat → Prop} {I : List Int → World → Prop} (hA : Asks F caps f mine I) {bs bw k : Nat} {t : Re.St} {wr : Bool} {w : World} (h : On F caps f I bw bs t k wr w) (hp : Apart3 mine bs bw) (hk : k + 1 < 55) (hb : Re.isB k = false) (hb2 : Re.isB (k + 1) = false) :
    Calls Try.prog 69 #[.pointer (some ⟨bw, 0, none⟩), .pointer (some ⟨bs, k, none⟩)] w fun e w' => e = .returned (.tuple #[]) ∧ On F caps f I bw bs t (k + 1 + 1) (wr || !Fx.valid (f k (Re.num t k)) (f (k + 1) (Re.num t (k + 1)))) w' ∧ Out (fun c => mine c ∨ c = bs ∨ c = bw) w w' := by
  refine (walklen_any hA h hp (by rw [ins_len]; exact hk) (x := t.c k) (x2 := t.c (k + 1)) (by rw [cells_int _ (by omega) hb, mix_ge f t (Nat.le_refl k)]) (by rw [cells_int _ hk hb2, mix_ge f t (by omega)]) rfl rfl).mono ?_
  rintro e w' ⟨rfl, h1, hO⟩
  rw [ins_len, mix_set_int f t hb, mix_set_int f t hb2, ← Re.num_c hb, ← Re.num_c hb2, ← ins_succ, ← ins_succ] at h1
  exact ⟨rfl, h1, hO⟩

end Go.Proofs.Ytbkocceemfhhbaa.Fix
