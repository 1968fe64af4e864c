/- What the frame hands on: a style by value, slices of integers; two styles compared. -/
import Derived.Test.YtbkocceemfhhbaaRecSt
import Derived.Test.YtbkocceemfhhbaaRow
import Derived.DeepKeys
import Derived.Laws.StructEq
import Derived.OpenShut
import Derived.ProofKit
import Derived.Lib.SmallJoins
namespace Go.Proofs.Ytbkocceemfhhbaa.Fix
open Go.ChangeShapes Go.WideShapes Go.ChangeAt Go.RowKit Go.Joins
set_option linter.unusedVariables false
set_option maxRecDepth 100000

/-- What the frame hands on of a slice of integers. -/
def Row (w : World) (a : Option Addr) (len cap : Nat) (zs : List Int) : Prop :=
  (a = none ∧ len = 0 ∧ cap = 0 ∧ zs = []) ∨ ∃ x, a = some x ∧ len ≤ cap ∧ cap ≤ maxLen ∧ zs.length = cap ∧ (∀ i, i < zs.length → w.cell? (x.add i) = some (.int .i64 (zs.getD i 0))) ∧ ∀ n ∈ zs, (Lit.int .i64 n).wf = true

/-- What is at a place of a style. -/
def okAt (i : Nat) (v : Value) : Prop := if Re.isB i = true then ∃ b, v = .bool b else ∃ n : Int, v = .int .i64 n ∧ (Lit.int .i64 n).wf = true
/-- The numbers of a style fit. -/
def Fits (s : Re.St) : Prop := ∀ i, i < 55 → Re.isB i = false → (Lit.int .i64 (s.c i)).wf = true

theorem okAt_int {i : Nat} {n : Int} (hb : Re.isB i = false) (h : (Lit.int .i64 n).wf = true) : okAt i (.int .i64 n) := by
  unfold okAt; rw [if_neg (by simp [hb])]; exact ⟨n, rfl, h⟩
theorem okAt_bool {i : Nat} {b : Bool} (hb : Re.isB i = true) : okAt i (.bool b) := by
  unfold okAt; rw [if_pos hb]; exact ⟨b, rfl⟩

theorem rc_int : Try.prog.cellsOf 3 = 1 := by kernel_rfl
theorem rc_bool : Try.prog.cellsOf 4 = 1 := by kernel_rfl
theorem rc_api_Align : Try.prog.cellsOf 38 = 1 := by kernel_rfl
theorem rc_api_Display : Try.prog.cellsOf 29 = 1 := by kernel_rfl
theorem rc_api_Justify : Try.prog.cellsOf 37 = 1 := by kernel_rfl
theorem rc_api_LenKind : Try.prog.cellsOf 32 = 1 := by kernel_rfl
theorem rc_api_Overflow : Try.prog.cellsOf 31 = 1 := by kernel_rfl
theorem rc_api_Position : Try.prog.cellsOf 30 = 1 := by kernel_rfl
theorem rc_api_SnapAlign : Try.prog.cellsOf 40 = 1 := by kernel_rfl
theorem rc_api_SnapKind : Try.prog.cellsOf 39 = 1 := by kernel_rfl
theorem rc_api_Len : Try.prog.cellsOf 34 = 2 := by kernel_rfl
theorem rc_4api_Len : Try.prog.cellsOf 35 = 8 := by kernel_rfl
theorem rc_4int : Try.prog.cellsOf 36 = 4 := by kernel_rfl
theorem rc_2int : Try.prog.cellsOf 41 = 2 := by kernel_rfl
theorem rc_api_Style : Try.prog.cellsOf 43 = 55 := by kernel_rfl

/-- One cell out of a part of a list. -/
theorem part_one {cs : List Value} {o : Nat} {v : Value} (h : (cs.drop o).take 1 = [v]) : cs[o]? = some v := by
  have := congrArg (fun l : List Value => l[0]?) h
  simpa [List.getElem?_take, List.getElem?_drop] using this
theorem part_sub {cs : List Value} {o n j m : Nat} (h : j + m ≤ n) : (((cs.drop o).take n).drop j).take m = (cs.drop (o + j)).take m := by
  rw [List.drop_take, List.take_take, Nat.min_eq_left (by omega), List.drop_drop]

section
variable {H : Type} {enc : TypeId × Value → H} {w : World} {base : Nat} {spare : Nat → Bool} {held : Bool}

theorem cell_of_int {n : Nat} {t : TypeId} {cs : List Value} {o : Nat} {y : DataW H × List MemPlace} (ht : Try.prog.underlying t = some (.int .i64)) (hb : Re.isB o = false) (h : DataW.trod enc Try.prog w base spare held n t ((cs.drop o).take 1) = some y) : ∃ v, cs[o]? = some v ∧ okAt o v := by
  obtain ⟨a, e, _, wf⟩ := DataW.trod_int ht h
  exact ⟨_, part_one e, okAt_int hb wf⟩
theorem cell_of_bool {n : Nat} {cs : List Value} {o : Nat} {y : DataW H × List MemPlace} (hb : Re.isB o = true) (h : DataW.trod enc Try.prog w base spare held n 4 ((cs.drop o).take 1) = some y) : ∃ v, cs[o]? = some v ∧ okAt o v := by
  obtain ⟨a, e, _⟩ := DataW.trod_bool Try.underlying4 h
  exact ⟨_, part_one e, okAt_bool hb⟩
theorem cells_of_len {n : Nat} {cs : List Value} {o : Nat} {y : DataW H × List MemPlace} (h0 : Re.isB o = false) (h1 : Re.isB (o + 1) = false) (h : DataW.trod enc Try.prog w base spare held n 34 ((cs.drop o).take 2) = some y) : (∃ v, cs[o]? = some v ∧ okAt o v) ∧ ∃ v, cs[o + 1]? = some v ∧ okAt (o + 1) v := by
  obtain ⟨xs, k, rfl, _, _, hxl, hf⟩ := DataW.trod_struct Try.underlying34 h
  match xs, hxl with
  | [y0, y1], _ =>
    have g0 : DataW.trod enc Try.prog w base spare held k 32 ((((cs.drop o).take 2).drop 0).take (Try.prog.cellsOf 32)) = some y0 := hf 0 _ rfl
    have g1 : DataW.trod enc Try.prog w base spare held k 3 ((((cs.drop o).take 2).drop 1).take (Try.prog.cellsOf 3)) = some y1 := hf 1 _ rfl
    rw [rc_api_LenKind, part_sub (by omega)] at g0
    rw [rc_int, part_sub (by omega)] at g1
    exact ⟨cell_of_int Try.underlying32 h0 g0, cell_of_int Try.underlying3 h1 g1⟩
theorem cells_of_lens {n : Nat} {cs : List Value} {o : Nat} {y : DataW H × List MemPlace} (hb : ∀ j, j < 8 → Re.isB (o + j) = false) (h : DataW.trod enc Try.prog w base spare held n 35 ((cs.drop o).take 8) = some y) : ∀ j, j < 8 → ∃ v, cs[o + j]? = some v ∧ okAt (o + j) v := by
  obtain ⟨xs, k, rfl, _, _, hxl, hf⟩ := DataW.trod_array Try.underlying35 h
  have key : ∀ i, i < 4 → (∃ v, cs[o + i * 2]? = some v ∧ okAt (o + i * 2) v) ∧ ∃ v, cs[o + i * 2 + 1]? = some v ∧ okAt (o + i * 2 + 1) v := by
    intro i hi
    have g := hf i hi
    rw [rc_api_Len, part_sub (by omega), List.getElem?_eq_getElem (by omega)] at g
    exact cells_of_len (hb (i * 2) (by omega)) (hb (i * 2 + 1) (by omega)) g
  intro j hj
  have : j = j / 2 * 2 ∨ j = j / 2 * 2 + 1 := by omega
  rcases this with e | e
  · rw [e]; exact (key (j / 2) (by omega)).1
  · rw [e]; exact (key (j / 2) (by omega)).2
theorem cells_of_ints {n m sz : Nat} {t : TypeId} {cs : List Value} {o : Nat} {y : DataW H × List MemPlace} (ht : Try.prog.underlying t = some (.array m 3)) (hb : ∀ j, j < m → Re.isB (o + j) = false) (h : DataW.trod enc Try.prog w base spare held n t ((cs.drop o).take m) = some y) : ∀ j, j < m → ∃ v, cs[o + j]? = some v ∧ okAt (o + j) v := by
  obtain ⟨xs, k, rfl, _, _, hxl, hf⟩ := DataW.trod_array ht h
  intro i hi
  have g := hf i hi
  rw [rc_int, part_sub (by omega), List.getElem?_eq_getElem (by omega), Nat.mul_one] at g
  exact cell_of_int Try.underlying3 (hb i hi) g

set_option maxRecDepth 10000 in
/-- A style, read. -/
theorem trod_style {n : Nat} {cs : List Value} {y : DataW H × List MemPlace} (h : DataW.trod enc Try.prog w base spare held n 43 cs = some y) : cs.length = 55 ∧ ∀ i, i < 55 → ∃ v, cs[i]? = some v ∧ okAt i v := by
  obtain ⟨xs, k, rfl, _, hl, hxl, hf⟩ := DataW.trod_struct Try.underlying43 h
  rw [rc_api_Style] at hl
  refine ⟨hl, ?_⟩
  have ex : ∀ i, i < 27 → ∃ y, xs[i]? = some y := fun i hi => ⟨_, List.getElem?_eq_getElem (by rw [hxl]; exact hi)⟩
  obtain ⟨y0, q0⟩ := ex 0 (by decide)
  have g0 : DataW.trod enc Try.prog w base spare held k 29 ((cs.drop 0).take (Try.prog.cellsOf 29)) = some y0 := (hf 0 _ rfl).trans q0
  rw [rc_api_Display] at g0
  have r0 := cell_of_int (o := 0) Try.underlying29 rfl g0
  obtain ⟨y1, q1⟩ := ex 1 (by decide)
  have g1 : DataW.trod enc Try.prog w base spare held k 30 ((cs.drop 1).take (Try.prog.cellsOf 30)) = some y1 := (hf 1 _ rfl).trans q1
  rw [rc_api_Position] at g1
  have r1 := cell_of_int (o := 1) Try.underlying30 rfl g1
  obtain ⟨y2, q2⟩ := ex 2 (by decide)
  have g2 : DataW.trod enc Try.prog w base spare held k 31 ((cs.drop 2).take (Try.prog.cellsOf 31)) = some y2 := (hf 2 _ rfl).trans q2
  rw [rc_api_Overflow] at g2
  have r2 := cell_of_int (o := 2) Try.underlying31 rfl g2
  obtain ⟨y3, q3⟩ := ex 3 (by decide)
  have g3 : DataW.trod enc Try.prog w base spare held k 34 ((cs.drop 3).take (Try.prog.cellsOf 34)) = some y3 := (hf 3 _ rfl).trans q3
  rw [rc_api_Len] at g3
  have r3 := cells_of_len (o := 3) rfl rfl g3
  obtain ⟨y4, q4⟩ := ex 4 (by decide)
  have g4 : DataW.trod enc Try.prog w base spare held k 34 ((cs.drop 5).take (Try.prog.cellsOf 34)) = some y4 := (hf 4 _ rfl).trans q4
  rw [rc_api_Len] at g4
  have r4 := cells_of_len (o := 5) rfl rfl g4
  obtain ⟨y5, q5⟩ := ex 5 (by decide)
  have g5 : DataW.trod enc Try.prog w base spare held k 34 ((cs.drop 7).take (Try.prog.cellsOf 34)) = some y5 := (hf 5 _ rfl).trans q5
  rw [rc_api_Len] at g5
  have r5 := cells_of_len (o := 7) rfl rfl g5
  obtain ⟨y6, q6⟩ := ex 6 (by decide)
  have g6 : DataW.trod enc Try.prog w base spare held k 34 ((cs.drop 9).take (Try.prog.cellsOf 34)) = some y6 := (hf 6 _ rfl).trans q6
  rw [rc_api_Len] at g6
  have r6 := cells_of_len (o := 9) rfl rfl g6
  obtain ⟨y7, q7⟩ := ex 7 (by decide)
  have g7 : DataW.trod enc Try.prog w base spare held k 34 ((cs.drop 11).take (Try.prog.cellsOf 34)) = some y7 := (hf 7 _ rfl).trans q7
  rw [rc_api_Len] at g7
  have r7 := cells_of_len (o := 11) rfl rfl g7
  obtain ⟨y8, q8⟩ := ex 8 (by decide)
  have g8 : DataW.trod enc Try.prog w base spare held k 34 ((cs.drop 13).take (Try.prog.cellsOf 34)) = some y8 := (hf 8 _ rfl).trans q8
  rw [rc_api_Len] at g8
  have r8 := cells_of_len (o := 13) rfl rfl g8
  obtain ⟨y9, q9⟩ := ex 9 (by decide)
  have g9 : DataW.trod enc Try.prog w base spare held k 35 ((cs.drop 15).take (Try.prog.cellsOf 35)) = some y9 := (hf 9 _ rfl).trans q9
  rw [rc_4api_Len] at g9
  have r9 := cells_of_lens (o := 15) (by decide) g9
  obtain ⟨y10, q10⟩ := ex 10 (by decide)
  have g10 : DataW.trod enc Try.prog w base spare held k 35 ((cs.drop 23).take (Try.prog.cellsOf 35)) = some y10 := (hf 10 _ rfl).trans q10
  rw [rc_4api_Len] at g10
  have r10 := cells_of_lens (o := 23) (by decide) g10
  obtain ⟨y11, q11⟩ := ex 11 (by decide)
  have g11 : DataW.trod enc Try.prog w base spare held k 36 ((cs.drop 31).take (Try.prog.cellsOf 36)) = some y11 := (hf 11 _ rfl).trans q11
  rw [rc_4int] at g11
  have r11 := cells_of_ints (o := 31) (m := 4) (sz := 1) Try.underlying36 (by decide) g11
  obtain ⟨y12, q12⟩ := ex 12 (by decide)
  have g12 : DataW.trod enc Try.prog w base spare held k 36 ((cs.drop 35).take (Try.prog.cellsOf 36)) = some y12 := (hf 12 _ rfl).trans q12
  rw [rc_4int] at g12
  have r12 := cells_of_ints (o := 35) (m := 4) (sz := 1) Try.underlying36 (by decide) g12
  obtain ⟨y13, q13⟩ := ex 13 (by decide)
  have g13 : DataW.trod enc Try.prog w base spare held k 3 ((cs.drop 39).take (Try.prog.cellsOf 3)) = some y13 := (hf 13 _ rfl).trans q13
  rw [rc_int] at g13
  have r13 := cell_of_int (o := 39) Try.underlying3 rfl g13
  obtain ⟨y14, q14⟩ := ex 14 (by decide)
  have g14 : DataW.trod enc Try.prog w base spare held k 3 ((cs.drop 40).take (Try.prog.cellsOf 3)) = some y14 := (hf 14 _ rfl).trans q14
  rw [rc_int] at g14
  have r14 := cell_of_int (o := 40) Try.underlying3 rfl g14
  obtain ⟨y15, q15⟩ := ex 15 (by decide)
  have g15 : DataW.trod enc Try.prog w base spare held k 34 ((cs.drop 41).take (Try.prog.cellsOf 34)) = some y15 := (hf 15 _ rfl).trans q15
  rw [rc_api_Len] at g15
  have r15 := cells_of_len (o := 41) rfl rfl g15
  obtain ⟨y16, q16⟩ := ex 16 (by decide)
  have g16 : DataW.trod enc Try.prog w base spare held k 37 ((cs.drop 43).take (Try.prog.cellsOf 37)) = some y16 := (hf 16 _ rfl).trans q16
  rw [rc_api_Justify] at g16
  have r16 := cell_of_int (o := 43) Try.underlying37 rfl g16
  obtain ⟨y17, q17⟩ := ex 17 (by decide)
  have g17 : DataW.trod enc Try.prog w base spare held k 38 ((cs.drop 44).take (Try.prog.cellsOf 38)) = some y17 := (hf 17 _ rfl).trans q17
  rw [rc_api_Align] at g17
  have r17 := cell_of_int (o := 44) Try.underlying38 rfl g17
  obtain ⟨y18, q18⟩ := ex 18 (by decide)
  have g18 : DataW.trod enc Try.prog w base spare held k 4 ((cs.drop 45).take (Try.prog.cellsOf 4)) = some y18 := (hf 18 _ rfl).trans q18
  rw [rc_bool] at g18
  have r18 := cell_of_bool (o := 45) rfl g18
  obtain ⟨y19, q19⟩ := ex 19 (by decide)
  have g19 : DataW.trod enc Try.prog w base spare held k 3 ((cs.drop 46).take (Try.prog.cellsOf 3)) = some y19 := (hf 19 _ rfl).trans q19
  rw [rc_int] at g19
  have r19 := cell_of_int (o := 46) Try.underlying3 rfl g19
  obtain ⟨y20, q20⟩ := ex 20 (by decide)
  have g20 : DataW.trod enc Try.prog w base spare held k 4 ((cs.drop 47).take (Try.prog.cellsOf 4)) = some y20 := (hf 20 _ rfl).trans q20
  rw [rc_bool] at g20
  have r20 := cell_of_bool (o := 47) rfl g20
  obtain ⟨y21, q21⟩ := ex 21 (by decide)
  have g21 : DataW.trod enc Try.prog w base spare held k 3 ((cs.drop 48).take (Try.prog.cellsOf 3)) = some y21 := (hf 21 _ rfl).trans q21
  rw [rc_int] at g21
  have r21 := cell_of_int (o := 48) Try.underlying3 rfl g21
  obtain ⟨y22, q22⟩ := ex 22 (by decide)
  have g22 : DataW.trod enc Try.prog w base spare held k 39 ((cs.drop 49).take (Try.prog.cellsOf 39)) = some y22 := (hf 22 _ rfl).trans q22
  rw [rc_api_SnapKind] at g22
  have r22 := cell_of_int (o := 49) Try.underlying39 rfl g22
  obtain ⟨y23, q23⟩ := ex 23 (by decide)
  have g23 : DataW.trod enc Try.prog w base spare held k 40 ((cs.drop 50).take (Try.prog.cellsOf 40)) = some y23 := (hf 23 _ rfl).trans q23
  rw [rc_api_SnapAlign] at g23
  have r23 := cell_of_int (o := 50) Try.underlying40 rfl g23
  obtain ⟨y24, q24⟩ := ex 24 (by decide)
  have g24 : DataW.trod enc Try.prog w base spare held k 4 ((cs.drop 51).take (Try.prog.cellsOf 4)) = some y24 := (hf 24 _ rfl).trans q24
  rw [rc_bool] at g24
  have r24 := cell_of_bool (o := 51) rfl g24
  obtain ⟨y25, q25⟩ := ex 25 (by decide)
  have g25 : DataW.trod enc Try.prog w base spare held k 4 ((cs.drop 52).take (Try.prog.cellsOf 4)) = some y25 := (hf 25 _ rfl).trans q25
  rw [rc_bool] at g25
  have r25 := cell_of_bool (o := 52) rfl g25
  obtain ⟨y26, q26⟩ := ex 26 (by decide)
  have g26 : DataW.trod enc Try.prog w base spare held k 41 ((cs.drop 53).take (Try.prog.cellsOf 41)) = some y26 := (hf 26 _ rfl).trans q26
  rw [rc_2int] at g26
  have r26 := cells_of_ints (o := 53) (m := 2) (sz := 1) Try.underlying41 (by decide) g26
  intro i hi
  match i, hi with
  | 0, _ => exact r0
  | 1, _ => exact r1
  | 2, _ => exact r2
  | 3, _ => exact r3.1
  | 4, _ => exact r3.2
  | 5, _ => exact r4.1
  | 6, _ => exact r4.2
  | 7, _ => exact r5.1
  | 8, _ => exact r5.2
  | 9, _ => exact r6.1
  | 10, _ => exact r6.2
  | 11, _ => exact r7.1
  | 12, _ => exact r7.2
  | 13, _ => exact r8.1
  | 14, _ => exact r8.2
  | 15, _ => exact r9 0 (by decide)
  | 16, _ => exact r9 1 (by decide)
  | 17, _ => exact r9 2 (by decide)
  | 18, _ => exact r9 3 (by decide)
  | 19, _ => exact r9 4 (by decide)
  | 20, _ => exact r9 5 (by decide)
  | 21, _ => exact r9 6 (by decide)
  | 22, _ => exact r9 7 (by decide)
  | 23, _ => exact r10 0 (by decide)
  | 24, _ => exact r10 1 (by decide)
  | 25, _ => exact r10 2 (by decide)
  | 26, _ => exact r10 3 (by decide)
  | 27, _ => exact r10 4 (by decide)
  | 28, _ => exact r10 5 (by decide)
  | 29, _ => exact r10 6 (by decide)
  | 30, _ => exact r10 7 (by decide)
  | 31, _ => exact r11 0 (by decide)
  | 32, _ => exact r11 1 (by decide)
  | 33, _ => exact r11 2 (by decide)
  | 34, _ => exact r11 3 (by decide)
  | 35, _ => exact r12 0 (by decide)
  | 36, _ => exact r12 1 (by decide)
  | 37, _ => exact r12 2 (by decide)
  | 38, _ => exact r12 3 (by decide)
  | 39, _ => exact r13
  | 40, _ => exact r14
  | 41, _ => exact r15.1
  | 42, _ => exact r15.2
  | 43, _ => exact r16
  | 44, _ => exact r17
  | 45, _ => exact r18
  | 46, _ => exact r19
  | 47, _ => exact r20
  | 48, _ => exact r21
  | 49, _ => exact r22
  | 50, _ => exact r23
  | 51, _ => exact r24
  | 52, _ => exact r25
  | 53, _ => exact r26 0 (by decide)
  | 54, _ => exact r26 1 (by decide)
  | n + 55, h => exact absurd h (by omega)

/-- A style by value. -/
theorem open_style {cs : Array Value} {d : DataW H} {p : List MemPlace} (h : DataW.Trod enc Try.prog w base spare held 43 (.agg cs) d p) : ∃ s : Re.St, Value.agg cs = .agg (cells s) ∧ Fits s := by
  obtain ⟨fuel, hf⟩ := h
  obtain ⟨hl, hc⟩ := trod_style hf
  simp only [Value.cells] at hl hc
  refine ⟨⟨fun i => match cs[i]? with | some (.int _ n) => n | _ => 0, fun i => match cs[i]? with | some (.bool b) => b | _ => false⟩, ?_, ?_⟩
  · congr 1
    apply Array.ext_getElem?
    intro i
    by_cases hi : i < 55
    · obtain ⟨v, hv, ok⟩ := hc i hi
      rw [Array.getElem?_toList] at hv
      rw [cells_get _ hi, hv]
      unfold okAt at ok
      unfold cell
      by_cases hb : Re.isB i = true
      · rw [if_pos hb] at ok ⊢
        obtain ⟨b, rfl⟩ := ok
        simp [hv]
      · rw [if_neg hb] at ok ⊢
        obtain ⟨b, rfl, _⟩ := ok
        simp [hv]
    · rw [Array.getElem?_eq_none (by rw [← Array.length_toList, hl]; omega), Array.getElem?_eq_none (by rw [cells_size]; omega)]
  · intro i hi hb
    obtain ⟨v, hv, ok⟩ := hc i hi
    rw [Array.getElem?_toList] at hv
    unfold okAt at ok
    rw [if_neg (by simp [hb])] at ok
    obtain ⟨n, rfl, hw⟩ := ok
    simp only [hv]
    exact hw
end

/-- The letters of a style, place by place. -/
def litAt (s : Re.St) (i : Nat) : Lit := if Re.isB i = true then .bool (s.b i) else .int .i64 (s.c i)
def lits (s : Re.St) : List Lit := (List.range 55).map (litAt s)
theorem lits_eq {s t : Re.St} : lits s = lits t ↔ Re.same s t := by
  constructor
  · intro h i hi
    have := congrArg (fun l : List Lit => l[i]?) h
    simp only [lits, List.getElem?_map, List.getElem?_range hi, Option.map_some, Option.some.injEq, litAt] at this
    by_cases e : Re.isB i = true
    · rw [if_pos e] at this ⊢; rw [if_pos e] at this; injection this
    · rw [if_neg e] at this ⊢; rw [if_neg e] at this; injection this
  · intro h
    unfold lits
    refine List.map_congr_left fun i hi => ?_
    have := h i (List.mem_range.1 hi)
    unfold litAt
    by_cases e : Re.isB i = true
    · rw [if_pos e] at this ⊢; rw [if_pos e, this]
    · rw [if_neg e] at this ⊢; rw [if_neg e, this]

theorem kl_int {n : Nat} {t : TypeId} {x : Int} (ht : Try.prog.underlying t = some (.int .i64)) (h : (Lit.int .i64 x).wf = true) : Try.prog.keyLits (n + 1) t [.int .i64 x] = some [.int .i64 x] := by
  unfold Program.keyLits; rw [ht]; simp [h]
theorem kl_bool {n : Nat} {b : Bool} : Try.prog.keyLits (n + 1) 4 [.bool b] = some [.bool b] := by
  unfold Program.keyLits; rw [Try.underlying4]
theorem kl_len {n : Nat} {x y : Int} (hx : (Lit.int .i64 x).wf = true) (hy : (Lit.int .i64 y).wf = true) : Try.prog.keyLits (n + 1 + 1) 34 [.int .i64 x, .int .i64 y] = some [.int .i64 x, .int .i64 y] := by
  unfold Program.keyLits; rw [Try.underlying34]
  simp [rc_api_Len, rc_int, rc_api_LenKind, kl_int Try.underlying32 hx, kl_int Try.underlying3 hy]
theorem kl_lens {n : Nat} {a b c d e f g h : Int} (ha : (Lit.int .i64 a).wf = true) (hb : (Lit.int .i64 b).wf = true) (hc : (Lit.int .i64 c).wf = true) (hd : (Lit.int .i64 d).wf = true) (he : (Lit.int .i64 e).wf = true) (hf : (Lit.int .i64 f).wf = true) (hg : (Lit.int .i64 g).wf = true) (hh : (Lit.int .i64 h).wf = true) :
    Try.prog.keyLits (n + 1 + 1 + 1) 35 [.int .i64 a, .int .i64 b, .int .i64 c, .int .i64 d, .int .i64 e, .int .i64 f, .int .i64 g, .int .i64 h] = some [.int .i64 a, .int .i64 b, .int .i64 c, .int .i64 d, .int .i64 e, .int .i64 f, .int .i64 g, .int .i64 h] := by
  have r4 : List.range 4 = [0, 1, 2, 3] := rfl
  unfold Program.keyLits; rw [Try.underlying35]
  simp [r4, rc_api_Len, rc_4api_Len, kl_len ha hb, kl_len hc hd, kl_len he hf, kl_len hg hh]
theorem kl_four {n : Nat} {a b c d : Int} (ha : (Lit.int .i64 a).wf = true) (hb : (Lit.int .i64 b).wf = true) (hc : (Lit.int .i64 c).wf = true) (hd : (Lit.int .i64 d).wf = true) :
    Try.prog.keyLits (n + 1 + 1) 36 [.int .i64 a, .int .i64 b, .int .i64 c, .int .i64 d] = some [.int .i64 a, .int .i64 b, .int .i64 c, .int .i64 d] := by
  have r4 : List.range 4 = [0, 1, 2, 3] := rfl
  unfold Program.keyLits; rw [Try.underlying36]
  simp [r4, rc_int, rc_4int, kl_int Try.underlying3 ha, kl_int Try.underlying3 hb, kl_int Try.underlying3 hc, kl_int Try.underlying3 hd]
theorem kl_two {n : Nat} {a b : Int} (ha : (Lit.int .i64 a).wf = true) (hb : (Lit.int .i64 b).wf = true) :
    Try.prog.keyLits (n + 1 + 1) 41 [.int .i64 a, .int .i64 b] = some [.int .i64 a, .int .i64 b] := by
  have r4 : List.range 2 = [0, 1] := rfl
  unfold Program.keyLits; rw [Try.underlying41]
  simp [r4, rc_int, rc_2int, kl_int Try.underlying3 ha, kl_int Try.underlying3 hb]

set_option maxRecDepth 10000 in
theorem kl_style (s : Re.St) (hs : Fits s) : Try.prog.keyLits 4 43 (cells s).toList = some (lits s) := by
  have h0 := hs 0 (by decide) rfl
  have h1 := hs 1 (by decide) rfl
  have h2 := hs 2 (by decide) rfl
  have h3 := hs 3 (by decide) rfl
  have h4 := hs 4 (by decide) rfl
  have h5 := hs 5 (by decide) rfl
  have h6 := hs 6 (by decide) rfl
  have h7 := hs 7 (by decide) rfl
  have h8 := hs 8 (by decide) rfl
  have h9 := hs 9 (by decide) rfl
  have h10 := hs 10 (by decide) rfl
  have h11 := hs 11 (by decide) rfl
  have h12 := hs 12 (by decide) rfl
  have h13 := hs 13 (by decide) rfl
  have h14 := hs 14 (by decide) rfl
  have h15 := hs 15 (by decide) rfl
  have h16 := hs 16 (by decide) rfl
  have h17 := hs 17 (by decide) rfl
  have h18 := hs 18 (by decide) rfl
  have h19 := hs 19 (by decide) rfl
  have h20 := hs 20 (by decide) rfl
  have h21 := hs 21 (by decide) rfl
  have h22 := hs 22 (by decide) rfl
  have h23 := hs 23 (by decide) rfl
  have h24 := hs 24 (by decide) rfl
  have h25 := hs 25 (by decide) rfl
  have h26 := hs 26 (by decide) rfl
  have h27 := hs 27 (by decide) rfl
  have h28 := hs 28 (by decide) rfl
  have h29 := hs 29 (by decide) rfl
  have h30 := hs 30 (by decide) rfl
  have h31 := hs 31 (by decide) rfl
  have h32 := hs 32 (by decide) rfl
  have h33 := hs 33 (by decide) rfl
  have h34 := hs 34 (by decide) rfl
  have h35 := hs 35 (by decide) rfl
  have h36 := hs 36 (by decide) rfl
  have h37 := hs 37 (by decide) rfl
  have h38 := hs 38 (by decide) rfl
  have h39 := hs 39 (by decide) rfl
  have h40 := hs 40 (by decide) rfl
  have h41 := hs 41 (by decide) rfl
  have h42 := hs 42 (by decide) rfl
  have h43 := hs 43 (by decide) rfl
  have h44 := hs 44 (by decide) rfl
  have h46 := hs 46 (by decide) rfl
  have h48 := hs 48 (by decide) rfl
  have h49 := hs 49 (by decide) rfl
  have h50 := hs 50 (by decide) rfl
  have h53 := hs 53 (by decide) rfl
  have h54 := hs 54 (by decide) rfl
  have e : (cells s).toList = [.int .i64 (s.c 0), .int .i64 (s.c 1), .int .i64 (s.c 2), .int .i64 (s.c 3), .int .i64 (s.c 4), .int .i64 (s.c 5), .int .i64 (s.c 6), .int .i64 (s.c 7), .int .i64 (s.c 8), .int .i64 (s.c 9), .int .i64 (s.c 10), .int .i64 (s.c 11), .int .i64 (s.c 12), .int .i64 (s.c 13), .int .i64 (s.c 14), .int .i64 (s.c 15), .int .i64 (s.c 16), .int .i64 (s.c 17), .int .i64 (s.c 18), .int .i64 (s.c 19), .int .i64 (s.c 20), .int .i64 (s.c 21), .int .i64 (s.c 22), .int .i64 (s.c 23), .int .i64 (s.c 24), .int .i64 (s.c 25), .int .i64 (s.c 26), .int .i64 (s.c 27), .int .i64 (s.c 28), .int .i64 (s.c 29), .int .i64 (s.c 30), .int .i64 (s.c 31), .int .i64 (s.c 32), .int .i64 (s.c 33), .int .i64 (s.c 34), .int .i64 (s.c 35), .int .i64 (s.c 36), .int .i64 (s.c 37), .int .i64 (s.c 38), .int .i64 (s.c 39), .int .i64 (s.c 40), .int .i64 (s.c 41), .int .i64 (s.c 42), .int .i64 (s.c 43), .int .i64 (s.c 44), .bool (s.b 45), .int .i64 (s.c 46), .bool (s.b 47), .int .i64 (s.c 48), .int .i64 (s.c 49), .int .i64 (s.c 50), .bool (s.b 51), .bool (s.b 52), .int .i64 (s.c 53), .int .i64 (s.c 54)] := rfl
  have e2 : lits s = [.int .i64 (s.c 0), .int .i64 (s.c 1), .int .i64 (s.c 2), .int .i64 (s.c 3), .int .i64 (s.c 4), .int .i64 (s.c 5), .int .i64 (s.c 6), .int .i64 (s.c 7), .int .i64 (s.c 8), .int .i64 (s.c 9), .int .i64 (s.c 10), .int .i64 (s.c 11), .int .i64 (s.c 12), .int .i64 (s.c 13), .int .i64 (s.c 14), .int .i64 (s.c 15), .int .i64 (s.c 16), .int .i64 (s.c 17), .int .i64 (s.c 18), .int .i64 (s.c 19), .int .i64 (s.c 20), .int .i64 (s.c 21), .int .i64 (s.c 22), .int .i64 (s.c 23), .int .i64 (s.c 24), .int .i64 (s.c 25), .int .i64 (s.c 26), .int .i64 (s.c 27), .int .i64 (s.c 28), .int .i64 (s.c 29), .int .i64 (s.c 30), .int .i64 (s.c 31), .int .i64 (s.c 32), .int .i64 (s.c 33), .int .i64 (s.c 34), .int .i64 (s.c 35), .int .i64 (s.c 36), .int .i64 (s.c 37), .int .i64 (s.c 38), .int .i64 (s.c 39), .int .i64 (s.c 40), .int .i64 (s.c 41), .int .i64 (s.c 42), .int .i64 (s.c 43), .int .i64 (s.c 44), .bool (s.b 45), .int .i64 (s.c 46), .bool (s.b 47), .int .i64 (s.c 48), .int .i64 (s.c 49), .int .i64 (s.c 50), .bool (s.b 51), .bool (s.b 52), .int .i64 (s.c 53), .int .i64 (s.c 54)] := rfl
  rw [e, e2]
  unfold Program.keyLits; rw [Try.underlying43]
  simp [rc_2int, rc_4api_Len, rc_4int, rc_api_Align, rc_api_Display, rc_api_Justify, rc_api_Len, rc_api_Overflow, rc_api_Position, rc_api_SnapAlign, rc_api_SnapKind, rc_api_Style, rc_bool, rc_int, kl_bool, kl_int (x := s.c 0) Try.underlying29 h0, kl_int (x := s.c 1) Try.underlying30 h1, kl_int (x := s.c 2) Try.underlying31 h2, kl_len h3 h4, kl_len h5 h6, kl_len h7 h8, kl_len h9 h10, kl_len h11 h12, kl_len h13 h14, kl_lens h15 h16 h17 h18 h19 h20 h21 h22, kl_lens h23 h24 h25 h26 h27 h28 h29 h30, kl_four h31 h32 h33 h34, kl_four h35 h36 h37 h38, kl_int (x := s.c 39) Try.underlying3 h39, kl_int (x := s.c 40) Try.underlying3 h40, kl_len h41 h42, kl_int (x := s.c 43) Try.underlying37 h43, kl_int (x := s.c 44) Try.underlying38 h44, kl_int (x := s.c 46) Try.underlying3 h46, kl_int (x := s.c 48) Try.underlying3 h48, kl_int (x := s.c 49) Try.underlying39 h49, kl_int (x := s.c 50) Try.underlying40 h50, kl_two h53 h54]

theorem style_formed (s : Re.St) : (Value.agg (cells s)).formed Try.prog 43 = true := by
  unfold Value.formed; rw [Try.underlying43]; simp [cells_size, rc_api_Style]
theorem styleKey : Try.prog.keyTypeAt 4 43 = true := by kernel_rfl

/-- Two styles, compared. -/
theorem run_equal_style (s t : Re.St) (hs : Fits s) (ht : Fits t) (w : World) : (Op.equalIn 10000 43 (.agg (cells s)) (.agg (cells t))).run Try.prog w = .ok (Re.sameB s t) w := by
  obtain ⟨r, hr, hiff⟩ := run_equalIn_deep 9996 4 43 styleKey w 4 4 _ _ _ _ (style_formed s) (style_formed t) (kl_style s hs) (kl_style t ht)
  rw [show (10000 : Nat) = 9996 + 4 from rfl, hr]
  congr 1
  rw [lits_eq, ← Re.sameB_iff] at hiff
  cases r <;> cases h : Re.sameB s t <;> simp_all
theorem run_eql_style (s t : Re.St) (hs : Fits s) (ht : Fits t) (w : World) : (binOp .eql 43 (.agg (cells s)) (.agg (cells t))).run Try.prog w = .ok (.bool (Re.sameB s t)) w := by
  rw [run_eql_struct, run_equal_style s t hs ht]; rfl
theorem run_neq_style (s t : Re.St) (hs : Fits s) (ht : Fits t) (w : World) : (binOp .neq 43 (.agg (cells s)) (.agg (cells t))).run Try.prog w = .ok (.bool (!Re.sameB s t)) w := by
  rw [run_neq_struct, run_equal_style s t hs ht]; rfl

end Go.Proofs.Ytbkocceemfhhbaa.Fix
