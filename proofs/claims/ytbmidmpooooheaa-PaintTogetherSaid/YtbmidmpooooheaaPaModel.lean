/- What the calls of paint tell, as plain numbers; what is asked of the program's calls; the document's example. -/
import Derived.Test.YtbmidmpooooheaaPaFrame
import Derived.Test.YtbmidmpooooheaaDrawnGen
namespace Go.Proofs.Ytbmidmpooooheaa.Fix
open Go.ChangeShapes Go.WideShapes Go.ChangeAt Go.RowKit Go.Deep Go.Joins
set_option linter.unusedVariables false
set_option linter.unusedSimpArgs false
set_option maxRecDepth 100000

/-- up from a node one comes to u -/
inductive PCh (l : Nat → PNd) (u : Int) : Int → Prop
  | refl : PCh l u u
  | step {a : Int} : 0 ≤ a → PCh l u (l a.toNat).up → PCh l u a
/-- nodes stand in order -/
def PV (l : Nat → PNd) (n : Nat) : Prop := ∀ i, i < n → (i = 0 → (l i).up = -1) ∧ (0 < i → 0 ≤ (l i).up ∧ (l i).up < i ∧ PCh l (l i).up ((i : Int) - 1))
open Classical in
noncomputable def pvB (l : Nat → PNd) (n : Nat) : Bool := decide (PV l n)
def ppu (l : Nat → PNd) (i : Nat) : Nat := (l i).up.toNat
def ply (l : Nat → PNd) (i : Nat) : Bool := (l i).ly
def pz (l : Nat → PNd) (i : Nat) : Int := (l i).z
def pla (l : Nat → PNd) : Nat → Nat := Pa.lay (ppu l) (ply l)
noncomputable def pord (l : Nat → PNd) (n : Nat) : List Nat := if pvB l n = true then Pa.order n (pla l) (ply l) (pz l) else []
noncomputable def playI (l : Nat → PNd) (n : Nat) (a : Int) : Int := if pvB l n = true ∧ 0 < a ∧ a < n then (pla l a.toNat : Int) else -1
open Classical in
noncomputable def pbef (l : Nat → PNd) (n : Nat) (a b : Int) : Bool := decide (0 ≤ a ∧ 0 ≤ b ∧ Pa.Ah (pord l n) a.toNat b.toNat)
def pints (o : List Nat) : List Int := o.map fun i : Nat => (i : Int)

theorem pvB_iff {l : Nat → PNd} {n : Nat} : pvB l n = true ↔ PV l n := by unfold pvB; simp
theorem PV.pu {l : Nat → PNd} {n : Nat} (h : PV l n) : ∀ i, 0 < i → i < n → ppu l i < i := fun i h0 hi => by have := (h i hi).2 h0; unfold ppu; omega
theorem PV.ok {l : Nat → PNd} {n : Nat} (h : PV l n) : Pa.OK n (pla l) (ply l) := Pa.lay_ok h.pu
theorem pord_some {l : Nat → PNd} {n : Nat} (h : PV l n) : pord l n = Pa.order n (pla l) (ply l) (pz l) := by unfold pord; rw [if_pos (pvB_iff.2 h)]
theorem pord_len {l : Nat → PNd} {n : Nat} (h : PV l n) : (pord l n).length = n := by rw [pord_some h]; exact Pa.length_order h.ok
theorem pord_nodup {l : Nat → PNd} {n : Nat} (h : PV l n) : (pord l n).Nodup := by rw [pord_some h]; exact Pa.nodup_order h.ok
theorem pord_mem {l : Nat → PNd} {n : Nat} (h : PV l n) {x : Nat} : x ∈ pord l n ↔ x < n := by rw [pord_some h]; exact Pa.mem_order h.ok
theorem pints_len (o : List Nat) : (pints o).length = o.length := by simp [pints]
theorem pints_getD {o : List Nat} {k : Nat} (h : k < o.length) : (pints o).getD k 0 = (o.getD k 0 : Int) := by simp [pints, List.getD, List.getElem?_eq_getElem h]
theorem pord_le {l : Nat → PNd} {n : Nat} : (pord l n).length ≤ n := by
  by_cases h : PV l n
  · rw [pord_len h]; exact Nat.le_refl _
  · unfold pord; rw [if_neg (fun q => h (pvB_iff.1 q))]; simp
theorem playI_some {l : Nat → PNd} {n : Nat} (h : PV l n) {i : Nat} (h0 : 0 < i) (hi : i < n) : playI l n i = (pla l i : Int) := by unfold playI; rw [if_pos ⟨pvB_iff.2 h, by omega, by omega⟩, Int.toNat_natCast]
theorem pbef_iff {l : Nat → PNd} {n a b : Nat} : pbef l n a b = true ↔ Pa.Ah (pord l n) a b := by unfold pbef; simp
theorem pbef_false {l : Nat → PNd} {n a b : Nat} : pbef l n a b = false ↔ ¬ Pa.Ah (pord l n) a b := by rw [← pbef_iff]; simp
theorem pbef_asymm {l : Nat → PNd} {n : Nat} (h : PV l n) {a b : Nat} (k : pbef l n a b = true) : pbef l n b a = false := pbef_false.2 ((pbef_iff.1 k).asymm (pord_nodup h))

/-- what is known of a slice of nodes -/
structure PSl (w : World) (A : Option Addr) (l : Nat → PNd) (n c : Nat) : Prop where
  nodes : PNodes w A l n
  len : n ≤ c
  cap : c ≤ maxLen
  none : A = none → c = 0
theorem PSl.after {W w : World} {A : Option Addr} {l : Nat → PNd} {n c : Nat} (h : PSl W A l n c) (hb : Below W.heap.size W w) : PSl w A l n c := ⟨h.nodes.after hb, h.len, h.cap, h.none⟩
theorem PRow.sl {w : World} {a : Option Addr} {len cap : Nat} (h : PRow w a len cap) : ∃ l, PSl w a l len cap := by
  obtain ⟨l, h1, _⟩ := h.nodes
  rcases h with ⟨rfl, rfl, rfl⟩ | ⟨x, rfl, h3, h4, _⟩
  · exact ⟨l, h1, by omega, by simp [maxLen], fun _ => rfl⟩
  · exact ⟨l, h1, h3, h4, fun e => by cases e⟩

/-- what is asked of the program's calls -/
structure PaintCode : Prop where
  valid : ∀ (w : World) (A : Option Addr) (l : Nat → PNd) (n c : Nat), PSl w A l n c → n ≤ 50 → Calls Try.prog 17 #[.slice A n c] w fun e w' => e = .returned (.bool (pvB l n)) ∧ Below w.heap.size w w'
  order : ∀ (w : World) (A : Option Addr) (l : Nat → PNd) (n c : Nat), PSl w A l n c → n ≤ 50 → Calls Try.prog 16 #[.slice A n c] w fun e w' => (∃ B d, e = .returned (.slice B (pord l n).length d) ∧ Ints w' B (pints (pord l n))) ∧ Below w.heap.size w w'
  layer : ∀ (w : World) (A : Option Addr) (l : Nat → PNd) (n c : Nat) (a : Int), PSl w A l n c → n ≤ 50 → Calls Try.prog 18 #[.slice A n c, .int .i64 a] w fun e w' => e = .returned (.int .i64 (playI l n a)) ∧ Below w.heap.size w w'
  before : ∀ (w : World) (A : Option Addr) (l : Nat → PNd) (n c : Nat) (a b : Int), PSl w A l n c → n ≤ 50 → Calls Try.prog 20 #[.slice A n c, .int .i64 a, .int .i64 b] w fun e w' => e = .returned (.bool (pbef l n a b)) ∧ Below w.heap.size w w'

/-! the document's example -/
def plw (i : Nat) : PNd := if i = 0 then ⟨-1, false, 0⟩ else if i = 1 then ⟨0, true, 1⟩ else if i = 2 then ⟨0, false, 0⟩ else ⟨0, true, -1⟩
theorem plw_v : PV plw 4 := by
  intro i hi
  have h0 : PCh plw 0 0 := .refl
  have h1 : PCh plw 0 1 := .step (by omega) h0
  have h2 : PCh plw 0 2 := .step (by omega) h0
  rcases (by omega : i = 0 ∨ i = 1 ∨ i = 2 ∨ i = 3) with rfl | rfl | rfl | rfl
  · exact ⟨fun _ => rfl, fun h => absurd h (by omega)⟩
  · exact ⟨fun h => absurd h (by omega), fun _ => ⟨by decide, by decide, h0⟩⟩
  · exact ⟨fun h => absurd h (by omega), fun _ => ⟨by decide, by decide, h1⟩⟩
  · exact ⟨fun h => absurd h (by omega), fun _ => ⟨by decide, by decide, h2⟩⟩
theorem plw_ord : pord plw 4 = [0, 3, 2, 1] := by rw [pord_some plw_v]; decide +kernel
theorem plw_vB : pvB plw 4 = true := pvB_iff.2 plw_v
theorem plw_lay : playI plw 4 2 = 0 := by
  have : playI plw 4 ((2 : Nat) : Int) = (pla plw 2 : Int) := playI_some plw_v (by omega) (by omega)
  have e : pla plw 2 = 0 := by decide +kernel
  rw [e] at this
  exact this
theorem plw_b1 : pbef plw 4 3 2 = true := (pbef_iff (a := 3) (b := 2)).2 (by rw [plw_ord]; simp [Pa.Ah])
theorem plw_b2 : pbef plw 4 2 3 = false := (pbef_false (a := 2) (b := 3)).2 (by rw [plw_ord]; simp [Pa.Ah])

theorem pbuild0 (W : World) (a : Int) : (Instr.build 39 #[(0, .int .i64 a)]).run Try.prog W = .ok (.agg #[.int .i64 a, .bool false, .int .i64 0]) W := by kernel_rfl
theorem pbuild3 (W : World) (a z : Int) (b : Bool) : (Instr.build 39 #[(0, .int .i64 a), (1, .bool b), (2, .int .i64 z)]).run Try.prog W = .ok (.agg #[.int .i64 a, .bool b, .int .i64 z]) W := by kernel_rfl
def plwCells : Array Value := #[.int .i64 (-1), .bool false, .int .i64 0, .int .i64 0, .bool true, .int .i64 1, .int .i64 0, .bool false, .int .i64 0, .int .i64 0, .bool true, .int .i64 (-1)]
theorem pslice4 (W : World) : (Instr.buildSlice 22 4 #[(0, .agg #[.int .i64 (-1), .bool false, .int .i64 0]), (1, .agg #[.int .i64 0, .bool true, .int .i64 1]), (2, .agg #[.int .i64 0, .bool false, .int .i64 0]), (3, .agg #[.int .i64 0, .bool true, .int .i64 (-1)])]).run Try.prog W = .ok (.slice (some ⟨W.heap.size, 0, none⟩) 4 4) (W.alloc (.cells plwCells 39)) := by kernel_rfl
theorem plw_nodes (W : World) : PSl (W.alloc (.cells plwCells 39)) (some ⟨W.heap.size, 0, none⟩) plw 4 4 := by
  have hA := At.new W (.cells plwCells 39)
  refine ⟨fun _ => ⟨W.heap.size, 0, rfl, hA.lt, fun k hk => ?_⟩, by omega, by simp [maxLen], fun e => by cases e⟩
  rcases (by omega : k = 0 ∨ k = 1 ∨ k = 2 ∨ k = 3) with rfl | rfl | rfl | rfl <;> exact ⟨by rw [hA.cell]; rfl, by rw [hA.cell]; rfl, by rw [hA.cell]; rfl⟩

theorem PNodes.some {w : World} {A : Option Addr} {l : Nat → PNd} {n : Nat} (h : PNodes w A l n) (h0 : 0 < n) : ∃ b o, A = some ⟨b, o, none⟩ ∧ ∀ W, Below w.heap.size w W → ∀ k, k < n → PNdAt W b (o + k * 3) (l k) := by
  obtain ⟨b, o, e, hl, hc⟩ := h h0
  exact ⟨b, o, e, fun W hb k hk => (hc k hk).keep hb hl⟩

end Go.Proofs.Ytbmidmpooooheaa.Fix
