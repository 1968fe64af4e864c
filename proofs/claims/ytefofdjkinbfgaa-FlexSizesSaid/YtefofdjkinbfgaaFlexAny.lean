/- The contract of anyLoose of the layer flex: a range over a method value that is left at once. -/
import Derived.Test.YtefofdjkinbfgaaFlexRow
import Derived.Test.YtefofdjkinbfgaaDrawnRound
namespace Go.Proofs.Ytefofdjkinbfgaa.Fix
open Go.ChangeShapes Go.WideShapes Go.ChangeAt Go.RowKit Go.Shelf
set_option linter.unusedVariables false
attribute [local go_sem] Oper.semAt_some

theorem Below.turn {N : Nat} {w W : World} {r : Nat} {o' : Obj} (h : Below N w W) (hr : N ≤ r) (hW : W.heap[r]? = some o') (o : Obj) : Below N w (W.putObj r o) :=
  h.trans ((Below.refl N W).grown (grownBy_putObj' W r o) (by have := (Array.getElem?_eq_some_iff.1 hW).1; omega) (fun k e => by cases e; exact hr))

theorem RowW.turn {W : World} {R I n r : Nat} {room : Int} {gr : Bool} {S : Nat → Fe.St} (h : RowW W R I n room gr S) (h1 : R < r) (h2 : I < r) (o : Obj) : RowW (W.putObj r o) R I n room gr S := ⟨h.1.turn (by omega) o, h.2.turn (by omega) o⟩
theorem RowW.alloc {W : World} {R I n : Nat} {room : Int} {gr : Bool} {S : Nat → Fe.St} (h : RowW W R I n room gr S) (o : Obj) : RowW (W.alloc o) R I n room gr S := ⟨h.1.alloc o, h.2.alloc o⟩
theorem RowW.off {W : World} {R I n b k : Nat} {room : Int} {gr : Bool} {S : Nat → Fe.St} (h : RowW W R I n room gr S) (h1 : R ≠ b) (h2 : I ≠ b) (v : Value) : RowW (W.setCell ⟨b, k, none⟩ v) R I n room gr S := ⟨h.1.off h1 k v, h.2.off h2 v⟩
theorem RowW.sees {W : World} {R I n : Nat} {room : Int} {gr : Bool} {S : Nat → Fe.St} (h : RowW W R I n room gr S) (i : Nat) : Sees R I n room (Fe.sg gr) S i W :=
  ⟨h.1, h.2.lt, fun k _ hk => h.2.cell hk 7 (by omega)⟩
theorem KeepsFrom.of_below {B : Nat} {W W' : World} (h : Below W.heap.size W W') : KeepsFrom B W W' :=
  ⟨h.size, fun k o _ hk _ => (h.block k (Array.getElem?_eq_some_iff.1 hk).1).trans hk⟩

set_option maxRecDepth 100000 in
set_option maxHeartbeats 4000000 in
theorem any_any (R I n : Nat) (room : Int) (gr : Bool) (S : Nat → Fe.St) (w : World) (h : RowW w R I n room gr S) (hn : n ≤ 64) :
    Calls Try.prog 23 #[.pointer (some ⟨R, 0, none⟩)] w fun e w' => e = .returned (.bool (decide (0 < Fe.pl S n))) ∧ Below w.heap.size w w' := by
  have hmf : ∀ (fn : Fn) (first cap : Array Value) (w : World), (Instr.makeFunc fn first cap).run Try.prog w = .ok (.func fn first cap) w := fun _ _ _ _ => rfl
  have hR := h.1.lt
  have hI := h.2.lt
  have HR := Lib.hid h
  clear h
  refine (callsIn_wide (n := 5)).1 ?_
  refine callsIn_of_wp_marks Try.func23 rfl trivial ?_ rfl
  simp only [Try.ntmps23, List.size_toArray, List.length_cons, List.length_nil, Nat.reduceAdd, Nat.reduceSub, Array.replicate_succ, Array.replicate_zero, List.push_toArray, List.append_toArray, List.nil_append, List.cons_append]
  gi_wp2
  have hA : At (w.alloc (.cells #[.bool false] 4)) w.heap.size (.cells #[.bool false] 4) := At.new _ _
  have hB : Below w.heap.size w (w.alloc (.cells #[.bool false] 4)) := Below.alloc' (Below.refl _ _) _
  have hRW := HR.out.alloc (.cells #[.bool false] 4)
  have hsz : (w.alloc (.cells #[.bool false] 4)).heap.size = w.heap.size + 1 := by simp
  generalize w.alloc (.cells #[.bool false] 4) = W0 at *
  refine range_places (n := 5) (gf := 30) (first := #[.pointer (some ⟨R, 0, none⟩)]) (lb := #[]) rfl (enters_of Try.func30 (by kernel_rfl) rfl) n (fun i => (S i).f) (fun i => #[.int .i64 (Fe.pl S i : Nat), .pointer (some ⟨I, i * 8, none⟩)]) (fun _ => rfl)
    (fun i W => RowW W R I n room gr S ∧ At W w.heap.size (.cells #[.bool false] 4) ∧ Below w.heap.size w W ∧ Fe.pl S i = 0)
    (fun W => At W w.heap.size (.cells #[.bool true] 4) ∧ Below w.heap.size w W ∧ 0 < Fe.pl S n)
    (fun i W r o o' h hr hW _ => ⟨h.1.turn (by omega) (by omega) o, h.2.1.turn (by omega) o, Below.turn h.2.2.1 (by omega) hW o, h.2.2.2⟩)
    (fun W r o o' h hr hW _ => ⟨h.1.turn (by omega) o, Below.turn h.2.1 (by omega) hW o, h.2.2⟩)
    (fun o1 o2 => ⟨(hRW.alloc o1).alloc o2, (hA.alloc o1).alloc o2, Below.alloc' (Below.alloc' hB o1) o2, rfl⟩)
    (fun lp J Jx W hV hs hY hJ => loose_in 4 R I n room (Fe.sg gr) S hn lp J Jx W (fun i W h => (hV i W h).1.sees i) hs hY hJ)
    (fun i W hi hf h => ⟨h.1, h.2.1, h.2.2.1, by simp [Fe.pl, hf, h.2.2.2]⟩)
    (fun i t => (t.setIfInBounds 5 (.int .i64 (Fe.pl S i : Nat))).setIfInBounds 6 (.pointer (some ⟨I, i * 8, none⟩))) ?assign ?body ?done ?stop
  case assign =>
    intro l i W G hi hG
    simp only [List.setIfInBounds_toArray, List.set_cons_zero, List.set_cons_succ] at hG
    gi_wp2
    first | exact hG | simpa using hG
  case body =>
    rintro l i W hi hf ⟨hR1, hA1, hB1, hp⟩
    have hc := hA1.cell 0
    have hz := hA1.thaw 0
    simp only [List.setIfInBounds_toArray, List.set_cons_zero, List.set_cons_succ]
    gi_wp2
    exact ⟨(KeepsOthers.setCell _ _ _).from _, hA1.set 0 _, Below.setCell hB1 (Nat.le_refl _) _, by have := Fe.pl_lt S hi hf; omega⟩
  case done =>
    rintro D W hD ⟨hR1, hA1, hB1, hp⟩ hK
    have hc := hA1.cell 0
    have hz := hA1.thaw 0
    gi_wp2
    refine ⟨by simp, .inl ⟨_, _, rfl, run_takeDeferred ((KeepsOthers.setCell _ _ _).same D _ hK rfl), ?_⟩⟩
    have hA2 := (hA1.set 0 (.bool false)).turn (r := D) (by omega) (.deferred none)
    have hB2 := Below.turn (Below.setCell hB1 (Nat.le_refl _) (.bool false) (p := ⟨w.heap.size, 0, none⟩)) (by omega) ((KeepsOthers.setCell _ _ _).same D _ hK rfl) (.deferred none)
    have hc2 := hA2.cell 0
    generalize World.putObj _ _ _ = W2 at *
    refine ⟨.bool false, ?_, by rw [hp]; rfl, hB2⟩
    simp [results, Try.results23, go_sem, hc2]
  case stop =>
    rintro D W hD ⟨hA1, hB1, hp⟩ hK
    have hc := hA1.cell 0
    gi_wp2
    refine ⟨by simp, .inl ⟨_, _, rfl, run_takeDeferred hK, ?_⟩⟩
    have hA2 := hA1.turn (r := D) (by omega) (.deferred none)
    have hB2 := Below.turn hB1 (by omega) hK (.deferred none)
    have hc2 := hA2.cell 0
    generalize World.putObj _ _ _ = W2 at *
    refine ⟨.bool true, ?_, by rw [decide_eq_true hp], hB2⟩
    simp [results, Try.results23, go_sem, hc2]

end Go.Proofs.Ytefofdjkinbfgaa.Fix
