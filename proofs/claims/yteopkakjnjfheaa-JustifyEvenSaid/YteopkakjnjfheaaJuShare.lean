/- The contract of the function of the layer justify that hands out a closure: by its kinds. Written by wip/tools/genju.py. -/
import Derived.Test.YteopkakjnjfheaaJu
namespace Go.Proofs.Yteopkakjnjfheaa.Fix
open Go.ChangeShapes Go.WideShapes Go.ChangeAt Go.RowKit
set_option linter.unusedVariables false

/-- the four boxes of the closure -/
structure Boxed (w : World) (b1 b2 b3 b4 : Nat) (left p s q : Int) : Prop where
  a1 : At w b1 (.cells #[.int .i64 left] 3)
  a2 : At w b2 (.cells #[.int .i64 p] 3)
  a3 : At w b3 (.cells #[.int .i64 s] 3)
  a4 : At w b4 (.cells #[.int .i64 q] 3)
  n12 : b1 ≠ b2
  n13 : b1 ≠ b3
  n14 : b1 ≠ b4
  n23 : b2 ≠ b3
  n24 : b2 ≠ b4
  n34 : b3 ≠ b4

theorem Boxed.keep {w w' : World} {b1 b2 b3 b4 : Nat} {left p s q : Int} (h : Boxed w b1 b2 b3 b4 left p s q) (hb : Below w.heap.size w w') : Boxed w' b1 b2 b3 b4 left p s q := ⟨h.a1.keep hb, h.a2.keep hb, h.a3.keep hb, h.a4.keep hb, h.n12, h.n13, h.n14, h.n23, h.n24, h.n34⟩

theorem Boxed.put2 {w : World} {b1 b2 b3 b4 : Nat} {left p s q : Int} (h : Boxed w b1 b2 b3 b4 left p s q) (x : Int) : Boxed (w.setCell ⟨b2, 0, none⟩ (.int .i64 x)) b1 b2 b3 b4 left x s q :=
  ⟨h.a1.off h.n12 _ _, h.a2.set 0 _, h.a3.off h.n23.symm _ _, h.a4.off h.n24.symm _ _, h.n12, h.n13, h.n14, h.n23, h.n24, h.n34⟩
theorem Boxed.put3 {w : World} {b1 b2 b3 b4 : Nat} {left p s q : Int} (h : Boxed w b1 b2 b3 b4 left p s q) (x : Int) : Boxed (w.setCell ⟨b3, 0, none⟩ (.int .i64 x)) b1 b2 b3 b4 left p x q :=
  ⟨h.a1.off h.n13 _ _, h.a2.off h.n23 _ _, h.a3.set 0 _, h.a4.off h.n34.symm _ _, h.n12, h.n13, h.n14, h.n23, h.n24, h.n34⟩
theorem Boxed.put4 {w : World} {b1 b2 b3 b4 : Nat} {left p s q : Int} (h : Boxed w b1 b2 b3 b4 left p s q) (x : Int) : Boxed (w.setCell ⟨b4, 0, none⟩ (.int .i64 x)) b1 b2 b3 b4 left p s x :=
  ⟨h.a1.off h.n14 _ _, h.a2.off h.n24 _ _, h.a3.off h.n34 _ _, h.a4.set 0 _, h.n12, h.n13, h.n14, h.n23, h.n24, h.n34⟩

theorem boxed_made (w : World) (left : Int) : Boxed ((((w.alloc (.cells #[.int .i64 left] 3)).alloc (.cells #[.int .i64 0] 3)).alloc (.cells #[.int .i64 0] 3)).alloc (.cells #[.int .i64 1] 3)) w.heap.size (w.heap.size + 1) (w.heap.size + 1 + 1) (w.heap.size + 1 + 1 + 1) left 0 0 1 :=
  ⟨At.alloc (At.alloc (At.alloc (At.new _ _) _) _) _, At.alloc (At.alloc (At.new' _ (by simp)) _) _, At.alloc (At.new' _ (by simp)) _, At.new' _ (by simp), by omega, by omega, by omega, by omega, by omega, by omega⟩

theorem boxed_below (w : World) (a b c d : Obj) : Below w.heap.size w ((((w.alloc a).alloc b).alloc c).alloc d) :=
  Below.alloc' (Below.alloc' (Below.alloc' (Below.alloc' (Below.refl _ _) _) _) _) _

/-- what a walk wants of the boxes -/
theorem Boxed.cells {w : World} {b1 b2 b3 b4 : Nat} {left p s q : Int} (h : Boxed w b1 b2 b3 b4 left p s q) :
    w.cell? ⟨b1, 0, none⟩ = some (.int .i64 left) ∧ w.cell? ⟨b2, 0, none⟩ = some (.int .i64 p) ∧ w.cell? ⟨b3, 0, none⟩ = some (.int .i64 s) ∧ w.cell? ⟨b4, 0, none⟩ = some (.int .i64 q) :=
  ⟨h.a1.cell 0, h.a2.cell 0, h.a3.cell 0, h.a4.cell 0⟩
theorem Boxed.thaws {w : World} {b1 b2 b3 b4 : Nat} {left p s q : Int} (h : Boxed w b1 b2 b3 b4 left p s q) :
    w.frozen? ⟨b2, 0, none⟩ = false ∧ w.frozen? ⟨b3, 0, none⟩ = false ∧ w.frozen? ⟨b4, 0, none⟩ = false ∧ b2 < w.heap.size ∧ b3 < w.heap.size ∧ b4 < w.heap.size :=
  ⟨h.a2.thaw 0, h.a3.thaw 0, h.a4.thaw 0, h.a2.lt, h.a3.lt, h.a4.lt⟩

theorem share_one (left n : Int) (w : World) (n0 : 0 ≤ n) (n1 : n ≤ 100000) : Calls Try.prog 19 #[.int .i64 1, .int .i64 left, .int .i64 n] w fun e w' => (∃ b1 b2 b3 b4, e = .returned (.func (.func 29) #[] #[.pointer (some ⟨b1, 0, none⟩), .pointer (some ⟨b2, 0, none⟩), .pointer (some ⟨b3, 0, none⟩), .pointer (some ⟨b4, 0, none⟩)]) ∧ Boxed w' b1 b2 b3 b4 left (1) (0) (1)) ∧ Below w.heap.size w w' := by
  have hmf : ∀ (fn : Fn) (first cap : Array Value) (w : World), (Instr.makeFunc fn first cap).run Try.prog w = .ok (.func fn first cap) w := fun _ _ _ _ => rfl
  go_enter Try.func19, Try.ntmps19
  go_upto_region 2 with (fail)
  generalize hW : World.alloc (World.alloc (World.alloc (World.alloc _ _) _) _) _ = W1
  have hX : Boxed W1 w.heap.size (w.heap.size + 1) (w.heap.size + 1 + 1) (w.heap.size + 1 + 1 + 1) left 0 0 1 := hW ▸ boxed_made w left
  have hB : Below w.heap.size w W1 := hW ▸ boxed_below w _ _ _ _
  clear hW
  obtain ⟨m2, m3, m4⟩ : w.heap.size ≤ w.heap.size + 1 ∧ w.heap.size ≤ w.heap.size + 1 + 1 ∧ w.heap.size ≤ w.heap.size + 1 + 1 + 1 := ⟨by omega, by omega, by omega⟩
  generalize w.heap.size + 1 + 1 + 1 = b4 at *
  generalize w.heap.size + 1 + 1 = b3 at *
  generalize w.heap.size + 1 = b2 at *
  have HX := Lib.hid hX
  obtain ⟨c1, c2, c3, c4⟩ := hX.cells
  obtain ⟨z2, z3, z4, l2, l3, l4⟩ := hX.thaws
  have l1 := hX.a1.lt
  have n23 := hX.n23
  have n24 := hX.n24
  have n34 := hX.n34
  have n32 := hX.n23.symm
  have n42 := hX.n24.symm
  have n43 := hX.n34.symm
  clear hX
  go_wp2
  go_ret
  exact ⟨⟨_, _, _, _, rfl, (HX.out.put2 (1))⟩, (Below.setCell hB m2 _)⟩

theorem share_two (left n : Int) (w : World) (n0 : 0 ≤ n) (n1 : n ≤ 100000) : Calls Try.prog 19 #[.int .i64 2, .int .i64 left, .int .i64 n] w fun e w' => (∃ b1 b2 b3 b4, e = .returned (.func (.func 29) #[] #[.pointer (some ⟨b1, 0, none⟩), .pointer (some ⟨b2, 0, none⟩), .pointer (some ⟨b3, 0, none⟩), .pointer (some ⟨b4, 0, none⟩)]) ∧ Boxed w' b1 b2 b3 b4 left (1) (0) (2)) ∧ Below w.heap.size w w' := by
  have hmf : ∀ (fn : Fn) (first cap : Array Value) (w : World), (Instr.makeFunc fn first cap).run Try.prog w = .ok (.func fn first cap) w := fun _ _ _ _ => rfl
  go_enter Try.func19, Try.ntmps19
  go_upto_region 2 with (fail)
  generalize hW : World.alloc (World.alloc (World.alloc (World.alloc _ _) _) _) _ = W1
  have hX : Boxed W1 w.heap.size (w.heap.size + 1) (w.heap.size + 1 + 1) (w.heap.size + 1 + 1 + 1) left 0 0 1 := hW ▸ boxed_made w left
  have hB : Below w.heap.size w W1 := hW ▸ boxed_below w _ _ _ _
  clear hW
  obtain ⟨m2, m3, m4⟩ : w.heap.size ≤ w.heap.size + 1 ∧ w.heap.size ≤ w.heap.size + 1 + 1 ∧ w.heap.size ≤ w.heap.size + 1 + 1 + 1 := ⟨by omega, by omega, by omega⟩
  generalize w.heap.size + 1 + 1 + 1 = b4 at *
  generalize w.heap.size + 1 + 1 = b3 at *
  generalize w.heap.size + 1 = b2 at *
  have HX := Lib.hid hX
  obtain ⟨c1, c2, c3, c4⟩ := hX.cells
  obtain ⟨z2, z3, z4, l2, l3, l4⟩ := hX.thaws
  have l1 := hX.a1.lt
  have n23 := hX.n23
  have n24 := hX.n24
  have n34 := hX.n34
  have n32 := hX.n23.symm
  have n42 := hX.n24.symm
  have n43 := hX.n34.symm
  clear hX
  go_wp2
  go_ret
  exact ⟨⟨_, _, _, _, rfl, ((HX.out.put2 (1)).put4 (2))⟩, (Below.setCell (Below.setCell hB m2 _) m4 _)⟩

theorem share_three (left n : Int) (w : World) (n0 : 0 ≤ n) (n1 : n ≤ 100000) (h1 : 0 < left) (h2 : 1 < n) : Calls Try.prog 19 #[.int .i64 3, .int .i64 left, .int .i64 n] w fun e w' => (∃ b1 b2 b3 b4, e = .returned (.func (.func 29) #[] #[.pointer (some ⟨b1, 0, none⟩), .pointer (some ⟨b2, 0, none⟩), .pointer (some ⟨b3, 0, none⟩), .pointer (some ⟨b4, 0, none⟩)]) ∧ Boxed w' b1 b2 b3 b4 left (0) (1) (n - 1)) ∧ Below w.heap.size w w' := by
  have hmf : ∀ (fn : Fn) (first cap : Array Value) (w : World), (Instr.makeFunc fn first cap).run Try.prog w = .ok (.func fn first cap) w := fun _ _ _ _ => rfl
  go_enter Try.func19, Try.ntmps19
  go_upto_region 2 with (fail)
  generalize hW : World.alloc (World.alloc (World.alloc (World.alloc _ _) _) _) _ = W1
  have hX : Boxed W1 w.heap.size (w.heap.size + 1) (w.heap.size + 1 + 1) (w.heap.size + 1 + 1 + 1) left 0 0 1 := hW ▸ boxed_made w left
  have hB : Below w.heap.size w W1 := hW ▸ boxed_below w _ _ _ _
  clear hW
  obtain ⟨m2, m3, m4⟩ : w.heap.size ≤ w.heap.size + 1 ∧ w.heap.size ≤ w.heap.size + 1 + 1 ∧ w.heap.size ≤ w.heap.size + 1 + 1 + 1 := ⟨by omega, by omega, by omega⟩
  generalize w.heap.size + 1 + 1 + 1 = b4 at *
  generalize w.heap.size + 1 + 1 = b3 at *
  generalize w.heap.size + 1 = b2 at *
  have HX := Lib.hid hX
  obtain ⟨c1, c2, c3, c4⟩ := hX.cells
  obtain ⟨z2, z3, z4, l2, l3, l4⟩ := hX.thaws
  have l1 := hX.a1.lt
  have n23 := hX.n23
  have n24 := hX.n24
  have n34 := hX.n34
  have n32 := hX.n23.symm
  have n42 := hX.n24.symm
  have n43 := hX.n34.symm
  clear hX
  go_wp2
  go_ret
  exact ⟨⟨_, _, _, _, rfl, ((HX.out.put3 (1)).put4 (n - 1))⟩, (Below.setCell (Below.setCell hB m3 _) m4 _)⟩

theorem share_three_no (left n : Int) (w : World) (n0 : 0 ≤ n) (n1 : n ≤ 100000) (h1 : left ≤ 0) : Calls Try.prog 19 #[.int .i64 3, .int .i64 left, .int .i64 n] w fun e w' => (∃ b1 b2 b3 b4, e = .returned (.func (.func 29) #[] #[.pointer (some ⟨b1, 0, none⟩), .pointer (some ⟨b2, 0, none⟩), .pointer (some ⟨b3, 0, none⟩), .pointer (some ⟨b4, 0, none⟩)]) ∧ Boxed w' b1 b2 b3 b4 left (0) (0) (1)) ∧ Below w.heap.size w w' := by
  have hmf : ∀ (fn : Fn) (first cap : Array Value) (w : World), (Instr.makeFunc fn first cap).run Try.prog w = .ok (.func fn first cap) w := fun _ _ _ _ => rfl
  have e1 : decide (0 < left) = false := by simp; omega
  go_enter Try.func19, Try.ntmps19
  go_upto_region 2 with (fail)
  generalize hW : World.alloc (World.alloc (World.alloc (World.alloc _ _) _) _) _ = W1
  have hX : Boxed W1 w.heap.size (w.heap.size + 1) (w.heap.size + 1 + 1) (w.heap.size + 1 + 1 + 1) left 0 0 1 := hW ▸ boxed_made w left
  have hB : Below w.heap.size w W1 := hW ▸ boxed_below w _ _ _ _
  clear hW
  obtain ⟨m2, m3, m4⟩ : w.heap.size ≤ w.heap.size + 1 ∧ w.heap.size ≤ w.heap.size + 1 + 1 ∧ w.heap.size ≤ w.heap.size + 1 + 1 + 1 := ⟨by omega, by omega, by omega⟩
  generalize w.heap.size + 1 + 1 + 1 = b4 at *
  generalize w.heap.size + 1 + 1 = b3 at *
  generalize w.heap.size + 1 = b2 at *
  have HX := Lib.hid hX
  obtain ⟨c1, c2, c3, c4⟩ := hX.cells
  obtain ⟨z2, z3, z4, l2, l3, l4⟩ := hX.thaws
  have l1 := hX.a1.lt
  have n23 := hX.n23
  have n24 := hX.n24
  have n34 := hX.n34
  have n32 := hX.n23.symm
  have n42 := hX.n24.symm
  have n43 := hX.n34.symm
  clear hX
  go_wp2
  go_ret
  exact ⟨⟨_, _, _, _, rfl, HX.out⟩, hB⟩

theorem share_three_one (left n : Int) (w : World) (n0 : 0 ≤ n) (n1 : n ≤ 100000) (h1 : 0 < left) (h2 : n ≤ 1) : Calls Try.prog 19 #[.int .i64 3, .int .i64 left, .int .i64 n] w fun e w' => (∃ b1 b2 b3 b4, e = .returned (.func (.func 29) #[] #[.pointer (some ⟨b1, 0, none⟩), .pointer (some ⟨b2, 0, none⟩), .pointer (some ⟨b3, 0, none⟩), .pointer (some ⟨b4, 0, none⟩)]) ∧ Boxed w' b1 b2 b3 b4 left (0) (0) (1)) ∧ Below w.heap.size w w' := by
  have hmf : ∀ (fn : Fn) (first cap : Array Value) (w : World), (Instr.makeFunc fn first cap).run Try.prog w = .ok (.func fn first cap) w := fun _ _ _ _ => rfl
  have e2 : decide (1 < n) = false := by simp; omega
  go_enter Try.func19, Try.ntmps19
  go_upto_region 2 with (fail)
  generalize hW : World.alloc (World.alloc (World.alloc (World.alloc _ _) _) _) _ = W1
  have hX : Boxed W1 w.heap.size (w.heap.size + 1) (w.heap.size + 1 + 1) (w.heap.size + 1 + 1 + 1) left 0 0 1 := hW ▸ boxed_made w left
  have hB : Below w.heap.size w W1 := hW ▸ boxed_below w _ _ _ _
  clear hW
  obtain ⟨m2, m3, m4⟩ : w.heap.size ≤ w.heap.size + 1 ∧ w.heap.size ≤ w.heap.size + 1 + 1 ∧ w.heap.size ≤ w.heap.size + 1 + 1 + 1 := ⟨by omega, by omega, by omega⟩
  generalize w.heap.size + 1 + 1 + 1 = b4 at *
  generalize w.heap.size + 1 + 1 = b3 at *
  generalize w.heap.size + 1 = b2 at *
  have HX := Lib.hid hX
  obtain ⟨c1, c2, c3, c4⟩ := hX.cells
  obtain ⟨z2, z3, z4, l2, l3, l4⟩ := hX.thaws
  have l1 := hX.a1.lt
  have n23 := hX.n23
  have n24 := hX.n24
  have n34 := hX.n34
  have n32 := hX.n23.symm
  have n42 := hX.n24.symm
  have n43 := hX.n34.symm
  clear hX
  go_wp2
  go_ret
  exact ⟨⟨_, _, _, _, rfl, HX.out⟩, hB⟩

theorem share_four (left n : Int) (w : World) (n0 : 0 ≤ n) (n1 : n ≤ 100000) (h1 : 0 < left) : Calls Try.prog 19 #[.int .i64 4, .int .i64 left, .int .i64 n] w fun e w' => (∃ b1 b2 b3 b4, e = .returned (.func (.func 29) #[] #[.pointer (some ⟨b1, 0, none⟩), .pointer (some ⟨b2, 0, none⟩), .pointer (some ⟨b3, 0, none⟩), .pointer (some ⟨b4, 0, none⟩)]) ∧ Boxed w' b1 b2 b3 b4 left (1) (2) (2 * n)) ∧ Below w.heap.size w w' := by
  have hmf : ∀ (fn : Fn) (first cap : Array Value) (w : World), (Instr.makeFunc fn first cap).run Try.prog w = .ok (.func fn first cap) w := fun _ _ _ _ => rfl
  go_enter Try.func19, Try.ntmps19
  go_upto_region 2 with (fail)
  generalize hW : World.alloc (World.alloc (World.alloc (World.alloc _ _) _) _) _ = W1
  have hX : Boxed W1 w.heap.size (w.heap.size + 1) (w.heap.size + 1 + 1) (w.heap.size + 1 + 1 + 1) left 0 0 1 := hW ▸ boxed_made w left
  have hB : Below w.heap.size w W1 := hW ▸ boxed_below w _ _ _ _
  clear hW
  obtain ⟨m2, m3, m4⟩ : w.heap.size ≤ w.heap.size + 1 ∧ w.heap.size ≤ w.heap.size + 1 + 1 ∧ w.heap.size ≤ w.heap.size + 1 + 1 + 1 := ⟨by omega, by omega, by omega⟩
  generalize w.heap.size + 1 + 1 + 1 = b4 at *
  generalize w.heap.size + 1 + 1 = b3 at *
  generalize w.heap.size + 1 = b2 at *
  have HX := Lib.hid hX
  obtain ⟨c1, c2, c3, c4⟩ := hX.cells
  obtain ⟨z2, z3, z4, l2, l3, l4⟩ := hX.thaws
  have l1 := hX.a1.lt
  have n23 := hX.n23
  have n24 := hX.n24
  have n34 := hX.n34
  have n32 := hX.n23.symm
  have n42 := hX.n24.symm
  have n43 := hX.n34.symm
  clear hX
  go_wp2
  go_ret
  exact ⟨⟨_, _, _, _, rfl, (((HX.out.put2 (1)).put3 (2)).put4 (2 * n))⟩, (Below.setCell (Below.setCell (Below.setCell hB m2 _) m3 _) m4 _)⟩

theorem share_four_no (left n : Int) (w : World) (n0 : 0 ≤ n) (n1 : n ≤ 100000) (h1 : left ≤ 0) : Calls Try.prog 19 #[.int .i64 4, .int .i64 left, .int .i64 n] w fun e w' => (∃ b1 b2 b3 b4, e = .returned (.func (.func 29) #[] #[.pointer (some ⟨b1, 0, none⟩), .pointer (some ⟨b2, 0, none⟩), .pointer (some ⟨b3, 0, none⟩), .pointer (some ⟨b4, 0, none⟩)]) ∧ Boxed w' b1 b2 b3 b4 left (1) (0) (2)) ∧ Below w.heap.size w w' := by
  have hmf : ∀ (fn : Fn) (first cap : Array Value) (w : World), (Instr.makeFunc fn first cap).run Try.prog w = .ok (.func fn first cap) w := fun _ _ _ _ => rfl
  have e1 : decide (0 < left) = false := by simp; omega
  go_enter Try.func19, Try.ntmps19
  go_upto_region 2 with (fail)
  generalize hW : World.alloc (World.alloc (World.alloc (World.alloc _ _) _) _) _ = W1
  have hX : Boxed W1 w.heap.size (w.heap.size + 1) (w.heap.size + 1 + 1) (w.heap.size + 1 + 1 + 1) left 0 0 1 := hW ▸ boxed_made w left
  have hB : Below w.heap.size w W1 := hW ▸ boxed_below w _ _ _ _
  clear hW
  obtain ⟨m2, m3, m4⟩ : w.heap.size ≤ w.heap.size + 1 ∧ w.heap.size ≤ w.heap.size + 1 + 1 ∧ w.heap.size ≤ w.heap.size + 1 + 1 + 1 := ⟨by omega, by omega, by omega⟩
  generalize w.heap.size + 1 + 1 + 1 = b4 at *
  generalize w.heap.size + 1 + 1 = b3 at *
  generalize w.heap.size + 1 = b2 at *
  have HX := Lib.hid hX
  obtain ⟨c1, c2, c3, c4⟩ := hX.cells
  obtain ⟨z2, z3, z4, l2, l3, l4⟩ := hX.thaws
  have l1 := hX.a1.lt
  have n23 := hX.n23
  have n24 := hX.n24
  have n34 := hX.n34
  have n32 := hX.n23.symm
  have n42 := hX.n24.symm
  have n43 := hX.n34.symm
  clear hX
  go_wp2
  go_ret
  exact ⟨⟨_, _, _, _, rfl, ((HX.out.put2 (1)).put4 (2))⟩, (Below.setCell (Below.setCell hB m2 _) m4 _)⟩

theorem share_five (left n : Int) (w : World) (n0 : 0 ≤ n) (n1 : n ≤ 100000) (h1 : 0 < left) : Calls Try.prog 19 #[.int .i64 5, .int .i64 left, .int .i64 n] w fun e w' => (∃ b1 b2 b3 b4, e = .returned (.func (.func 29) #[] #[.pointer (some ⟨b1, 0, none⟩), .pointer (some ⟨b2, 0, none⟩), .pointer (some ⟨b3, 0, none⟩), .pointer (some ⟨b4, 0, none⟩)]) ∧ Boxed w' b1 b2 b3 b4 left (1) (1) (n + 1)) ∧ Below w.heap.size w w' := by
  have hmf : ∀ (fn : Fn) (first cap : Array Value) (w : World), (Instr.makeFunc fn first cap).run Try.prog w = .ok (.func fn first cap) w := fun _ _ _ _ => rfl
  go_enter Try.func19, Try.ntmps19
  go_upto_region 2 with (fail)
  generalize hW : World.alloc (World.alloc (World.alloc (World.alloc _ _) _) _) _ = W1
  have hX : Boxed W1 w.heap.size (w.heap.size + 1) (w.heap.size + 1 + 1) (w.heap.size + 1 + 1 + 1) left 0 0 1 := hW ▸ boxed_made w left
  have hB : Below w.heap.size w W1 := hW ▸ boxed_below w _ _ _ _
  clear hW
  obtain ⟨m2, m3, m4⟩ : w.heap.size ≤ w.heap.size + 1 ∧ w.heap.size ≤ w.heap.size + 1 + 1 ∧ w.heap.size ≤ w.heap.size + 1 + 1 + 1 := ⟨by omega, by omega, by omega⟩
  generalize w.heap.size + 1 + 1 + 1 = b4 at *
  generalize w.heap.size + 1 + 1 = b3 at *
  generalize w.heap.size + 1 = b2 at *
  have HX := Lib.hid hX
  obtain ⟨c1, c2, c3, c4⟩ := hX.cells
  obtain ⟨z2, z3, z4, l2, l3, l4⟩ := hX.thaws
  have l1 := hX.a1.lt
  have n23 := hX.n23
  have n24 := hX.n24
  have n34 := hX.n34
  have n32 := hX.n23.symm
  have n42 := hX.n24.symm
  have n43 := hX.n34.symm
  clear hX
  go_wp2
  go_ret
  exact ⟨⟨_, _, _, _, rfl, (((HX.out.put2 (1)).put3 (1)).put4 (n + 1))⟩, (Below.setCell (Below.setCell (Below.setCell hB m2 _) m3 _) m4 _)⟩

theorem share_five_no (left n : Int) (w : World) (n0 : 0 ≤ n) (n1 : n ≤ 100000) (h1 : left ≤ 0) : Calls Try.prog 19 #[.int .i64 5, .int .i64 left, .int .i64 n] w fun e w' => (∃ b1 b2 b3 b4, e = .returned (.func (.func 29) #[] #[.pointer (some ⟨b1, 0, none⟩), .pointer (some ⟨b2, 0, none⟩), .pointer (some ⟨b3, 0, none⟩), .pointer (some ⟨b4, 0, none⟩)]) ∧ Boxed w' b1 b2 b3 b4 left (1) (0) (2)) ∧ Below w.heap.size w w' := by
  have hmf : ∀ (fn : Fn) (first cap : Array Value) (w : World), (Instr.makeFunc fn first cap).run Try.prog w = .ok (.func fn first cap) w := fun _ _ _ _ => rfl
  have e1 : decide (0 < left) = false := by simp; omega
  go_enter Try.func19, Try.ntmps19
  go_upto_region 2 with (fail)
  generalize hW : World.alloc (World.alloc (World.alloc (World.alloc _ _) _) _) _ = W1
  have hX : Boxed W1 w.heap.size (w.heap.size + 1) (w.heap.size + 1 + 1) (w.heap.size + 1 + 1 + 1) left 0 0 1 := hW ▸ boxed_made w left
  have hB : Below w.heap.size w W1 := hW ▸ boxed_below w _ _ _ _
  clear hW
  obtain ⟨m2, m3, m4⟩ : w.heap.size ≤ w.heap.size + 1 ∧ w.heap.size ≤ w.heap.size + 1 + 1 ∧ w.heap.size ≤ w.heap.size + 1 + 1 + 1 := ⟨by omega, by omega, by omega⟩
  generalize w.heap.size + 1 + 1 + 1 = b4 at *
  generalize w.heap.size + 1 + 1 = b3 at *
  generalize w.heap.size + 1 = b2 at *
  have HX := Lib.hid hX
  obtain ⟨c1, c2, c3, c4⟩ := hX.cells
  obtain ⟨z2, z3, z4, l2, l3, l4⟩ := hX.thaws
  have l1 := hX.a1.lt
  have n23 := hX.n23
  have n24 := hX.n24
  have n34 := hX.n34
  have n32 := hX.n23.symm
  have n42 := hX.n24.symm
  have n43 := hX.n34.symm
  clear hX
  go_wp2
  go_ret
  exact ⟨⟨_, _, _, _, rfl, ((HX.out.put2 (1)).put4 (2))⟩, (Below.setCell (Below.setCell hB m2 _) m4 _)⟩

theorem share_else (kind left n : Int) (w : World) (n0 : 0 ≤ n) (n1 : n ≤ 100000) (h1 : ¬ kind = 1) (h2 : ¬ kind = 2) (h3 : ¬ kind = 3) (h4 : ¬ kind = 4) (h5 : ¬ kind = 5) : Calls Try.prog 19 #[.int .i64 kind, .int .i64 left, .int .i64 n] w fun e w' => (∃ b1 b2 b3 b4, e = .returned (.func (.func 29) #[] #[.pointer (some ⟨b1, 0, none⟩), .pointer (some ⟨b2, 0, none⟩), .pointer (some ⟨b3, 0, none⟩), .pointer (some ⟨b4, 0, none⟩)]) ∧ Boxed w' b1 b2 b3 b4 left (0) (0) (1)) ∧ Below w.heap.size w w' := by
  have hmf : ∀ (fn : Fn) (first cap : Array Value) (w : World), (Instr.makeFunc fn first cap).run Try.prog w = .ok (.func fn first cap) w := fun _ _ _ _ => rfl
  have g1 : (kind == 1) = false := by simp [h1]
  have g2 : (kind == 2) = false := by simp [h2]
  have g3 : (kind == 3) = false := by simp [h3]
  have g4 : (kind == 4) = false := by simp [h4]
  have g5 : (kind == 5) = false := by simp [h5]
  go_enter Try.func19, Try.ntmps19
  go_upto_region 2 with (fail)
  generalize hW : World.alloc (World.alloc (World.alloc (World.alloc _ _) _) _) _ = W1
  have hX : Boxed W1 w.heap.size (w.heap.size + 1) (w.heap.size + 1 + 1) (w.heap.size + 1 + 1 + 1) left 0 0 1 := hW ▸ boxed_made w left
  have hB : Below w.heap.size w W1 := hW ▸ boxed_below w _ _ _ _
  clear hW
  obtain ⟨m2, m3, m4⟩ : w.heap.size ≤ w.heap.size + 1 ∧ w.heap.size ≤ w.heap.size + 1 + 1 ∧ w.heap.size ≤ w.heap.size + 1 + 1 + 1 := ⟨by omega, by omega, by omega⟩
  generalize w.heap.size + 1 + 1 + 1 = b4 at *
  generalize w.heap.size + 1 + 1 = b3 at *
  generalize w.heap.size + 1 = b2 at *
  have HX := Lib.hid hX
  obtain ⟨c1, c2, c3, c4⟩ := hX.cells
  obtain ⟨z2, z3, z4, l2, l3, l4⟩ := hX.thaws
  have l1 := hX.a1.lt
  have n23 := hX.n23
  have n24 := hX.n24
  have n34 := hX.n34
  have n32 := hX.n23.symm
  have n42 := hX.n24.symm
  have n43 := hX.n34.symm
  clear hX
  go_wp2
  go_ret
  exact ⟨⟨_, _, _, _, rfl, HX.out⟩, hB⟩

theorem share_any (kind left n : Int) (w : World) (n0 : 0 ≤ n) (n1 : n ≤ 100000) : Calls Try.prog 19 #[.int .i64 kind, .int .i64 left, .int .i64 n] w fun e w' => (∃ b1 b2 b3 b4, e = .returned (.func (.func 29) #[] #[.pointer (some ⟨b1, 0, none⟩), .pointer (some ⟨b2, 0, none⟩), .pointer (some ⟨b3, 0, none⟩), .pointer (some ⟨b4, 0, none⟩)]) ∧ Boxed w' b1 b2 b3 b4 left ((Ju.pq kind left n).1) ((Ju.pq kind left n).2.1) ((Ju.pq kind left n).2.2)) ∧ Below w.heap.size w w' := by
  by_cases h1 : kind = 1
  · subst h1; exact share_one left n w n0 n1
  by_cases h2 : kind = 2
  · subst h2; exact share_two left n w n0 n1
  by_cases h3 : kind = 3
  · subst h3
    by_cases hl : 0 < left
    · by_cases hn : 1 < n
      · rw [show Ju.pq 3 left n = (0, 1, n - 1) by unfold Ju.pq; simp [hl, hn]]; exact share_three left n w n0 n1 hl hn
      · rw [show Ju.pq 3 left n = (0, 0, 1) by unfold Ju.pq; simp [hn]]; exact share_three_one left n w n0 n1 hl (by omega)
    · rw [show Ju.pq 3 left n = (0, 0, 1) by unfold Ju.pq; simp [hl]]; exact share_three_no left n w n0 n1 (by omega)
  by_cases h4 : kind = 4
  · subst h4
    by_cases hl : 0 < left
    · rw [show Ju.pq 4 left n = (1, 2, 2 * n) by unfold Ju.pq; simp [hl]]; exact share_four left n w n0 n1 hl
    · rw [show Ju.pq 4 left n = (1, 0, 2) by unfold Ju.pq; simp [hl]]; exact share_four_no left n w n0 n1 (by omega)
  by_cases h5 : kind = 5
  · subst h5
    by_cases hl : 0 < left
    · rw [show Ju.pq 5 left n = (1, 1, n + 1) by unfold Ju.pq; simp [hl]]; exact share_five left n w n0 n1 hl
    · rw [show Ju.pq 5 left n = (1, 0, 2) by unfold Ju.pq; simp [hl]]; exact share_five_no left n w n0 n1 (by omega)
  rw [show Ju.pq kind left n = (0, 0, 1) by unfold Ju.pq; simp [h1, h2, h3, h4, h5]]
  exact share_else kind left n w n0 n1 h1 h2 h3 h4 h5

end Go.Proofs.Yteopkakjnjfheaa.Fix
