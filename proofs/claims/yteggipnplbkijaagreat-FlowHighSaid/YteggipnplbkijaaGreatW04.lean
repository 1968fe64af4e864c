/- Boxes laid by the program: what its functions do, part 4. -/
import Derived.Deep.MidRow
import Derived.ProofKit
import Derived.ChangeSame
import Derived.Below
import Derived.DeepKeys
import Derived.Laws.StructEq
import Derived.OpenShut
import Derived.Lib.SmallJoins
import Derived.Deep.QuietTactic
import Derived.BigQuiet
import Derived.Lib.MinMax
import Derived.Test.YteggipnplbkijaaGreatWK
import Derived.Test.YteggipnplbkijaaGreatW01
import Derived.Test.YteggipnplbkijaaGreatW03
set_option linter.unusedVariables false
set_option linter.unusedSimpArgs false
set_option linter.unusedSectionVars false
set_option maxRecDepth 100000
namespace Go.Proofs.YteggipnplbkijaaGreat.Fix
open Go.ChangeShapes Go.WideShapes Go.ChangeAt Go.RowKit
theorem ret_four {a b c d a' b' c' d':Int} (h1:a=a') (h2:b=b') (h3:c=c') (h4:d=d'):Ending.returned (.agg #[.int .i64 a,.int .i64 b,.int .i64 c,.int .i64 d]) = .returned (.agg #[.int .i64 a',.int .i64 b',.int .i64 c',.int .i64 d']):=by rw [h1,h2,h3,h4]
theorem lsides_any (k0 n0 k1 n1 k2 n2 k3 n3 base:Int) (w:World):Calls Tryz.prog 29 #[.agg #[.int .i64 k0,.int .i64 n0,.int .i64 k1,.int .i64 n1,.int .i64 k2,.int .i64 n2,.int .i64 k3,.int .i64 n3],.int .i64 base] w fun e w'=>e = .returned (.agg #[.int .i64 (Fx.len k0 n0 base 0),.int .i64 (Fx.len k1 n1 base 0),.int .i64 (Fx.len k2 n2 base 0),.int .i64 (Fx.len k3 n3 base 0)])∧Below w.heap.size w w':=by
 have i0:∀ w:World,(Instr.index 29 (.agg #[.int .i64 k0,.int .i64 n0,.int .i64 k1,.int .i64 n1,.int .i64 k2,.int .i64 n2,.int .i64 k3,.int .i64 n3]) (.int .i64 0)).run Tryz.prog w = .ok (.agg #[.int .i64 k0,.int .i64 n0]) w:=fun _=>by kernel_rfl
 have i1:∀ w:World,(Instr.index 29 (.agg #[.int .i64 k0,.int .i64 n0,.int .i64 k1,.int .i64 n1,.int .i64 k2,.int .i64 n2,.int .i64 k3,.int .i64 n3]) (.int .i64 1)).run Tryz.prog w = .ok (.agg #[.int .i64 k1,.int .i64 n1]) w:=fun _=>by kernel_rfl
 have i2:∀ w:World,(Instr.index 29 (.agg #[.int .i64 k0,.int .i64 n0,.int .i64 k1,.int .i64 n1,.int .i64 k2,.int .i64 n2,.int .i64 k3,.int .i64 n3]) (.int .i64 2)).run Tryz.prog w = .ok (.agg #[.int .i64 k2,.int .i64 n2]) w:=fun _=>by kernel_rfl
 have i3:∀ w:World,(Instr.index 29 (.agg #[.int .i64 k0,.int .i64 n0,.int .i64 k1,.int .i64 n1,.int .i64 k2,.int .i64 n2,.int .i64 k3,.int .i64 n3]) (.int .i64 3)).run Tryz.prog w = .ok (.agg #[.int .i64 k3,.int .i64 n3]) w:=fun _=>by kernel_rfl
 go_enter Tryz.func29,Tryz.ntmps29
 go_upto_region 2 with (fail)
 (generalize hW:World.alloc (World.alloc (World.alloc w _) _) _=W0;have A0:At W0 (w.heap.size) (.cells #[.int .i64 k0,.int .i64 n0,.int .i64 k1,.int .i64 n1,.int .i64 k2,.int .i64 n2,.int .i64 k3,.int .i64 n3] 29):=(by ((rw [← hW]) <;> exact At.alloc (At.alloc (At.new' _ Z3s) _) _));have A1:At W0 (w.heap.size + 1) (.cells #[.int .i64 0,.int .i64 0,.int .i64 0,.int .i64 0] 30):=Z4e;have A2:At W0 (w.heap.size + 1 + 1) (.cells #[.int .i64 0,.int .i64 0,.int .i64 0,.int .i64 0] 30):=(by ((rw [← hW]) <;> exact At.new' _ Z3s));have hB:Below w.heap.size w W0:=(by ((rw [← hW]) <;> exact Below.alloc' (Below.alloc' (Below.alloc' (Below.refl _ _) _) _) _));clear hW;obtain ⟨l0,c0_0,c0_1,c0_2,c0_3,c0_4,c0_5,c0_6,c0_7⟩:=At.eight A0;obtain ⟨l1,c1_0,c1_1,c1_2,c1_3⟩:=At.four A1;have z1_0:=A1.thaw 0;have z1_1:=A1.thaw 1;have z1_2:=A1.thaw 2;have z1_3:=A1.thaw 3;obtain ⟨l2,c2_0,c2_1,c2_2,c2_3⟩:=At.four A2;have z2_0:=A2.thaw 0;have z2_1:=A2.thaw 1;have z2_2:=A2.thaw 2;have z2_3:=A2.thaw 3)
 go_wp2
 clear l0 c0_0 c0_1 c0_2 c0_3 c0_4 c0_5 c0_6 c0_7 A0
 refine wp_loop_rounds 5 ?_
 rw [rounds_succ]
 go_upto_region 5 with (fail)
 (generalize hW:World.alloc _ _=W1;clear l1 c1_0 c1_1 c1_2 c1_3 z1_0 z1_1 z1_2 z1_3 l2 c2_0 c2_1 c2_2 c2_3 z2_0 z2_1 z2_2 z2_3;have A3:At W1 _ _:=hW ▸ At.new _ _;replace A1:At W1 _ _:=hW ▸ At.alloc A1 _;replace A2:At W1 _ _:=hW ▸ At.alloc A2 _;replace hB:Below w.heap.size w W1:=hW ▸ Below.alloc' hB _;clear hW;obtain ⟨l1,c1_0,c1_1,c1_2,c1_3⟩:=At.four A1;have z1_0:=A1.thaw 0;have z1_1:=A1.thaw 1;have z1_2:=A1.thaw 2;have z1_3:=A1.thaw 3;obtain ⟨l2,c2_0,c2_1,c2_2,c2_3⟩:=At.four A2;have z2_0:=A2.thaw 0;have z2_1:=A2.thaw 1;have z2_2:=A2.thaw 2;have z2_3:=A2.thaw 3;obtain ⟨l3,c3_0,c3_1⟩:=At.two A3)
 go_upto_region 6 with (first | (go_at_call 31;(with_reducible refine (len_any _ _ _ _ _).mono ?_);rintro e w' ⟨rfl,hb⟩;(clear l1 c1_0 c1_1 c1_2 c1_3 z1_0 z1_1 z1_2 z1_3 l2 c2_0 c2_1 c2_2 c2_3 z2_0 z2_1 z2_2 z2_3 l3 c3_0 c3_1);(replace hB:=Below.after2 Z3g (Nat.le_refl _) hb);replace A1:=At.keep Z3h hb;replace A2:=At.keep Z3j hb;replace A3:=At.keep Z3m hb;clear hb;obtain ⟨l1,c1_0,c1_1,c1_2,c1_3⟩:=At.four A1;have z1_0:=A1.thaw 0;have z1_1:=A1.thaw 1;have z1_2:=A1.thaw 2;have z1_3:=A1.thaw 3;obtain ⟨l2,c2_0,c2_1,c2_2,c2_3⟩:=At.four A2;have z2_0:=A2.thaw 0;have z2_1:=A2.thaw 1;have z2_2:=A2.thaw 2;have z2_3:=A2.thaw 3;obtain ⟨l3,c3_0,c3_1⟩:=At.two A3))
 generalize hW:World.setCell _ _ _=W2
 clear l1 c1_0 c1_1 c1_2 c1_3 z1_0 z1_1 z1_2 z1_3 l2 c2_0 c2_1 c2_2 c2_3 z2_0 z2_1 z2_2 z2_3 l3 c3_0 c3_1 A3
 replace A2:At W2 (w.heap.size + 1 + 1) (.cells #[.int .i64 (Fx.len k0 n0 base 0),.int .i64 0,.int .i64 0,.int .i64 0] 30):=hW ▸ At.set A2 0 _
 replace A1:At W2 (w.heap.size + 1) _:=hW ▸ At.off A1 Z3f 0 _
 replace hB:Below w.heap.size w W2:=hW ▸ Below.setCell hB Z3p _
 clear hW
 obtain ⟨l1,c1_0,c1_1,c1_2,c1_3⟩:=At.four A1
 obtain ⟨l2,c2_0,c2_1,c2_2,c2_3⟩:=At.four A2
 have z1_0:=A1.thaw 0
 have z1_1:=A1.thaw 1
 have z1_2:=A1.thaw 2
 have z1_3:=A1.thaw 3
 have z2_0:=A2.thaw 0
 have z2_1:=A2.thaw 1
 have z2_2:=A2.thaw 2
 have z2_3:=A2.thaw 3
 go_wp2
 rw [rounds_succ]
 go_upto_region 5 with (fail)
 (generalize hW:World.alloc _ _=W1;clear l1 c1_0 c1_1 c1_2 c1_3 z1_0 z1_1 z1_2 z1_3 l2 c2_0 c2_1 c2_2 c2_3 z2_0 z2_1 z2_2 z2_3;have A3:At W1 _ _:=hW ▸ At.new _ _;replace A1:At W1 _ _:=hW ▸ At.alloc A1 _;replace A2:At W1 _ _:=hW ▸ At.alloc A2 _;replace hB:Below w.heap.size w W1:=hW ▸ Below.alloc' hB _;clear hW;obtain ⟨l1,c1_0,c1_1,c1_2,c1_3⟩:=At.four A1;have z1_0:=A1.thaw 0;have z1_1:=A1.thaw 1;have z1_2:=A1.thaw 2;have z1_3:=A1.thaw 3;obtain ⟨l2,c2_0,c2_1,c2_2,c2_3⟩:=At.four A2;have z2_0:=A2.thaw 0;have z2_1:=A2.thaw 1;have z2_2:=A2.thaw 2;have z2_3:=A2.thaw 3;obtain ⟨l3,c3_0,c3_1⟩:=At.two A3)
 go_upto_region 6 with (first | (go_at_call 31;(with_reducible refine (len_any _ _ _ _ _).mono ?_);rintro e w' ⟨rfl,hb⟩;(clear l1 c1_0 c1_1 c1_2 c1_3 z1_0 z1_1 z1_2 z1_3 l2 c2_0 c2_1 c2_2 c2_3 z2_0 z2_1 z2_2 z2_3 l3 c3_0 c3_1);(replace hB:=Below.after2 Z3g (Nat.le_refl _) hb);replace A1:=At.keep Z3h hb;replace A2:=At.keep Z3j hb;replace A3:=At.keep Z3m hb;clear hb;obtain ⟨l1,c1_0,c1_1,c1_2,c1_3⟩:=At.four A1;have z1_0:=A1.thaw 0;have z1_1:=A1.thaw 1;have z1_2:=A1.thaw 2;have z1_3:=A1.thaw 3;obtain ⟨l2,c2_0,c2_1,c2_2,c2_3⟩:=At.four A2;have z2_0:=A2.thaw 0;have z2_1:=A2.thaw 1;have z2_2:=A2.thaw 2;have z2_3:=A2.thaw 3;obtain ⟨l3,c3_0,c3_1⟩:=At.two A3))
 generalize hW:World.setCell _ _ _=W2
 clear l1 c1_0 c1_1 c1_2 c1_3 z1_0 z1_1 z1_2 z1_3 l2 c2_0 c2_1 c2_2 c2_3 z2_0 z2_1 z2_2 z2_3 l3 c3_0 c3_1 A3
 replace A2:At W2 (w.heap.size + 1 + 1) (.cells #[.int .i64 (Fx.len k0 n0 base 0),.int .i64 (Fx.len k1 n1 base 0),.int .i64 0,.int .i64 0] 30):=hW ▸ At.set A2 1 _
 replace A1:At W2 (w.heap.size + 1) _:=hW ▸ At.off A1 Z3f 1 _
 replace hB:Below w.heap.size w W2:=hW ▸ Below.setCell hB Z3p _
 clear hW
 obtain ⟨l1,c1_0,c1_1,c1_2,c1_3⟩:=At.four A1
 obtain ⟨l2,c2_0,c2_1,c2_2,c2_3⟩:=At.four A2
 have z1_0:=A1.thaw 0
 have z1_1:=A1.thaw 1
 have z1_2:=A1.thaw 2
 have z1_3:=A1.thaw 3
 have z2_0:=A2.thaw 0
 have z2_1:=A2.thaw 1
 have z2_2:=A2.thaw 2
 have z2_3:=A2.thaw 3
 go_wp2
 rw [rounds_succ]
 go_upto_region 5 with (fail)
 (generalize hW:World.alloc _ _=W1;clear l1 c1_0 c1_1 c1_2 c1_3 z1_0 z1_1 z1_2 z1_3 l2 c2_0 c2_1 c2_2 c2_3 z2_0 z2_1 z2_2 z2_3;have A3:At W1 _ _:=hW ▸ At.new _ _;replace A1:At W1 _ _:=hW ▸ At.alloc A1 _;replace A2:At W1 _ _:=hW ▸ At.alloc A2 _;replace hB:Below w.heap.size w W1:=hW ▸ Below.alloc' hB _;clear hW;obtain ⟨l1,c1_0,c1_1,c1_2,c1_3⟩:=At.four A1;have z1_0:=A1.thaw 0;have z1_1:=A1.thaw 1;have z1_2:=A1.thaw 2;have z1_3:=A1.thaw 3;obtain ⟨l2,c2_0,c2_1,c2_2,c2_3⟩:=At.four A2;have z2_0:=A2.thaw 0;have z2_1:=A2.thaw 1;have z2_2:=A2.thaw 2;have z2_3:=A2.thaw 3;obtain ⟨l3,c3_0,c3_1⟩:=At.two A3)
 go_upto_region 6 with (first | (go_at_call 31;(with_reducible refine (len_any _ _ _ _ _).mono ?_);rintro e w' ⟨rfl,hb⟩;(clear l1 c1_0 c1_1 c1_2 c1_3 z1_0 z1_1 z1_2 z1_3 l2 c2_0 c2_1 c2_2 c2_3 z2_0 z2_1 z2_2 z2_3 l3 c3_0 c3_1);(replace hB:=Below.after2 Z3g (Nat.le_refl _) hb);replace A1:=At.keep Z3h hb;replace A2:=At.keep Z3j hb;replace A3:=At.keep Z3m hb;clear hb;obtain ⟨l1,c1_0,c1_1,c1_2,c1_3⟩:=At.four A1;have z1_0:=A1.thaw 0;have z1_1:=A1.thaw 1;have z1_2:=A1.thaw 2;have z1_3:=A1.thaw 3;obtain ⟨l2,c2_0,c2_1,c2_2,c2_3⟩:=At.four A2;have z2_0:=A2.thaw 0;have z2_1:=A2.thaw 1;have z2_2:=A2.thaw 2;have z2_3:=A2.thaw 3;obtain ⟨l3,c3_0,c3_1⟩:=At.two A3))
 generalize hW:World.setCell _ _ _=W2
 clear l1 c1_0 c1_1 c1_2 c1_3 z1_0 z1_1 z1_2 z1_3 l2 c2_0 c2_1 c2_2 c2_3 z2_0 z2_1 z2_2 z2_3 l3 c3_0 c3_1 A3
 replace A2:At W2 (w.heap.size + 1 + 1) (.cells #[.int .i64 (Fx.len k0 n0 base 0),.int .i64 (Fx.len k1 n1 base 0),.int .i64 (Fx.len k2 n2 base 0),.int .i64 0] 30):=hW ▸ At.set A2 2 _
 replace A1:At W2 (w.heap.size + 1) _:=hW ▸ At.off A1 Z3f 2 _
 replace hB:Below w.heap.size w W2:=hW ▸ Below.setCell hB Z3p _
 clear hW
 obtain ⟨l1,c1_0,c1_1,c1_2,c1_3⟩:=At.four A1
 obtain ⟨l2,c2_0,c2_1,c2_2,c2_3⟩:=At.four A2
 have z1_0:=A1.thaw 0
 have z1_1:=A1.thaw 1
 have z1_2:=A1.thaw 2
 have z1_3:=A1.thaw 3
 have z2_0:=A2.thaw 0
 have z2_1:=A2.thaw 1
 have z2_2:=A2.thaw 2
 have z2_3:=A2.thaw 3
 go_wp2
 rw [rounds_succ]
 go_upto_region 5 with (fail)
 (generalize hW:World.alloc _ _=W1;clear l1 c1_0 c1_1 c1_2 c1_3 z1_0 z1_1 z1_2 z1_3 l2 c2_0 c2_1 c2_2 c2_3 z2_0 z2_1 z2_2 z2_3;have A3:At W1 _ _:=hW ▸ At.new _ _;replace A1:At W1 _ _:=hW ▸ At.alloc A1 _;replace A2:At W1 _ _:=hW ▸ At.alloc A2 _;replace hB:Below w.heap.size w W1:=hW ▸ Below.alloc' hB _;clear hW;obtain ⟨l1,c1_0,c1_1,c1_2,c1_3⟩:=At.four A1;have z1_0:=A1.thaw 0;have z1_1:=A1.thaw 1;have z1_2:=A1.thaw 2;have z1_3:=A1.thaw 3;obtain ⟨l2,c2_0,c2_1,c2_2,c2_3⟩:=At.four A2;have z2_0:=A2.thaw 0;have z2_1:=A2.thaw 1;have z2_2:=A2.thaw 2;have z2_3:=A2.thaw 3;obtain ⟨l3,c3_0,c3_1⟩:=At.two A3)
 go_upto_region 6 with (first | (go_at_call 31;(with_reducible refine (len_any _ _ _ _ _).mono ?_);rintro e w' ⟨rfl,hb⟩;(clear l1 c1_0 c1_1 c1_2 c1_3 z1_0 z1_1 z1_2 z1_3 l2 c2_0 c2_1 c2_2 c2_3 z2_0 z2_1 z2_2 z2_3 l3 c3_0 c3_1);(replace hB:=Below.after2 Z3g (Nat.le_refl _) hb);replace A1:=At.keep Z3h hb;replace A2:=At.keep Z3j hb;replace A3:=At.keep Z3m hb;clear hb;obtain ⟨l1,c1_0,c1_1,c1_2,c1_3⟩:=At.four A1;have z1_0:=A1.thaw 0;have z1_1:=A1.thaw 1;have z1_2:=A1.thaw 2;have z1_3:=A1.thaw 3;obtain ⟨l2,c2_0,c2_1,c2_2,c2_3⟩:=At.four A2;have z2_0:=A2.thaw 0;have z2_1:=A2.thaw 1;have z2_2:=A2.thaw 2;have z2_3:=A2.thaw 3;obtain ⟨l3,c3_0,c3_1⟩:=At.two A3))
 generalize hW:World.setCell _ _ _=W2
 clear l1 c1_0 c1_1 c1_2 c1_3 z1_0 z1_1 z1_2 z1_3 l2 c2_0 c2_1 c2_2 c2_3 z2_0 z2_1 z2_2 z2_3 l3 c3_0 c3_1 A3
 replace A2:At W2 (w.heap.size + 1 + 1) (.cells #[.int .i64 (Fx.len k0 n0 base 0),.int .i64 (Fx.len k1 n1 base 0),.int .i64 (Fx.len k2 n2 base 0),.int .i64 (Fx.len k3 n3 base 0)] 30):=hW ▸ At.set A2 3 _
 replace A1:At W2 (w.heap.size + 1) _:=hW ▸ At.off A1 Z3f 3 _
 replace hB:Below w.heap.size w W2:=hW ▸ Below.setCell hB Z3p _
 clear hW
 obtain ⟨l1,c1_0,c1_1,c1_2,c1_3⟩:=At.four A1
 obtain ⟨l2,c2_0,c2_1,c2_2,c2_3⟩:=At.four A2
 have z1_0:=A1.thaw 0
 have z1_1:=A1.thaw 1
 have z1_2:=A1.thaw 2
 have z1_3:=A1.thaw 3
 have z2_0:=A2.thaw 0
 have z2_1:=A2.thaw 1
 have z2_2:=A2.thaw 2
 have z2_3:=A2.thaw 3
 go_wp2
 rw [rounds_succ]
 go_wp2
 refine bodyPost_ret (v:= .agg #[.int .i64 _,.int .i64 _,.int .i64 _,.int .i64 _]) (by simp [results,Tryz.results29,go_sem, *];first | done | exact ⟨rfl,rfl⟩ | exact ⟨rfl,rfl,rfl,rfl⟩ | rfl) rfl ⟨ret_four rfl rfl rfl rfl,?_⟩
 exact Z6
def cell (t:Re.St) (i:Nat):Value:=if Re.isB i=true then .bool (t.b i) else .int .i64 (t.c i)
def cells (t:Re.St):Array Value:=((List.range 55).map (cell t)).toArray
theorem cells_size (t:Re.St):(cells t).size=55:=by simp [cells]
theorem cells_get (t:Re.St) {i:Nat} (h:i<55):(cells t)[i]? = some (cell t i):=by simp [cells,h]
theorem cell_int (t:Re.St) {i:Nat} (h:Re.isB i=false):cell t i = .int .i64 (t.c i):=by simp [cell,h]
theorem cell_bool (t:Re.St) {i:Nat} (h:Re.isB i=true):cell t i = .bool (t.b i):=by simp [cell,h]
theorem cells_int (t:Re.St) {i:Nat} (h:i<55) (hb:Re.isB i=false):(cells t)[i]? = some (.int .i64 (t.c i)):=by rw [cells_get t h,cell_int t hb]
theorem cells_bool (t:Re.St) {i:Nat} (h:i<55) (hb:Re.isB i=true):(cells t)[i]? = some (.bool (t.b i)):=by rw [cells_get t h,cell_bool t hb]
theorem cell_one (t:Re.St) (i:Nat):(cell t i).oneCell'=true:=by unfold cell;split <;> rfl
theorem cells_one (t:Re.St):(cells t).all (·.oneCell')=true:=by
 refine Array.all_eq_true_iff_forall_mem.2 fun v hv => ?_
 simp only [cells,List.mem_toArray,List.mem_map] at hv
 obtain ⟨i,_,rfl⟩:=hv
 exact cell_one t i
theorem cells_set {s t:Re.St} {i:Nat} {v:Value} (hv:v=cell t i) (h:∀ j,j<55→j≠i→cell s j=cell t j):(cells s).setIfInBounds i v=cells t:=by
 apply Array.ext_getElem?
 intro j
 rw [Array.getElem?_setIfInBounds]
 by_cases hj:j<55
 · by_cases e:i=j
   · subst e;rw [if_pos rfl,cells_size,if_pos hj,cells_get t hj,hv]
   · rw [if_neg e,cells_get s hj,cells_get t hj,h j hj (fun q=>e q.symm)]
 · have e1:(cells s)[j]? = none:=Array.getElem?_eq_none Z4g
   have e2:(cells t)[j]? = none:=Array.getElem?_eq_none Z4g
   rw [e1,e2,cells_size]
   by_cases e:i=j
   · rw [if_pos e,if_neg Z3f]
   · rw [if_neg e]
def mix (f:Nat→Int→Int) (t:Re.St) (k:Nat):Re.St:=⟨fun i=>if i<k then f i (Re.num t i) else t.c i,fun i=>if i<k then f i (Re.num t i) == 1 else t.b i⟩
def ins (t:Re.St) (k:Nat):List Int:=(List.range k).map (Re.num t)
theorem ins_succ (t:Re.St) (k:Nat):ins t (k + 1)=ins t k ++ [Re.num t k]:=by simp [ins,List.range_succ]
theorem ins_len (t:Re.St) (k:Nat):(ins t k).length=k:=by simp [ins]
theorem mix_lt (f:Nat→Int→Int) (t:Re.St) {k i:Nat} (h:i<k):(mix f t k).c i=f i (Re.num t i):=by simp [mix,h]
theorem mix_ge (f:Nat→Int→Int) (t:Re.St) {k i:Nat} (h:k≤i):(mix f t k).c i=t.c i:=by simp [mix,show ¬ i<k by omega]
theorem mix_bge (f:Nat→Int→Int) (t:Re.St) {k i:Nat} (h:k≤i):(mix f t k).b i=t.b i:=by simp [mix,show ¬ i<k by omega]
theorem mix_blt (f:Nat→Int→Int) (t:Re.St) {k i:Nat} (h:i<k):(mix f t k).b i=(f i (Re.num t i) == 1):=by simp [mix,h]
theorem mix_zero (f:Nat→Int→Int) (t:Re.St):mix f t 0=t:=by simp [mix]
theorem mix_set_int (f:Nat→Int→Int) (t:Re.St) {k:Nat} (hb:Re.isB k=false):(cells (mix f t k)).setIfInBounds k (.int .i64 (f k (t.c k)))=cells (mix f t (k + 1)):=by
 refine cells_set ?_ fun j _ hj => ?_
 · rw [cell_int _ hb,mix_lt f t (Nat.lt_succ_self k),Re.num_c hb]
 · unfold cell mix
   simp only [show (j<k + 1)=(j<k) by simp;omega]
theorem mix_set_bool (f:Nat→Int→Int) (t:Re.St) {k:Nat} (hb:Re.isB k=true):(cells (mix f t k)).setIfInBounds k (.bool (f k (Re.num t k) == 1))=cells (mix f t (k + 1)):=by
 refine cells_set ?_ fun j _ hj => ?_
 · rw [cell_bool _ hb,mix_blt f t (Nat.lt_succ_self k)]
 · unfold cell mix
   simp only [show (j<k + 1)=(j<k) by simp;omega]
def Out (M:Nat→Prop) (W W':World):Prop:=Below 0 W W'∧∀ b,b<W.heap.size→¬ M b→W'.heap[b]? = W.heap[b]?
theorem Out.refl (M:Nat→Prop) (W:World):Out M W W:=⟨Below.refl _ _,fun _ _ _=>rfl⟩
theorem Out.size {M:Nat→Prop} {W W':World} (h:Out M W W'):W.heap.size≤W'.heap.size:=h.1.size
theorem Out.trans {M:Nat→Prop} {X Y Z:World} (h:Out M X Y) (k:Out M Y Z):Out M X Z:=⟨h.1.trans k.1,fun b hb hm=>(k.2 b (Nat.lt_of_lt_of_le hb h.size) hm).trans (h.2 b hb hm)⟩
theorem Out.mono {M M':Nat→Prop} {X Y:World} (h:Out M X Y) (hm:∀ b,b<X.heap.size→M b→M' b):Out M' X Y:=⟨h.1,fun b hb hn=>h.2 b hb fun q=>hn (hm b hb q)⟩
theorem Out.of_below {M:Nat→Prop} {X Y:World} (h:Below X.heap.size X Y):Out M X Y:=⟨h.mono (Nat.zero_le _),fun b hb _=>h.block b hb⟩
theorem Out.below {M:Nat→Prop} {n:Nat} {X Y:World} (h:Out M X Y) (hn:n≤X.heap.size) (hm:∀ b,b<n→¬ M b):Below n X Y:=⟨h.1.os,h.1.tape,h.1.output,h.1.size,fun b hb=>h.2 b (Nat.lt_of_lt_of_le hb hn) (hm b hb)⟩
theorem Out.set {M:Nat→Prop} {X Y:World} (h:Out M X Y) {b:Nat} (hb:M b) (i:Nat) (v:Value):Out M X (Y.setCell ⟨b,i,none⟩ v) :=
 ⟨Below.setCell h.1 Z3t _,fun c hc hm=>(Below.heap_setCell Y ⟨b,i,none⟩ v c (fun e=>hm (e ▸ hb))).trans (h.2 c hc hm)⟩
theorem At.out {M:Nat→Prop} {X Y:World} {b:Nat} {o:Obj} (h:At X b o) (hm:¬ M b) (k:Out M X Y):At Y b o:=(k.2 b h.lt hm).trans h
theorem setRow_same {W:World} {b:Nat} {cs:Array Value} {T:TypeId} (h:At W b (.cells cs T)):W.setRow b cs=W:=by
 unfold At at h
 obtain ⟨hlt,he⟩:=Array.getElem?_eq_some_iff.1 h
 cases W with
 | mk heap tape drawn os output =>
   unfold World.setRow
   congr 1
   apply Array.ext
   · simp
   · intro k h1 h2
     simp only [Array.getElem_modify]
     split
     · rename_i hk;subst hk;simp at he;simp [he]
     · rfl
theorem At.setRow {W:World} {b:Nat} {cs:Array Value} {T:TypeId} (h:At W b (.cells cs T)) (cs':Array Value):At (W.setRow b cs') b (.cells cs' T):=setRow_heap W b cs cs' T _ h
theorem At.offRow {W:World} {b b':Nat} {o:Obj} (h:At W b o) (hne:b≠b') (cs':Array Value):At (W.setRow b' cs') b o:=by
 unfold At World.setRow at *
 simp only [Array.getElem?_modify]
 rw [if_neg (fun e=>hne e.symm)]
 exact h
theorem Out.setRow {M:Nat→Prop} {X Y:World} (h:Out M X Y) {b:Nat} (hb:M b) (cs:Array Value):Out M X (Y.setRow b cs) :=
 ⟨⟨h.1.os,h.1.tape,h.1.output,by simpa [World.setRow] using h.1.size,fun _ hb=>absurd hb (Nat.not_lt_zero _)⟩,fun c hc hm=>by
  have:=h.2 c hc hm
  unfold World.setRow
  simp only [Array.getElem?_modify]
  rw [if_neg (by rintro rfl;exact hm hb)]
  exact this⟩
theorem styleSize:(Tryz.prog.info? 37).map (·.size)=some 55:=by kernel_rfl
theorem load_style {W:World} {b:Nat} {s:Re.St} (h:At W b (.cells (cells s) 37)):(Instr.loadAt 37 (.pointer (some ⟨b,0,none⟩))).run Tryz.prog W = .ok (.agg (cells s)) W:=by
 simp only [Instr.loadAt,Instr.sureAddr,Sem.run_bind,Sem.run_pure,Result.andThen_ok,run_loadVar_row W b 37 37 (cells s) (0,0) _ h Tryz.underlying37 rfl (by rw [cells_size];exact styleSize)]
theorem loadVar_style {W:World} {b:Nat} {s:Re.St} (h:At W b (.cells (cells s) 37)):(loadVar 37 ⟨b,0,none⟩).run Tryz.prog W = .ok (.agg (cells s)) W :=
 run_loadVar_row W b 37 37 (cells s) (0,0) _ h Tryz.underlying37 rfl (by rw [cells_size];exact styleSize)
theorem store_style {W:World} {b:Nat} {s t:Re.St} (h:At W b (.cells (cells s) 37)):(Instr.storeAt 37 (.pointer (some ⟨b,0,none⟩)) (.agg (cells t))).run Tryz.prog W = .ok () (W.setRow b (cells t)):=by
 simp only [Instr.storeAt,Instr.sureAddr,Sem.run_bind,Sem.run_pure,Result.andThen_ok,run_storeVar_row W b 37 37 (cells s) (cells t) h (by rw [cells_size];exact styleSize) (by rw [cells_size,cells_size]) (cells_one t)]
theorem store_style_same {W:World} {b:Nat} {s:Re.St} (h:At W b (.cells (cells s) 37)):(Instr.storeAt 37 (.pointer (some ⟨b,0,none⟩)) (.agg (cells s))).run Tryz.prog W = .ok () W:=by
 rw [store_style h,setRow_same h]
theorem build_style (W:World):(Instr.build 37 #[]).run Tryz.prog W = .ok (.agg (cells Re.zero)) W:=by kernel_rfl
theorem alloc_style (W:World):(Instr.alloc 37 true (.tuple #[])).run Tryz.prog W = .ok (.pointer (some ⟨W.heap.size,0,none⟩)) (W.alloc (.cells (cells Re.zero) 37)):=by kernel_rfl
structure Asks (F:FuncId) (caps:Array Value) (f:Nat→Int→Int) (mine:Nat→Prop) (I:List Int→World→Prop):Prop where
 keep:∀ xs W W',I xs W→Below W.heap.size W W'→I xs W'
 set:∀ xs W b i v,I xs W→¬ mine b→I xs (W.setCell ⟨b,i,none⟩ v)
 enters:∀ (x:Int) (w:World),(callFunc F (#[.int .i64 x] ++ caps)).run Tryz.prog w = .ok (.enter F (#[.int .i64 x] ++ caps)) w
 call:∀ xs x W,I xs W→xs.length<55→Calls Tryz.prog F (#[.int .i64 x] ++ caps) W fun e W'=>e = .returned (.int .i64 (f xs.length x))∧I (xs ++ [x]) W'∧Out mine W W'
end Go.Proofs.YteggipnplbkijaaGreat.Fix
namespace Go.Proofs.YteggipnplbkijaaGreat.Fix
open Go.ChangeShapes Go.WideShapes Go.ChangeAt Go.RowKit Go.Joins
def okAt (i:Nat) (v:Value):Prop:=if Re.isB i=true then ∃ b,v = .bool b else ∃ n:Int,v = .int .i64 n∧(Lit.int .i64 n).wf=true
def Fits (s:Re.St):Prop:=∀ i,i<55→Re.isB i=false→(Lit.int .i64 (s.c i)).wf=true
theorem okAt_int {i:Nat} {n:Int} (hb:Re.isB i=false) (h:(Lit.int .i64 n).wf=true):okAt i (.int .i64 n):=by
 unfold okAt;rw [if_neg (by simp [hb])];exact ⟨n,rfl,h⟩
theorem okAt_bool {i:Nat} {b:Bool} (hb:Re.isB i=true):okAt i (.bool b):=by
 unfold okAt;rw [if_pos hb];exact ⟨b,rfl⟩
theorem rc_int:Tryz.prog.cellsOf 3=1:=by kernel_rfl
theorem rc_bool:Tryz.prog.cellsOf 4=1:=by kernel_rfl
theorem rc_api_Align:Tryz.prog.cellsOf 32=1:=by kernel_rfl
theorem rc_api_Display:Tryz.prog.cellsOf 23=1:=by kernel_rfl
theorem rc_api_Justify:Tryz.prog.cellsOf 31=1:=by kernel_rfl
theorem rc_api_LenKind:Tryz.prog.cellsOf 26=1:=by kernel_rfl
theorem rc_api_Overflow:Tryz.prog.cellsOf 25=1:=by kernel_rfl
theorem rc_api_Position:Tryz.prog.cellsOf 24=1:=by kernel_rfl
theorem rc_api_SnapAlign:Tryz.prog.cellsOf 34=1:=by kernel_rfl
theorem rc_api_SnapKind:Tryz.prog.cellsOf 33=1:=by kernel_rfl
theorem rc_api_Len:Tryz.prog.cellsOf 28=2:=by kernel_rfl
theorem rc_4api_Len:Tryz.prog.cellsOf 29=8:=by kernel_rfl
theorem rc_4int:Tryz.prog.cellsOf 30=4:=by kernel_rfl
theorem rc_2int:Tryz.prog.cellsOf 35=2:=by kernel_rfl
theorem rc_api_Style:Tryz.prog.cellsOf 37=55:=by kernel_rfl
theorem part_one {cs:List Value} {o:Nat} {v:Value} (h:(cs.drop o).take 1=[v]):cs[o]? = some v:=by
 have:=congrArg (fun l:List Value=>l[0]?) h
 simpa [List.getElem?_take,List.getElem?_drop] using this
theorem part_sub {cs:List Value} {o n j m:Nat} (h:j + m≤n):(((cs.drop o).take n).drop j).take m=(cs.drop (o + j)).take m:=by
 rw [List.drop_take,List.take_take,Nat.min_eq_left Z3f,List.drop_drop]
section
variable {H:Type} {enc:TypeId × Value→H} {w:World} {base:Nat} {spare:Nat→Bool} {held:Bool}
theorem cell_of_int {n:Nat} {t:TypeId} {cs:List Value} {o:Nat} {y:DataW H × List MemPlace} (ht:Tryz.prog.underlying t=some (.int .i64)) (hb:Re.isB o=false) (h:DataW.trod enc Tryz.prog w base spare held n t ((cs.drop o).take 1)=some y):∃ v,cs[o]? = some v∧okAt o v:=by
 obtain ⟨a,e,_,wf⟩:=DataW.trod_int ht h
 exact ⟨_,part_one e,okAt_int hb wf⟩
theorem cell_of_bool {n:Nat} {cs:List Value} {o:Nat} {y:DataW H × List MemPlace} (hb:Re.isB o=true) (h:DataW.trod enc Tryz.prog w base spare held n 4 ((cs.drop o).take 1)=some y):∃ v,cs[o]? = some v∧okAt o v:=by
 obtain ⟨a,e,_⟩:=DataW.trod_bool Tryz.underlying4 h
 exact ⟨_,part_one e,okAt_bool hb⟩
theorem cells_of_len {n:Nat} {cs:List Value} {o:Nat} {y:DataW H × List MemPlace} (h0:Re.isB o=false) (h1:Re.isB (o + 1)=false) (h:DataW.trod enc Tryz.prog w base spare held n 28 ((cs.drop o).take 2)=some y):(∃ v,cs[o]? = some v∧okAt o v)∧∃ v,cs[o + 1]? = some v∧okAt (o + 1) v:=by
 obtain ⟨xs,k,rfl,_,_,hxl,hf⟩:=DataW.trod_struct Tryz.underlying28 h
 match xs,hxl with
 | [y0,y1],_ =>
   have g0:DataW.trod enc Tryz.prog w base spare held k 26 ((((cs.drop o).take 2).drop 0).take (Tryz.prog.cellsOf 26))=some y0:=hf 0 _ rfl
   have g1:DataW.trod enc Tryz.prog w base spare held k 3 ((((cs.drop o).take 2).drop 1).take (Tryz.prog.cellsOf 3))=some y1:=hf 1 _ rfl
   rw [rc_api_LenKind,part_sub Z3f] at g0
   rw [rc_int,part_sub Z3f] at g1
   exact ⟨cell_of_int Tryz.underlying26 h0 g0,cell_of_int Tryz.underlying3 h1 g1⟩
theorem cells_of_lens {n:Nat} {cs:List Value} {o:Nat} {y:DataW H × List MemPlace} (hb:∀ j,j<8→Re.isB (o + j)=false) (h:DataW.trod enc Tryz.prog w base spare held n 29 ((cs.drop o).take 8)=some y):∀ j,j<8→∃ v,cs[o + j]? = some v∧okAt (o + j) v:=by
 obtain ⟨xs,k,rfl,_,_,hxl,hf⟩:=DataW.trod_array Tryz.underlying29 h
 have key:∀ i,i<4→(∃ v,cs[o + i * 2]? = some v∧okAt (o + i * 2) v)∧∃ v,cs[o + i * 2 + 1]? = some v∧okAt (o + i * 2 + 1) v:=by
  intro i hi
  have g:=hf i hi
  rw [rc_api_Len,part_sub Z3f,List.getElem?_eq_getElem Z3f] at g
  exact cells_of_len (hb (i * 2) Z3f) (hb (i * 2 + 1) Z3f) g
 intro j hj
 have:j=j / 2 * 2∨j=j / 2 * 2 + 1:=by omega
 rcases this with e | e
 · rw [e];exact (key (j / 2) Z3f).1
 · rw [e];exact (key (j / 2) Z3f).2
theorem cells_of_ints {n m sz:Nat} {t:TypeId} {cs:List Value} {o:Nat} {y:DataW H × List MemPlace} (ht:Tryz.prog.underlying t=some (.array m 3)) (hb:∀ j,j<m→Re.isB (o + j)=false) (h:DataW.trod enc Tryz.prog w base spare held n t ((cs.drop o).take m)=some y):∀ j,j<m→∃ v,cs[o + j]? = some v∧okAt (o + j) v:=by
 obtain ⟨xs,k,rfl,_,_,hxl,hf⟩:=DataW.trod_array ht h
 intro i hi
 have g:=hf i hi
 rw [rc_int,part_sub Z3f,List.getElem?_eq_getElem Z3f,Nat.mul_one] at g
 exact cell_of_int Tryz.underlying3 (hb i hi) g
set_option maxRecDepth 10000 in
theorem trod_style {n:Nat} {cs:List Value} {y:DataW H × List MemPlace} (h:DataW.trod enc Tryz.prog w base spare held n 37 cs=some y):cs.length=55∧∀ i,i<55→∃ v,cs[i]? = some v∧okAt i v:=by
 obtain ⟨xs,k,rfl,_,hl,hxl,hf⟩:=DataW.trod_struct Tryz.underlying37 h
 rw [rc_api_Style] at hl
 refine ⟨hl,?_⟩
 have ex:∀ i,i<27→∃ y,xs[i]? = some y:=fun i hi=>⟨_,List.getElem?_eq_getElem (by rw [hxl];exact hi)⟩
 obtain ⟨y0,q0⟩:=ex 0 Z3i
 have g0:DataW.trod enc Tryz.prog w base spare held k 23 ((cs.drop 0).take (Tryz.prog.cellsOf 23))=some y0:=(hf 0 _ rfl).trans q0
 rw [rc_api_Display] at g0
 have r0:=cell_of_int (o:=0) Tryz.underlying23 rfl g0
 obtain ⟨y1,q1⟩:=ex 1 Z3i
 have g1:DataW.trod enc Tryz.prog w base spare held k 24 ((cs.drop 1).take (Tryz.prog.cellsOf 24))=some y1:=(hf 1 _ rfl).trans q1
 rw [rc_api_Position] at g1
 have r1:=cell_of_int (o:=1) Tryz.underlying24 rfl g1
 obtain ⟨y2,q2⟩:=ex 2 Z3i
 have g2:DataW.trod enc Tryz.prog w base spare held k 25 ((cs.drop 2).take (Tryz.prog.cellsOf 25))=some y2:=(hf 2 _ rfl).trans q2
 rw [rc_api_Overflow] at g2
 have r2:=cell_of_int (o:=2) Tryz.underlying25 rfl g2
 obtain ⟨y3,q3⟩:=ex 3 Z3i
 have g3:DataW.trod enc Tryz.prog w base spare held k 28 ((cs.drop 3).take (Tryz.prog.cellsOf 28))=some y3:=(hf 3 _ rfl).trans q3
 rw [rc_api_Len] at g3
 have r3:=cells_of_len (o:=3) rfl rfl g3
 obtain ⟨y4,q4⟩:=ex 4 Z3i
 have g4:DataW.trod enc Tryz.prog w base spare held k 28 ((cs.drop 5).take (Tryz.prog.cellsOf 28))=some y4:=(hf 4 _ rfl).trans q4
 rw [rc_api_Len] at g4
 have r4:=cells_of_len (o:=5) rfl rfl g4
 obtain ⟨y5,q5⟩:=ex 5 Z3i
 have g5:DataW.trod enc Tryz.prog w base spare held k 28 ((cs.drop 7).take (Tryz.prog.cellsOf 28))=some y5:=(hf 5 _ rfl).trans q5
 rw [rc_api_Len] at g5
 have r5:=cells_of_len (o:=7) rfl rfl g5
 obtain ⟨y6,q6⟩:=ex 6 Z3i
 have g6:DataW.trod enc Tryz.prog w base spare held k 28 ((cs.drop 9).take (Tryz.prog.cellsOf 28))=some y6:=(hf 6 _ rfl).trans q6
 rw [rc_api_Len] at g6
 have r6:=cells_of_len (o:=9) rfl rfl g6
 obtain ⟨y7,q7⟩:=ex 7 Z3i
 have g7:DataW.trod enc Tryz.prog w base spare held k 28 ((cs.drop 11).take (Tryz.prog.cellsOf 28))=some y7:=(hf 7 _ rfl).trans q7
 rw [rc_api_Len] at g7
 have r7:=cells_of_len (o:=11) rfl rfl g7
 obtain ⟨y8,q8⟩:=ex 8 Z3i
 have g8:DataW.trod enc Tryz.prog w base spare held k 28 ((cs.drop 13).take (Tryz.prog.cellsOf 28))=some y8:=(hf 8 _ rfl).trans q8
 rw [rc_api_Len] at g8
 have r8:=cells_of_len (o:=13) rfl rfl g8
 obtain ⟨y9,q9⟩:=ex 9 Z3i
 have g9:DataW.trod enc Tryz.prog w base spare held k 29 ((cs.drop 15).take (Tryz.prog.cellsOf 29))=some y9:=(hf 9 _ rfl).trans q9
 rw [rc_4api_Len] at g9
 have r9:=cells_of_lens (o:=15) Z3i g9
 obtain ⟨y10,q10⟩:=ex 10 Z3i
 have g10:DataW.trod enc Tryz.prog w base spare held k 29 ((cs.drop 23).take (Tryz.prog.cellsOf 29))=some y10:=(hf 10 _ rfl).trans q10
 rw [rc_4api_Len] at g10
 have r10:=cells_of_lens (o:=23) Z3i g10
 obtain ⟨y11,q11⟩:=ex 11 Z3i
 have g11:DataW.trod enc Tryz.prog w base spare held k 30 ((cs.drop 31).take (Tryz.prog.cellsOf 30))=some y11:=(hf 11 _ rfl).trans q11
 rw [rc_4int] at g11
 have r11:=cells_of_ints (o:=31) (m:=4) (sz:=1) Tryz.underlying30 Z3i g11
 obtain ⟨y12,q12⟩:=ex 12 Z3i
 have g12:DataW.trod enc Tryz.prog w base spare held k 30 ((cs.drop 35).take (Tryz.prog.cellsOf 30))=some y12:=(hf 12 _ rfl).trans q12
 rw [rc_4int] at g12
 have r12:=cells_of_ints (o:=35) (m:=4) (sz:=1) Tryz.underlying30 Z3i g12
 obtain ⟨y13,q13⟩:=ex 13 Z3i
 have g13:DataW.trod enc Tryz.prog w base spare held k 3 ((cs.drop 39).take (Tryz.prog.cellsOf 3))=some y13:=(hf 13 _ rfl).trans q13
 rw [rc_int] at g13
 have r13:=cell_of_int (o:=39) Tryz.underlying3 rfl g13
 obtain ⟨y14,q14⟩:=ex 14 Z3i
 have g14:DataW.trod enc Tryz.prog w base spare held k 3 ((cs.drop 40).take (Tryz.prog.cellsOf 3))=some y14:=(hf 14 _ rfl).trans q14
 rw [rc_int] at g14
 have r14:=cell_of_int (o:=40) Tryz.underlying3 rfl g14
 obtain ⟨y15,q15⟩:=ex 15 Z3i
 have g15:DataW.trod enc Tryz.prog w base spare held k 28 ((cs.drop 41).take (Tryz.prog.cellsOf 28))=some y15:=(hf 15 _ rfl).trans q15
 rw [rc_api_Len] at g15
 have r15:=cells_of_len (o:=41) rfl rfl g15
 obtain ⟨y16,q16⟩:=ex 16 Z3i
 have g16:DataW.trod enc Tryz.prog w base spare held k 31 ((cs.drop 43).take (Tryz.prog.cellsOf 31))=some y16:=(hf 16 _ rfl).trans q16
 rw [rc_api_Justify] at g16
 have r16:=cell_of_int (o:=43) Tryz.underlying31 rfl g16
 obtain ⟨y17,q17⟩:=ex 17 Z3i
 have g17:DataW.trod enc Tryz.prog w base spare held k 32 ((cs.drop 44).take (Tryz.prog.cellsOf 32))=some y17:=(hf 17 _ rfl).trans q17
 rw [rc_api_Align] at g17
 have r17:=cell_of_int (o:=44) Tryz.underlying32 rfl g17
 obtain ⟨y18,q18⟩:=ex 18 Z3i
 have g18:DataW.trod enc Tryz.prog w base spare held k 4 ((cs.drop 45).take (Tryz.prog.cellsOf 4))=some y18:=(hf 18 _ rfl).trans q18
 rw [rc_bool] at g18
 have r18:=cell_of_bool (o:=45) rfl g18
 obtain ⟨y19,q19⟩:=ex 19 Z3i
 have g19:DataW.trod enc Tryz.prog w base spare held k 3 ((cs.drop 46).take (Tryz.prog.cellsOf 3))=some y19:=(hf 19 _ rfl).trans q19
 rw [rc_int] at g19
 have r19:=cell_of_int (o:=46) Tryz.underlying3 rfl g19
 obtain ⟨y20,q20⟩:=ex 20 Z3i
 have g20:DataW.trod enc Tryz.prog w base spare held k 4 ((cs.drop 47).take (Tryz.prog.cellsOf 4))=some y20:=(hf 20 _ rfl).trans q20
 rw [rc_bool] at g20
 have r20:=cell_of_bool (o:=47) rfl g20
 obtain ⟨y21,q21⟩:=ex 21 Z3i
 have g21:DataW.trod enc Tryz.prog w base spare held k 3 ((cs.drop 48).take (Tryz.prog.cellsOf 3))=some y21:=(hf 21 _ rfl).trans q21
 rw [rc_int] at g21
 have r21:=cell_of_int (o:=48) Tryz.underlying3 rfl g21
 obtain ⟨y22,q22⟩:=ex 22 Z3i
 have g22:DataW.trod enc Tryz.prog w base spare held k 33 ((cs.drop 49).take (Tryz.prog.cellsOf 33))=some y22:=(hf 22 _ rfl).trans q22
 rw [rc_api_SnapKind] at g22
 have r22:=cell_of_int (o:=49) Tryz.underlying33 rfl g22
 obtain ⟨y23,q23⟩:=ex 23 Z3i
 have g23:DataW.trod enc Tryz.prog w base spare held k 34 ((cs.drop 50).take (Tryz.prog.cellsOf 34))=some y23:=(hf 23 _ rfl).trans q23
 rw [rc_api_SnapAlign] at g23
 have r23:=cell_of_int (o:=50) Tryz.underlying34 rfl g23
 obtain ⟨y24,q24⟩:=ex 24 Z3i
 have g24:DataW.trod enc Tryz.prog w base spare held k 4 ((cs.drop 51).take (Tryz.prog.cellsOf 4))=some y24:=(hf 24 _ rfl).trans q24
 rw [rc_bool] at g24
 have r24:=cell_of_bool (o:=51) rfl g24
 obtain ⟨y25,q25⟩:=ex 25 Z3i
 have g25:DataW.trod enc Tryz.prog w base spare held k 4 ((cs.drop 52).take (Tryz.prog.cellsOf 4))=some y25:=(hf 25 _ rfl).trans q25
 rw [rc_bool] at g25
 have r25:=cell_of_bool (o:=52) rfl g25
 obtain ⟨y26,q26⟩:=ex 26 Z3i
 have g26:DataW.trod enc Tryz.prog w base spare held k 35 ((cs.drop 53).take (Tryz.prog.cellsOf 35))=some y26:=(hf 26 _ rfl).trans q26
 rw [rc_2int] at g26
 have r26:=cells_of_ints (o:=53) (m:=2) (sz:=1) Tryz.underlying35 Z3i g26
 intro i hi
 match i,hi with
 | 0,_=>exact r0
 | 1,_=>exact r1
 | 2,_=>exact r2
 | 3,_=>exact r3.1
 | 4,_=>exact r3.2
 | 5,_=>exact r4.1
 | 6,_=>exact r4.2
 | 7,_=>exact r5.1
 | 8,_=>exact r5.2
 | 9,_=>exact r6.1
 | 10,_=>exact r6.2
 | 11,_=>exact r7.1
 | 12,_=>exact r7.2
 | 13,_=>exact r8.1
 | 14,_=>exact r8.2
 | 15,_=>exact r9 0 Z3i
 | 16,_=>exact r9 1 Z3i
 | 17,_=>exact r9 2 Z3i
 | 18,_=>exact r9 3 Z3i
 | 19,_=>exact r9 4 Z3i
 | 20,_=>exact r9 5 Z3i
 | 21,_=>exact r9 6 Z3i
 | 22,_=>exact r9 7 Z3i
 | 23,_=>exact r10 0 Z3i
 | 24,_=>exact r10 1 Z3i
 | 25,_=>exact r10 2 Z3i
 | 26,_=>exact r10 3 Z3i
 | 27,_=>exact r10 4 Z3i
 | 28,_=>exact r10 5 Z3i
 | 29,_=>exact r10 6 Z3i
 | 30,_=>exact r10 7 Z3i
 | 31,_=>exact r11 0 Z3i
 | 32,_=>exact r11 1 Z3i
 | 33,_=>exact r11 2 Z3i
 | 34,_=>exact r11 3 Z3i
 | 35,_=>exact r12 0 Z3i
 | 36,_=>exact r12 1 Z3i
 | 37,_=>exact r12 2 Z3i
 | 38,_=>exact r12 3 Z3i
 | 39,_=>exact r13
 | 40,_=>exact r14
 | 41,_=>exact r15.1
 | 42,_=>exact r15.2
 | 43,_=>exact r16
 | 44,_=>exact r17
 | 45,_=>exact r18
 | 46,_=>exact r19
 | 47,_=>exact r20
 | 48,_=>exact r21
 | 49,_=>exact r22
 | 50,_=>exact r23
 | 51,_=>exact r24
 | 52,_=>exact r25
 | 53,_=>exact r26 0 Z3i
 | 54,_=>exact r26 1 Z3i
 | n + 55,h=>exact absurd h Z3f
theorem open_style {cs:Array Value} {d:DataW H} {p:List MemPlace} (h:DataW.Trod enc Tryz.prog w base spare held 37 (.agg cs) d p):∃ s:Re.St,Value.agg cs = .agg (cells s)∧Fits s:=by
 obtain ⟨fuel,hf⟩:=h
 obtain ⟨hl,hc⟩:=trod_style hf
 simp only [Value.cells] at hl hc
 refine ⟨⟨fun i=>match cs[i]? with | some (.int _ n)=>n | _=>0,fun i=>match cs[i]? with | some (.bool b)=>b | _=>false⟩,?_,?_⟩
 · congr 1
   apply Array.ext_getElem?
   intro i
   by_cases hi:i<55
   · obtain ⟨v,hv,ok⟩:=hc i hi
     rw [Array.getElem?_toList] at hv
     rw [cells_get _ hi,hv]
     unfold okAt at ok
     unfold cell
     by_cases hb:Re.isB i=true
     · rw [if_pos hb] at ok ⊢
       obtain ⟨b,rfl⟩:=ok
       simp [hv]
     · rw [if_neg hb] at ok ⊢
       obtain ⟨b,rfl,_⟩:=ok
       simp [hv]
   · rw [Array.getElem?_eq_none (by rw [← Array.length_toList,hl];omega),Array.getElem?_eq_none Z4g]
 · intro i hi hb
   obtain ⟨v,hv,ok⟩:=hc i hi
   rw [Array.getElem?_toList] at hv
   unfold okAt at ok
   rw [if_neg (by simp [hb])] at ok
   obtain ⟨n,rfl,hw⟩:=ok
   simp only [hv]
   exact hw
end
end Go.Proofs.YteggipnplbkijaaGreat.Fix
namespace Go.Proofs.YteggipnplbkijaaGreat.Fix
open Go.ChangeShapes Go.WideShapes Go.ChangeAt Go.RowKit
theorem wpList_append_run {P:Program} {w w':World} {ops:Array Oper} {rest:List Oper} {o:Oper} {a:Act} {Q:Exit→Act→World→Prop} (hw:Region.wanted o (yielded ops a.tmps)=true) (s x:Operand) (t:TypeId)
  (ho:o.op = .call { callee:= .builtin .append,args:=#[s,x],argTypes:=#[t,t] }) {v u v':Value} (hs:a.eval s=v) (hx:a.eval x=u)
  (hrun:(Builtin.append_ #[t,t] o.type #[v,u]).run P w = .ok v' w') (h:wpList P ops Q rest (a.put o.dst v') w'):wpList P ops Q (o :: rest) a w:=by
 unfold wpList
 rw [if_pos hw]
 refine .inl ?_
 unfold Oper.wp execOp
 simp only [ho,resolve,invoke,builtin,Sem.run_bind,Sem.run_pure,Result.andThen_ok,List.map_toArray,List.map_cons,List.map_nil,hs,hx,hrun]
 exact h
def Ints (w:World) (A:Option Addr) (zs:List Int):Prop :=
 zs.length≤maxLen∧(0<zs.length→∃ b off,A=some ⟨b,off,none⟩∧∀ k,k<zs.length→w.cell? ⟨b,off + k,none⟩=some (.int .i64 (zs.getD k 0)))
theorem take_snoc_int (zs:List Int) (k:Nat) (h:k<zs.length):zs.take (k + 1)=zs.take k ++ [zs.getD k 0]:=by
 rw [List.take_succ_eq_append_getElem h];simp [List.getElem?_eq_getElem h]
theorem ints_new (w:World) (l:List Int) (T:TypeId) (hl:l.length≤1000):Ints (w.alloc (.cells (l.map (Value.int .i64)).toArray T)) (some ⟨w.heap.size,0,none⟩) l:=by
 refine ⟨by unfold maxLen;omega,fun _=>⟨w.heap.size,0,rfl,fun k hk => ?_⟩⟩
 rw [cell_of_row _ w.heap.size (0 + k) _ T (0,0) (heap_alloc_new w _)]
 simp [hk]
theorem Ints.keep {w w':World} {B:Nat} {A:Option Addr} {zs:List Int} (h:Ints w A zs) (hb:Below B w w') (hA:0<zs.length→∀ a,A=some a→a.block<B):Ints w' A zs:=by
 refine ⟨h.1,fun h0 => ?_⟩
 obtain ⟨b,off,rfl,hc⟩:=h.2 h0
 exact ⟨b,off,rfl,fun k hk=>(hb.cell (p:=⟨b,off + k,none⟩) (show b<B from hA h0 ⟨b,off,none⟩ rfl)).trans (hc k hk)⟩
theorem ints_of_own {w:World} {base:Nat} {e:TypeId} {v:Value} {n:Nat} {l:List Int} (h:w.ownsRow base e 1 v n (l.map (Value.int .i64))) (hm:n≤maxLen) :
  ∃ A c,v = .slice A l.length c∧Ints w A l:=by
 have hl:l.length=n:=by simpa using h.1
 subst hl
 rcases h.2 with ⟨rfl,h0⟩ | ⟨g,cap,cur,rfl,_,_⟩
 · exact ⟨none,0,by rw [h0],hm,fun h=>absurd h Z3f⟩
 · refine ⟨_,_,rfl,hm,fun h0=>⟨g,0,rfl,fun k hk => ?_⟩⟩
   have:=h.cells (g:=g) rfl k (.int .i64 (l.getD k 0)) (by simp [List.getElem?_eq_getElem hk])
   have e:(⟨g,0,none⟩:Addr).add k=⟨g,0 + k,none⟩:=by
    unfold Addr.add;split
    · subst k;rfl
    · rfl
   rw [e] at this
   exact this
theorem together_any (A:Option Addr) (zs:List Int) (n c:Nat) (w:World) (h:Ints w A zs) (hn:zs.length=n) :
  Calls Tryz.prog 179 #[.slice A n c] w fun e w'=>e = .returned (.int .i64 (Fx.coll zs))∧w=w':=by
 obtain ⟨hm,h⟩:=h
 unfold maxLen at hm
 rw [hn] at hm h
 have HN:=Lib.hid hn;clear hn
 have HA:=Lib.hid h;clear h
 go_enter Tryz.func179,Tryz.ntmps179
 go_wp2
 go_loop [3,4,9] (fun g s i=>∃ k:Nat,k≤n∧i = .int .i64 k∧g = .int .i64 (Fx.top (zs.take k))∧s = .int .i64 (Fx.bot (zs.take k))) (fun _ _ i=>n - (intOf i).toNat)
 case atStart=>exact ⟨0,by omega,rfl,rfl,rfl⟩
 case round =>
  obtain ⟨k,hk,rfl,rfl,rfl⟩:=hrel
  by_cases hlt:k<n
  · obtain ⟨b,off,rfl,hc⟩:=HA.out Z3f
    have hcell:=hc k hlt
    clear hc
    have hs:Hid (max (Fx.top (zs.take k)) (zs.getD k 0)=Fx.top (zs.take (k + 1))):=Lib.hid (by rw [take_snoc_int zs k (by rw [HN.out];exact hlt),Fx.top_snoc])
    have ht:Hid (min (Fx.bot (zs.take k)) (zs.getD k 0)=Fx.bot (zs.take (k + 1))):=Lib.hid (by rw [take_snoc_int zs k (by rw [HN.out];exact hlt),Fx.bot_snoc])
    clear HA
    generalize zs.getD k 0=z at *
    go_wp2
    go_round
    case rel=>exact ⟨k + 1,by omega,by go_num,by rw [hs.out],by rw [ht.out]⟩
    case measure=>simp [intOf];omega
  · go_wp2_with (first | (go_at_call 177;with_reducible refine qmE (add_any _ _ _) ?_))
    go_ret
    exact ⟨ret_int (by rw [List.take_of_length_le (by rw [HN.out];omega)];rfl),rfl⟩
theorem coll_any (A:Option Addr) (zs:List Int) (n c:Nat) (w:World) (h:Ints w A zs) (hn:zs.length=n) :
  Calls Tryz.prog 137 #[.slice A n c] w fun e w'=>e = .returned (.int .i64 (Fx.coll zs))∧w=w':=by
 have S1:=together_any A zs n c w h hn
 go_enter Tryz.func137,Tryz.ntmps137
 go_wp2_with fail
 refine S1.mono ?_
 rintro e w' ⟨rfl,rfl⟩
 go_wp2
 exact Z21
theorem ints_two (w:World) (a b:Int) (T:TypeId):Ints (w.alloc (.cells #[.int .i64 a,.int .i64 b] T)) (some ⟨w.heap.size,0,none⟩) [a,b]:=ints_new w [a,b] T Z3t
theorem pair_any (a b:Int) (w:World):Calls Tryz.prog 180 #[.int .i64 a,.int .i64 b] w fun e w'=>e = .returned (.int .i64 (Fx.coll [a,b]))∧Below w.heap.size w w':=by
 go_enter Tryz.func180,Tryz.ntmps180
 go_wp2_with (go_at_call 179;refine (together_any _ [a,b] 2 2 _ (ints_two _ _ _ _) rfl).mono ?_;rintro e w' ⟨rfl,rfl⟩)
 go_ret
 exact ⟨rfl,Below.alloc' (Below.refl _ _) _⟩
theorem share_any (n:Int) (a b:Bool) (w:World) (h1 : -1099511627776≤n) (h2:n≤1099511627776):Calls Tryz.prog 178 #[.int .i64 n,.bool a,.bool b] w fun e w'=>e = .returned (.tuple #[.int .i64 (Fx.shA n a b),.int .i64 (Fx.shB n a b)])∧w=w':=by
 by_cases h:n≤0
 · go_enter Tryz.func178,Tryz.ntmps178
   go_wp2_with (first | (go_at_call 176;with_reducible refine qmE (sub_any _ _ _) ?_))
   go_ret2
   exact ⟨ret_two (by unfold Fx.shA;rw [if_pos Z3f]) (by unfold Fx.shB;rw [if_pos Z3f]),rfl⟩
 · cases a <;> cases b
   all_goals
    go_enter Tryz.func178,Tryz.ntmps178
    go_wp2_with (first | (go_at_call 176;with_reducible refine qmE (sub_any _ _ _) ?_))
    go_ret2
    exact ⟨ret_two (by unfold Fx.shA;rw [if_neg Z3f];rfl) (by unfold Fx.shB;rw [if_neg Z3f];rfl),rfl⟩
theorem auto_any (room size bk bn ek en base:Int) (w:World):Calls Tryz.prog 136 #[.int .i64 room,.int .i64 size,.agg #[.int .i64 bk,.int .i64 bn],.agg #[.int .i64 ek,.int .i64 en],.int .i64 base] w fun e w'=>e = .returned (.tuple #[.int .i64 (Fx.autoA room size (Fx.len bk bn base 0) (Fx.len ek en base 0) (Fx.fixd bk base) (Fx.fixd ek base)),.int .i64 (Fx.autoB room size (Fx.len bk bn base 0) (Fx.len ek en base 0) (Fx.fixd bk base) (Fx.fixd ek base))])∧Below w.heap.size w w':=by
 go_enter Tryz.func136,Tryz.ntmps136
 go_upto_region 1 with (fail)
 (generalize hW:World.alloc (World.alloc w _) _=W0;have A0:At W0 (w.heap.size) (.cells #[.int .i64 bk,.int .i64 bn] 28):=Z4e;have A1:At W0 (w.heap.size + 1) (.cells #[.int .i64 ek,.int .i64 en] 28):=(by ((rw [← hW]) <;> exact At.new' _ Z3s));have hB:Below w.heap.size w W0:=(by ((rw [← hW]) <;> exact Below.alloc' (Below.alloc' (Below.refl _ _) _) _));clear hW;obtain ⟨l0,c0_0,c0_1⟩:=At.two A0;obtain ⟨l1,c1_0,c1_1⟩:=At.two A1)
 refine sqt ?_
 (repeat (first | refine sqk ?_ | refine sqc ?_ (hc:=by intro w2 hS;first | with_reducible exact qaB hS (len_any _ _ _ _ _)) | refine sqv ?_))
 refine Drawn.seq_end ?_;intro w2 hS
 (clear l0 c0_0 c0_1 l1 c1_0 c1_1);(replace hB:=Below.after2 Z3g (Nat.le_refl _) hS);replace A0:=At.keep Z3k hS;replace A1:=At.keep Z3h hS;clear hS;obtain ⟨l0,c0_0,c0_1⟩:=At.two A0;obtain ⟨l1,c1_0,c1_1⟩:=At.two A1
 go_upto_region 3 with (first | (go_at_call 176;with_reducible refine qmE (sub_any _ _ _) ?_) | (go_at_call 177;with_reducible refine qmE (add_any _ _ _) ?_))
 refine sqt ?_
 (repeat (first | refine sqk ?_ | refine sqc ?_ (hc:=by intro w2 hS;first | with_reducible exact qaB hS (fixed_any _ _ _ _) | with_reducible exact qaE hS (share_any _ _ _ _ (Fx.sub_ge _ _) (Fx.sub_le _ _))) | refine sqv ?_))
 refine Drawn.seq_end ?_;intro w2 hS
 (clear l0 c0_0 c0_1 l1 c1_0 c1_1);(replace hB:=Below.after2 Z3g (Nat.le_refl _) hS);replace A0:=At.keep Z3k hS;replace A1:=At.keep Z3h hS;clear hS;obtain ⟨l0,c0_0,c0_1⟩:=At.two A0;obtain ⟨l1,c1_0,c1_1⟩:=At.two A1
 go_wp2_with (first | (go_at_call 177;with_reducible refine qmE (add_any _ _ _) ?_))
 go_ret2
 exact ⟨rfl,hB⟩
end Go.Proofs.YteggipnplbkijaaGreat.Fix
