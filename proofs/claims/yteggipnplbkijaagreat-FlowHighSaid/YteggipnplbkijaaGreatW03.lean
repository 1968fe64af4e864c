/- Boxes laid by the program: what its functions do, part 3. -/
import Derived.Test.YteggipnplbkijaaGreatRows
import Derived.WalkKit
import Derived.ProofKit
import Derived.OpenShut
import Derived.Lib.Hide
import Derived.WalkLawsBesides
import Derived.Below
import Derived.Deep.QuietTactic
import Derived.Orders
import Derived.Deep.Cut
import Derived.BigQuiet
import Derived.WalkMore
import Derived.Test.YteggipnplbkijaaGreatWK
import Derived.Test.YteggipnplbkijaaGreatW01
set_option linter.unusedVariables false
set_option linter.unusedSimpArgs false
set_option linter.unusedSectionVars false
set_option maxRecDepth 100000
namespace Go.Proofs.YteggipnplbkijaaGreat.Fix
open Go.ChangeShapes Go.WideShapes Go.ChangeAt Go.RowKit
theorem ret_int {k:IntKind} {a b:Int} (h:a=b):Ending.returned (.int k a) = .returned (.int k b):=by rw [h]
theorem cut_any (n:Int) (w:World):Calls Tryz.prog 59 #[.int .i64 n] w fun e w'=>e = .returned (.int .i64 (Fx.cut n))∧w=w':=by
 go_enter Tryz.func59,Tryz.ntmps59
 go_wp2
 all_goals
  go_ret
  exact ⟨ret_int (by unfold Fx.cut;repeat' split <;> (try split at *) <;> omega),rfl⟩
theorem add_any (a b:Int) (w:World):Calls Tryz.prog 177 #[.int .i64 a,.int .i64 b] w fun e w'=>e = .returned (.int .i64 (Fx.add a b))∧w=w':=by
 have ha:=Fx.cut_le a
 have ha':=Fx.cut_ge a
 have hb:=Fx.cut_le b
 have hb':=Fx.cut_ge b
 go_enter Tryz.func177,Tryz.ntmps177
 go_wp2_with (go_at_call 59;refine (cut_any _ _).mono ?_;rintro e w' ⟨rfl,rfl⟩)
 exact Z21
theorem sub_any (a b:Int) (w:World):Calls Tryz.prog 176 #[.int .i64 a,.int .i64 b] w fun e w'=>e = .returned (.int .i64 (Fx.sub a b))∧w=w':=by
 have ha:=Fx.cut_le a
 have ha':=Fx.cut_ge a
 have hb:=Fx.cut_le b
 have hb':=Fx.cut_ge b
 go_enter Tryz.func176,Tryz.ntmps176
 go_wp2_with (go_at_call 59;refine (cut_any _ _).mono ?_;rintro e w' ⟨rfl,rfl⟩)
 exact Z21
theorem down_any (a b:Int) (w:World) (h1:1≤b) (h2:b≤1099511627776) (h3 : -1152921504606846976≤a) (h4:a≤1152921504606846976) :
  Calls Tryz.prog 94 #[.int .i64 a,.int .i64 b] w fun e w'=>e = .returned (.int .i64 (a / b))∧w=w':=by
 have g1:=Fx.tdiv_ge h1 h3
 have g2:=Fx.tdiv_le h1 h4
 go_enter Tryz.func94,Tryz.ntmps94
 go_wp2
 · have h:a.tmod b<0:=by assumption
   go_ret
   exact ⟨ret_int (Fx.tdiv_down h1 h),rfl⟩
 · have h:0≤a.tmod b:=by assumption
   go_ret
   exact ⟨ret_int (Fx.tdiv_same h1 h),rfl⟩
theorem div_any (a b:Int) (w:World):Calls Tryz.prog 192 #[.int .i64 a,.int .i64 b] w fun e w'=>e = .returned (.int .i64 (Fx.div a b))∧w=w':=by
 have ha:=Fx.cut_le a
 have ha':=Fx.cut_ge a
 have hb:=Fx.cut_le b
 by_cases h:b≤0
 · have h0:Fx.cut b≤0:=by unfold Fx.cut;repeat' split <;> omega
   have hr:Fx.div a b=0:=by unfold Fx.div;rw [if_pos h]
   have Hr:=Lib.hid hr;clear hr
   go_enter Tryz.func192,Tryz.ntmps192
   go_wp2_with (go_at_call 59;refine (cut_any _ _).mono ?_;rintro e w' ⟨rfl,rfl⟩)
   go_ret
   exact ⟨ret_int Hr.out.symm,rfl⟩
 · have h0:1≤Fx.cut b:=Fx.cut_pos Z3f
   have hr:Fx.div a b=Fx.cut a / Fx.cut b:=by unfold Fx.div;rw [if_neg h]
   have Hr:=Lib.hid hr;clear hr
   go_enter Tryz.func192,Tryz.ntmps192
   go_wp2_with (first | (go_at_call 59;refine (cut_any _ _).mono ?_;rintro e w' ⟨rfl,rfl⟩) | (go_at_call 94;refine (down_any _ _ _ Z3f Z3f Z3f Z3f).mono ?_;rintro e w' ⟨rfl,rfl⟩))
   go_ret
   exact ⟨ret_int Hr.out.symm,rfl⟩
theorem clamp_any (n lo hi:Int) (w:World):Calls Tryz.prog 62 #[.int .i64 n,.int .i64 lo,.int .i64 hi] w fun e w'=>e = .returned (.int .i64 (Fx.clamp n lo hi))∧w=w':=by
 go_enter Tryz.func62,Tryz.ntmps62
 go_wp2_with (go_at_call 59;refine (cut_any _ _).mono ?_;rintro e w' ⟨rfl,rfl⟩)
 all_goals
  go_ret
  exact ⟨ret_int (by unfold Fx.clamp;repeat' split <;> (try split at *) <;> omega),rfl⟩
theorem part_any (a n:Int) (w:World):Calls Tryz.prog 60 #[.int .i64 a,.int .i64 n] w fun e w'=>e = .returned (.int .i64 (Fx.part a n))∧w=w':=by
 have hb:=Fx.part_bd a n
 obtain ⟨hb1,hb2⟩:=hb
 have hp:=Fx.clamp_parts n
 have HP:=Lib.hid hp;clear hp
 go_enter Tryz.func60,Tryz.ntmps60
 go_wp2_with (first | (go_at_call 62;refine (clamp_any _ _ _ _).mono ?_;rw [HP.out];rintro e w' ⟨rfl,rfl⟩) | (go_at_call 94;refine (down_any _ _ _ Z3f Z3f Z3f Z3f).mono ?_;rintro e w' ⟨rfl,rfl⟩) | (go_at_call 59;refine (cut_any _ _).mono ?_;rintro e w' ⟨rfl,rfl⟩))
 exact Z21
theorem size_any (a:Int) (w:World) (h1 : -1099511627776≤a) (h2:a≤1099511627776) :
  Calls Tryz.prog 219 #[.int .i64 a] w fun e w'=>e = .returned (.int .u64 (Fx.siz a))∧w=w':=by
 go_enter Tryz.func219,Tryz.ntmps219
 go_wp2
 all_goals
  go_ret
  exact ⟨ret_int (by unfold Fx.siz;repeat' split <;> omega),rfl⟩
theorem or_words (x y:Int) (hx:0≤x) (hy:0≤y) (hy2:y<4294967296):bits .or .u64 (IntKind.u64.wrap (x * 4294967296)) y=x % 4294967296 * 4294967296 + y:=by
 obtain ⟨X,hX⟩:=Int.eq_ofNat_of_zero_le (show 0≤x % 4294967296 by omega)
 obtain ⟨Y,rfl⟩:=Int.eq_ofNat_of_zero_le hy
 have e:IntKind.u64.wrap (x * 4294967296)=((X * 4294967296:Nat):Int):=by rw [IntKind.wrap_u64];omega
 rw [e,u64_or_nat _ _ Z3f Z3f,Fx.or_nat _ _ Z3f,hX]
 omega
theorem ret_two {k:IntKind} {a b c d:Int} (h:a=c) (h2:b=d):Ending.returned (.tuple #[.int k a,.int k b]) = .returned (.tuple #[.int k c,.int k d]):=by rw [h,h2]
theorem product_any (a b:Int) (w:World) (h1:0≤a) (h2:a≤1099511627776) (h3:0≤b) (h4:b≤1099511627776) :
  Calls Tryz.prog 218 #[.int .u64 a,.int .u64 b] w fun e w'=>e = .returned (.tuple #[.int .u64 (a * b / 18446744073709551616),.int .u64 (a * b % 18446744073709551616)])∧w=w':=by
 have e:=Fx.halves a b
 have b1:=Fx.mul_bd (x:=a / 4294967296) (y:=b / 4294967296) (c:=256) (d:=256) Z3f Z3f Z3f Z3f
 have b2:=Fx.mul_bd (x:=a / 4294967296) (y:=b % 4294967296) (c:=256) (d:=4294967295) Z3f Z3f Z3f Z3f
 have b3:=Fx.mul_bd (x:=a % 4294967296) (y:=b / 4294967296) (c:=4294967295) (d:=256) Z3f Z3f Z3f Z3f
 have b4:=Fx.mul_bd (x:=a % 4294967296) (y:=b % 4294967296) (c:=4294967295) (d:=4294967295) Z3f Z3f Z3f Z3f
 have E:=Lib.hid e
 clear e
 obtain ⟨l1,u1⟩:=b1
 obtain ⟨l2,u2⟩:=b2
 obtain ⟨l3,u3⟩:=b3
 obtain ⟨l4,u4⟩:=b4
 go_enter Tryz.func218,Tryz.ntmps218
 go_wp2
 go_ret2
 refine ⟨ret_two ?_ ?_,rfl⟩
 · rw [E.out];omega
 · rw [or_words _ _ Z3f Z3f Z3f,E.out];omega
theorem mul_any (a b:Int) (w:World):Calls Tryz.prog 211 #[.int .i64 a,.int .i64 b] w fun e w'=>e = .returned (.int .i64 (Fx.mul a b))∧w=w':=by
 have ha:=Fx.cut_le a
 have ha':=Fx.cut_ge a
 have hb:=Fx.cut_le b
 have hb':=Fx.cut_ge b
 obtain ⟨s1,s2⟩:=Fx.siz_bd a
 obtain ⟨s3,s4⟩:=Fx.siz_bd b
 have hp:=Int.mul_nonneg s1 s3
 have hm:=Fx.mul_siz a b
 have HM:=Lib.hid hm;clear hm
 go_enter Tryz.func211,Tryz.ntmps211
 go_wp2_with (first | (go_at_call 59;refine (cut_any _ _).mono ?_;rintro e w' ⟨rfl,rfl⟩) | (go_at_call 219;refine (size_any _ _ Z3f Z3f).mono ?_;rintro e w' ⟨rfl,rfl⟩) | (go_at_call 218;refine (product_any _ _ _ Z3f Z3f Z3f Z3f).mono ?_;rintro e w' ⟨rfl,rfl⟩))
 all_goals
  go_ret
  refine ⟨ret_int ?_,rfl⟩
  rw [HM.out]
  first
   | rw [show (!(decide (Fx.cut a<0) == decide (Fx.cut b<0)))=true from by assumption,cond_true]
   | rw [show (!(decide (Fx.cut a<0) == decide (Fx.cut b<0)))=false from by assumption,cond_false]
  unfold Fx.cut at *
  generalize Fx.siz _ * Fx.siz _=p at *
  repeat' split <;> omega
end Go.Proofs.YteggipnplbkijaaGreat.Fix
namespace Go.Proofs.YteggipnplbkijaaGreat.Fix
open Go.RowKit
theorem bcell {W w1:World} (hb:Below W.heap.size W w1):(∀ b o,b<W.heap.size→w1.cell? ⟨b,o,none⟩=W.cell? ⟨b,o,none⟩)∧(∀ b o,b<W.heap.size→w1.frozen? ⟨b,o,none⟩=W.frozen? ⟨b,o,none⟩) :=
 ⟨fun b o h=>hb.cell (p:=⟨b,o,none⟩) h,fun b o h=>hb.frozen (p:=⟨b,o,none⟩) h⟩
theorem Below.alloc' {w a:World} (h:Below w.heap.size w a) (o:Obj):Below w.heap.size w (a.alloc o):=h.alloc h.size o
theorem Below.after2 {N:Nat} {W0 W w1:World} (h0:Below N W0 W) (hN:N≤W0.heap.size) (hb:Below W.heap.size W w1):Below N W0 w1:=h0.trans (hb.mono (Nat.le_trans hN h0.size))
theorem Below.drewN {N:Nat} {w a:World} (h:Below N w a) (n:Nat):Below N w (a.drewN n):=⟨h.os,h.tape,h.output,h.size,h.block⟩
theorem Below.after {W0 W w1:World} (h0:Below W0.heap.size W0 W) (hb:Below W.heap.size W w1):Below W0.heap.size W0 w1:=h0.trans (hb.mono h0.size)
theorem ret_bool {a b:Bool} (h:a=b):Ending.returned (.bool a) = .returned (.bool b):=by rw [h]
def At (W:World) (b:Nat) (o:Obj):Prop:=W.heap[b]? = some o
theorem At.lt {W:World} {b:Nat} {o:Obj} (h:At W b o):b<W.heap.size:=(Array.getElem?_eq_some_iff.1 h).1
theorem At.new (W:World) (o:Obj):At (W.alloc o) W.heap.size o:=by
 show (W.heap.push o)[W.heap.size]? = some o
 simp
theorem At.new' {W:World} {b:Nat} (o:Obj) (h:b=W.heap.size):At (W.alloc o) b o:=h ▸ At.new W o
theorem At.alloc {W:World} {b:Nat} {o:Obj} (h:At W b o) (o':Obj):At (W.alloc o') b o:=by
 show (W.alloc o').heap[b]? = some o
 rw [Below.heap_alloc W o' b h.lt];exact h
theorem At.keep {W W':World} {b:Nat} {o:Obj} (h:At W b o) (hb:Below W.heap.size W W'):At W' b o:=(hb.block b h.lt).trans h
theorem At.cell {W:World} {b:Nat} {vs:Array Value} {T:TypeId} (h:At W b (.cells vs T)) (i:Nat):W.cell? ⟨b,i,none⟩=vs[i]? := by
 unfold At at h
 simp [World.cell?, h]
theorem At.thaw {W:World} {b:Nat} {vs:Array Value} {T:TypeId} (h:At W b (.cells vs T)) (i:Nat):W.frozen? ⟨b,i,none⟩=false:=by
 unfold At at h
 simp [World.frozen?, h]
theorem At.off {W:World} {b n:Nat} {o:Obj} (h:At W b o) (hne:b≠n) (i:Nat) (x:Value):At (W.setCell ⟨n,i,none⟩ x) b o:=by
 have e:(W.setCell ⟨n,i,none⟩ x).heap[b]? = W.heap[b]? := Below.heap_setCell W ⟨n,i,none⟩ x b hne
 exact e.trans h
theorem At.set {W:World} {b:Nat} {vs:Array Value} {T:TypeId} (h:At W b (.cells vs T)) (i:Nat) (x:Value):At (W.setCell ⟨b,i,none⟩ x) b (.cells (vs.setIfInBounds i x) T):=by
 unfold At at *
 obtain ⟨hlt,he⟩:=Array.getElem?_eq_some_iff.1 h
 simp [World.setCell,hlt,Array.getElem_modify,he]
theorem At.put4 {W:World} {b:Nat} {x y z u:Value} {T:TypeId} (h:At W b (.cells #[x,y,z,u] T)) (x' y' z' u':Value) :
 At ((((W.setCell ⟨b,0,none⟩ x').setCell ⟨b,1,none⟩ y').setCell ⟨b,2,none⟩ z').setCell ⟨b,3,none⟩ u') b (.cells #[x',y',z',u'] T):=(((h.set 0 x').set 1 y').set 2 z').set 3 u'
theorem At.put2 {W:World} {b:Nat} {x y:Value} {T:TypeId} (h:At W b (.cells #[x,y] T)) (x' y':Value) :
 At ((W.setCell ⟨b,0,none⟩ x').setCell ⟨b,1,none⟩ y') b (.cells #[x',y'] T):=(h.set 0 x').set 1 y'
theorem At.one {W:World} {b:Nat} {x:Value} {T:TypeId} (h:At W b (.cells #[x] T)):b<W.heap.size∧W.cell? ⟨b,0,none⟩=some x:=⟨h.lt,h.cell 0⟩
theorem At.two {W:World} {b:Nat} {x y:Value} {T:TypeId} (h:At W b (.cells #[x,y] T)):b<W.heap.size∧W.cell? ⟨b,0,none⟩=some x∧W.cell? ⟨b,1,none⟩=some y:=⟨h.lt,h.cell 0,h.cell 1⟩
theorem At.three {W:World} {b:Nat} {x y z:Value} {T:TypeId} (h:At W b (.cells #[x,y,z] T)):b<W.heap.size∧W.cell? ⟨b,0,none⟩=some x∧W.cell? ⟨b,1,none⟩=some y∧W.cell? ⟨b,2,none⟩=some z:=⟨h.lt,h.cell 0,h.cell 1,h.cell 2⟩
theorem At.four {W:World} {b:Nat} {x y z u:Value} {T:TypeId} (h:At W b (.cells #[x,y,z,u] T)):b<W.heap.size∧W.cell? ⟨b,0,none⟩=some x∧W.cell? ⟨b,1,none⟩=some y∧W.cell? ⟨b,2,none⟩=some z∧W.cell? ⟨b,3,none⟩=some u:=⟨h.lt,h.cell 0,h.cell 1,h.cell 2,h.cell 3⟩
theorem At.eight {W:World} {b:Nat} {x y z u x' y' z' u':Value} {T:TypeId} (h:At W b (.cells #[x,y,z,u,x',y',z',u'] T)):b<W.heap.size∧W.cell? ⟨b,0,none⟩=some x∧W.cell? ⟨b,1,none⟩=some y∧W.cell? ⟨b,2,none⟩=some z∧W.cell? ⟨b,3,none⟩=some u∧W.cell? ⟨b,4,none⟩=some x'∧W.cell? ⟨b,5,none⟩=some y'∧W.cell? ⟨b,6,none⟩=some z'∧W.cell? ⟨b,7,none⟩=some u':=⟨h.lt,h.cell 0,h.cell 1,h.cell 2,h.cell 3,h.cell 4,h.cell 5,h.cell 6,h.cell 7⟩
end Go.Proofs.YteggipnplbkijaaGreat.Fix
namespace Go.Proofs.YteggipnplbkijaaGreat.Drawn
open Go
section
variable {P:Program} {ops:Array Oper} {Q:Exit→Act→World→Prop} {md:Region.Mode} {S:World→Prop}
def Ends (P:Program) (S:World→Prop) (v:Value):Result Next→Prop
 | .ok (.value u) w'=>u=v∧S w'
 | .ok (.enter f args) w'=>Calls P f args w' fun e w''=>e = .returned v∧S w''
 | _=>False
def Det (P:Program) (ops:Array Oper) (S:World→Prop) (o:Oper) (v:Value) (a:Act):Prop :=
 (Region.wanted o (yielded ops a.tmps)=true∧∀ w,S w→Ends P S v ((execOp a.eval o).run P w)) ∨
 (Region.wanted o (yielded ops a.tmps)=false∧v=undef)
theorem Det.of_same {o:Oper} {v:Value} {a a':Act} (hy:Det P ops S o v a) (he:execOp a'.eval o=execOp a.eval o)
  (hw:Region.wanted o (yielded ops a'.tmps)=Region.wanted o (yielded ops a.tmps)):Det P ops S o v a':=by
 unfold Det at *
 rw [he,hw]
 exact hy
theorem Det.wpOp {i:Nat} {o:Oper} {v:Value} {a:Act} (hi:ops[i]? = some o) (hy:Det P ops S o v a)
  {K:Act→World→Prop} {w:World} (hS:S w) (h:∀ w',S w'→K (a.put o.dst v) w'):wpOp P ops Q i K a w:=by
 unfold Go.wpOp
 simp only [hi]
 rcases hy with ⟨hw,hv⟩ | ⟨hw,rfl⟩
 · simp only [hw,if_true]
   refine .inl ?_
   unfold Oper.wp
   have h1:=hv w hS
   generalize (execOp a.eval o).run P w=r at *
   cases r with
   | ok n w' =>
     cases n <;> simp only [Ends] at h1 <;> simp only [Oper.upon]
     case value u=>obtain ⟨rfl,hs⟩:=h1;exact h _ hs
     case enter f args=>exact Calls.mono h1 fun e w'' ⟨he,hs⟩=>by subst he;exact h _ hs
   | halt x w'=>exact h1.elim
 · simp only [hw,Bool.false_eq_true,if_false];exact h _ hS
def DetAny (P:Program) (md:Region.Mode) (ops:Array Oper) (S:World→Prop) (m:Nat) (B:Array Bool→Act→Prop):Nat→Array Bool→Act→Prop
 | 0,listed,a=>(∀ k,k<m→listed.getD k true=true)∧B listed a
 | fuel + 1,listed,a =>
   Region.ready md ops listed≠[] ∧
   ∀ i ∈ Region.ready md ops listed,∃ o v,ops[i]? = some o∧Det P ops S o v a∧DetAny P md ops S m B fuel (listed.setIfInBounds i true) (a.put o.dst v)
theorem DetAny.any {m tf:Nat}:∀ (fuel:Nat) (listed:Array Bool) (a:Act),DetAny P md ops S m (fun listed a=>∀ w,S w→wpAny P md ops Q tf listed a w) fuel listed a→∀ w,S w→wpAny P md ops Q (tf + fuel) listed a w
 | 0,_,_,h=>h.2
 | fuel + 1,_,_,h=>fun w hS=>⟨fun hr=>absurd hr h.1,fun i hi=>by
  obtain ⟨o,v,ho,hd,hn⟩:=h.2 i hi
  exact hd.wpOp ho hS fun w' hS'=>DetAny.any fuel _ _ hn w' hS'⟩
def tailWaits (md:Region.Mode) (ops:Array Oper) (m:Nat):Bool :=
 (List.range ops.size).all fun j=>decide (j<m) || (List.range m).all fun k=>match ops[j]? with
  | some o=>o.after.any fun e=>Region.binds md e && e.on == k
  | none=>true
theorem tailWaits_spec {m:Nat} (h:tailWaits md ops m=true) {j k:Nat} {o:Oper} (ho:ops[j]? = some o) (hj:m≤j) (hk:k<m):∃ e ∈ o.after,Region.binds md e=true∧e.on=k:=by
 unfold tailWaits at h
 rw [List.all_eq_true] at h
 have h1:=h j (List.mem_range.2 (Array.getElem?_eq_some_iff.1 ho).1)
 have hd:decide (j<m)=false:=by simpa using hj
 rw [hd,Bool.false_or,List.all_eq_true] at h1
 have h2:=h1 k (List.mem_range.2 hk)
 simp only [ho] at h2
 obtain ⟨e,he,hb⟩:=Array.any_eq_true'.1 h2
 simp only [Bool.and_eq_true,beq_iff_eq] at hb
 exact ⟨e,he,hb.1,hb.2⟩
theorem not_listed {i:Nat} {listed:Array Bool} (h0:listed.getD i true=false) (h1:listed.getD i false=true):False:=by
 rcases Nat.lt_or_ge i listed.size with h' | h'
 · simp [h'] at h0 h1;rw [h0] at h1;cases h1
 · simp [Array.getElem?_eq_none h'] at h1
def Clear (md:Region.Mode) (ops:Array Oper) (listed:Array Bool) (i:Nat) (oi:Oper):Prop :=
 ∀ j oj,ops[j]? = some oj→j≠i→listed.getD j true=false→(∃ e ∈ oj.after,Region.binds md e=true∧e.on=i)∨oi.apart ops oj=true
theorem Clear.set {listed:Array Bool} {i:Nat} {oi:Oper} (h:Clear md ops listed i oi) (j:Nat):Clear md ops (listed.setIfInBounds j true) i oi:=fun k ok hk hki hun =>
 h k ok hk hki (by
  by_cases hjk:j=k
  · subst hjk
    rcases Nat.lt_or_ge j listed.size with h' | h'
    · simp [h'] at hun
    · simp at hun
  · rwa [getD_set_ne true hjk] at hun)
theorem waits_not {i j:Nat} {listed:Array Bool} {oj:Oper} (hi:i ∈ Region.ready md ops listed) (hj:j ∈ Region.ready md ops listed) (ho:ops[j]? = some oj) (h:∃ e ∈ oj.after,Region.binds md e=true∧e.on=i):False:=by
 obtain ⟨e,he,hb,rfl⟩:=h
 obtain ⟨_,o,ho',hall⟩:=mem_ready.1 hj
 obtain rfl:oj=o:=Option.some.inj (ho.symm.trans ho')
 exact not_listed (mem_ready.1 hi).1 (hall e he hb)
theorem det_first {m:Nat} {B:Array Bool→Act→Prop} (ht:tailWaits md ops m=true) {i:Nat} {oi:Oper} {v:Value} (him:i<m) (hi:ops[i]? = some oi) (hsel:∀ (j:Nat) (o:Oper) cs b,ops[j]? = some o→o.op ≠ .select cs b)
  (fuel:Nat) (listed:Array Bool) (a:Act) (hc:Clear md ops listed i oi) (hr:i ∈ Region.ready md ops listed) (hy:Det P ops S oi v a)
  (H:DetAny P md ops S m B fuel (listed.setIfInBounds i true) (a.put oi.dst v)):DetAny P md ops S m B (fuel + 1) listed a:=by
 induction fuel generalizing listed a with
 | zero =>
   refine ⟨List.ne_nil_of_mem hr,fun j hj => ?_⟩
   rcases Nat.decEq j i with hji | rfl
   · exfalso
     obtain ⟨hun,oj,ho,_⟩:=mem_ready.1 hj
     by_cases hjm:j<m
     · have:=H.1 j hjm
       rw [getD_set_ne true (Ne.symm hji),hun] at this
       cases this
     · exact waits_not hr hj ho (tailWaits_spec ht ho Z3f him)
   · exact ⟨oi,v,hi,hy,H⟩
 | succ fuel ih =>
   refine ⟨List.ne_nil_of_mem hr,fun j hj => ?_⟩
   rcases Nat.decEq j i with hji | rfl
   · obtain ⟨oj,u,ho,hyj,hn⟩:=H.2 j (ready_mono hj hji)
     obtain ⟨a1,a2,a3⟩:=Oper.apart_spec ((hc j oj ho hji (mem_ready.1 hj).1).resolve_left (waits_not hr hj ho))
     refine ⟨oj,u,ho,hyj.of_same (execOp_put oj (fun cs b=>hsel j oj cs b ho) a oi.dst v a1).symm (wanted_put oj a oi.dst v a1).symm,ih _ _ (hc.set j) (ready_mono hr (Ne.symm hji)) ?_ ?_⟩
     · exact Z1u
     · exact Z2x
   · exact ⟨oi,v,hi,hy,H⟩
def wpText (P:Program) (ops:Array Oper) (Q:Exit→Act→World→Prop):List Oper→Act→World→Prop
 | [],a,w=>Q .normal a w
 | o :: os,a,w=>if Region.wanted o (yielded ops a.tmps)=true then o.wp P a w (wpText P ops Q os) Q else wpText P ops Q os (a.put o.dst undef) w
def forced (md:Region.Mode) (ops:Array Oper):Nat→Nat→Array Bool→Bool
 | 0,_,listed=>(Region.ready md ops listed).isEmpty
 | t + 1,i,listed=>(Region.ready md ops listed == [i]) && forced md ops t (i + 1) (listed.setIfInBounds i true)
def textOk (md:Region.Mode) (ops:Array Oper) (t:Nat):Nat→Nat→Array Bool→Bool
 | 0,i,listed=>forced md ops t i listed
 | k + 1,i,listed=>Region.free md ops listed i && (Region.ready md ops listed).contains i && textOk md ops t k (i + 1) (listed.setIfInBounds i true)
def DetSeq (P:Program) (ops:Array Oper) (Q:Exit→Act→World→Prop) (S:World→Prop):Nat→List Oper→Act→Prop
 | 0,os,a=>∀ w,S w→wpText P ops Q os a w
 | _ + 1,[],_=>False
 | k + 1,o :: os,a=>∃ v,Det P ops S o v a∧DetSeq P ops Q S k os (a.put o.dst v)
theorem drop_cons {i:Nat} {o:Oper} {os:List Oper} (hd:ops.toList.drop i=o :: os):ops[i]? = some o∧ops.toList.drop (i + 1)=os:=by
 have hlt:i<ops.toList.length:=by
  rcases Nat.lt_or_ge i ops.toList.length with h' | h'
  · exact h'
  · rw [List.drop_eq_nil_of_le h'] at hd;cases hd
 rw [List.drop_eq_getElem_cons hlt] at hd
 refine ⟨?_,(List.cons.inj hd).2⟩
 have:=(List.cons.inj hd).1
 rw [← this];simp at hlt ⊢
theorem clear_of_free {i:Nat} {oi:Oper} {listed:Array Bool} (hi:ops[i]? = some oi) (h:Region.free md ops listed i=true):Clear md ops listed i oi:=fun j oj ho hji hun=>by
 by_cases hw:∃ e ∈ oj.after,Region.binds md e=true∧e.on=i
 · exact .inl hw
 · exact .inr (Region.free_spec hi h j oj ho hji hun fun e he hb hon=>hw ⟨e,he,hb,hon⟩)
theorem tail_any:∀ (os:List Oper) (i:Nat) (listed:Array Bool) (a:Act) (w:World),ops.toList.drop i=os→forced md ops os.length i listed=true →
  wpText P ops Q os a w→wpAny P md ops Q os.length listed a w
 | [],i,listed,a,w,_,hk,h=>by
  simp only [List.length_nil,forced,List.isEmpty_iff] at hk
  exact ⟨hk,h⟩
 | o :: os,i,listed,a,w,hd,hk,h=>by
  simp only [List.length_cons,forced,Bool.and_eq_true,beq_iff_eq] at hk
  obtain ⟨hr,hk⟩:=hk
  obtain ⟨ho,hd'⟩:=drop_cons hd
  refine ⟨fun h0=>(by rw [hr] at h0;cases h0),fun j hj => ?_⟩
  rw [hr] at hj
  obtain rfl:j=i:=by simpa using hj
  unfold wpOp
  simp only [ho]
  unfold wpText at h
  by_cases hw:Region.wanted o (yielded ops a.tmps)=true
  · rw [if_pos hw] at h
    simp only [hw,if_true]
    exact .inl (Oper.wp_mono (fun a' w' h'=>tail_any os (j + 1) _ a' w' hd' hk h') h)
  · rw [if_neg hw] at h
    simp only [hw,Bool.false_eq_true,if_false]
    exact tail_any os (j + 1) _ _ _ hd' hk h
theorem seq_any {m t:Nat} (hs:Region.noSelect ops=true) (ht:tailWaits md ops m=true) (hm:ops.toList.length=m + t):∀ (k:Nat) (os:List Oper) (i:Nat) (listed:Array Bool) (a:Act),ops.toList.drop i=os→i + k=m →
  (∀ q,q<i→listed.getD q true=true)→textOk md ops t k i listed=true →
  DetSeq P ops Q S k os a→DetAny P md ops S m (fun listed a=>∀ w,S w→wpAny P md ops Q t listed a w) k listed a
 | 0,os,i,listed,a,hd,hi,hl,hk,h=>by
  exact Z2j
 | k + 1,[],i,listed,a,_,_,_,_,h=>h.elim
 | k + 1,o :: os,i,listed,a,hd,hi,hl,hk,⟨v,hy,hn⟩=>by
  simp only [textOk,Bool.and_eq_true] at hk
  obtain ⟨⟨hf,hr⟩,hk⟩:=hk
  obtain ⟨ho,hd'⟩:=drop_cons hd
  refine det_first ht Z3f ho (Region.noSelect_spec hs) k listed a (clear_of_free ho hf) (by simpa using hr) hy ?_
  refine seq_any hs ht hm k os (i + 1) _ _ hd' Z3f ?_ hk hn
  exact Z1z
theorem wp_region_text {id:Nat} {l:List Oper} {a:Act} {w:World} (m t:Nat) (S:World→Prop) (hp:P.follows .mixedOrders=true) (hs:Region.noSelect l.toArray=true)
  (hl:l.length=m + t) (ht:tailWaits .any l.toArray m=true) (hk:textOk .any l.toArray t m 0 (Array.replicate l.length false)=true) (hS:S w.drew) (h:DetSeq P l.toArray Q S m l a):(Code.region id l.toArray true).wp P Q a w :=
 wp_region_any hp (by
  have h1:=DetAny.any (Q:=Q) (tf:=t) m (Array.replicate l.length false) a (seq_any (md:= .any) (Q:=Q) (m:=m) (t:=t) hs ht (by simpa using hl) m l 0 (Array.replicate l.length false) a Z3t Z3f (fun q hq=>by omega) hk h) _ hS
  have e:l.toArray.size=t + m:=by simp;omega
  rw [e]
  have e2:Array.replicate (t + m) false=Array.replicate l.length false:=by rw [hl,Nat.add_comm]
  rw [e2];exact h1)
theorem wp_region_from {id:Nat} {l:List Oper} {a:Act} {W0 w:World} (h0:RowKit.Below W0.heap.size W0 w) (hp:P.follows .mixedOrders=true) (hs:Region.noSelect l.toArray=true)
  (hk:textOk .any l.toArray 0 l.length 0 (Array.replicate l.length false)=true) (h:DetSeq P l.toArray Q (fun w'=>RowKit.Below W0.heap.size W0 w') l.length l a):(Code.region id l.toArray true).wp P Q a w :=
 wp_region_text l.length 0 _ hp hs Z3t (by
  unfold tailWaits
  rw [List.all_eq_true]
  intro j hj
  have:j<l.length:=by simpa using hj
  simp [this]) hk h0.drew h
theorem wp_region_tail {id:Nat} {l:List Oper} {a:Act} {W0 w:World} (m t:Nat) (h0:RowKit.Below W0.heap.size W0 w) (hp:P.follows .mixedOrders=true) (hs:Region.noSelect l.toArray=true)
  (hl:l.length=m + t) (ht:tailWaits .any l.toArray m=true) (hk:textOk .any l.toArray t m 0 (Array.replicate l.length false)=true) (h:DetSeq P l.toArray Q (fun w'=>RowKit.Below W0.heap.size W0 w') m l a):(Code.region id l.toArray true).wp P Q a w :=
 wp_region_text m t _ hp hs hl ht hk h0.drew h
theorem seq_skip {k:Nat} {o:Oper} {os:List Oper} {a:Act} (hw:Region.wanted o (yielded ops a.tmps)=false) (h:DetSeq P ops Q S k os (a.put o.dst undef)):DetSeq P ops Q S (k + 1) (o :: os) a :=
 ⟨undef,.inr ⟨hw,rfl⟩,h⟩
theorem seq_value {k:Nat} {o:Oper} {os:List Oper} {a:Act} {v:Value} (hw:Region.wanted o (yielded ops a.tmps)=true) (hv:∀ w,S w→(execOp a.eval o).run P w = .ok (.value v) w)
  (h:DetSeq P ops Q S k os (a.put o.dst v)):DetSeq P ops Q S (k + 1) (o :: os) a :=
 ⟨v,.inl ⟨hw,fun w hS=>by rw [hv w hS];exact ⟨rfl,hS⟩⟩,h⟩
theorem seq_call {k:Nat} {o:Oper} {os:List Oper} {a:Act} {v:Value} {f:FuncId} {args:Array Value} (hw:Region.wanted o (yielded ops a.tmps)=true)
  (hv:∀ w,S w→(execOp a.eval o).run P w = .ok (.enter f args) w) (hc:∀ w,S w→Calls P f args w fun e w''=>e = .returned v∧S w'')
  (h:DetSeq P ops Q S k os (a.put o.dst v)):DetSeq P ops Q S (k + 1) (o :: os) a :=
 ⟨v,.inl ⟨hw,fun w hS=>by rw [hv w hS];exact hc w hS⟩,h⟩
theorem seq_end {a:Act} (h:∀ w,S w→Q .normal a w):DetSeq P ops Q S 0 [] a:=h
theorem seq_tail {a:Act} {os:List Oper} (h:∀ w,S w→wpText P ops Q os a w):DetSeq P ops Q S 0 os a:=h
theorem text_cons {o:Oper} {os:List Oper} {a:Act} {w:World} (hw:Region.wanted o (yielded ops a.tmps)=true) (h:∀ K:Act→World→Prop,(∀ a w,wpText P ops Q os a w→K a w)→o.wp P a w K Q):wpText P ops Q (o :: os) a w:=by
 unfold wpText;rw [if_pos hw];exact h _ fun _ _ h=>h
theorem text_nil {a:Act} {w:World} (h:Q .normal a w):wpText P ops Q [] a w:=h
end
end Go.Proofs.YteggipnplbkijaaGreat.Drawn
namespace Go.Proofs.YteggipnplbkijaaGreat
open Go Drawn
section
variable {P:Program} {ops:Array Oper} {Q:Exit→Act→World→Prop} {md:Region.Mode} {S:World→Prop}
theorem tkL {P:Prop} (h:P:=by go_simp;first | done | with_reducible rfl | exact ⟨rfl,rfl⟩):P:=h
theorem tkp (a:Act) (d:Option Tmp) (v:Value):a.put d v=match d with | some d=>{ a with tmps:=a.tmps.setIfInBounds d v } | none=>a:=rfl
theorem tka {α:Type} (l:List α) (i:Nat) (x:α):l.toArray.setIfInBounds i x=(l.set i x).toArray:=List.setIfInBounds_toArray ..
theorem tkz {α:Type} (x:α) (l:List α) (y:α):(x :: l).set 0 y=y :: l:=rfl
theorem tks {α:Type} (x:α) (l:List α) (i:Nat) (y:α):(x :: l).set (i + 1) y=x :: l.set i y:=rfl
theorem sqk {k:Nat} {o:Oper} {os:List Oper} {a a':Act} (h:DetSeq P ops Q S k os a') (hw:Region.wanted o (yielded ops a.tmps)=false:=by rfl) (ha:a.put o.dst undef=a':=by first | (simp only [Act.put,List.setIfInBounds_toArray,List.set_cons_zero,List.set_cons_succ];rfl) | (simp only [Act.put,List.setIfInBounds_toArray,List.set_cons_zero,List.set_cons_succ];done) | rfl):DetSeq P ops Q S (k + 1) (o :: os) a:=seq_skip hw (ha ▸ h)
theorem sqv {k:Nat} {o:Oper} {os:List Oper} {a a':Act} {v:Value} (h:DetSeq P ops Q S k os a') (hw:Region.wanted o (yielded ops a.tmps)=true:=by rfl)
 (hv:∀ w,S w→(execOp a.eval o).run P w = .ok (.value v) w:=by intro w2 hS;obtain ⟨hc,hf⟩:=bcell hS;go_simp;first | done | with_reducible rfl | exact ⟨rfl,rfl⟩) (ha:a.put o.dst v=a':=by first | (simp only [Act.put,List.setIfInBounds_toArray,List.set_cons_zero,List.set_cons_succ];rfl) | (simp only [Act.put,List.setIfInBounds_toArray,List.set_cons_zero,List.set_cons_succ];done) | rfl):DetSeq P ops Q S (k + 1) (o :: os) a:=seq_value hw hv (ha ▸ h)
theorem sqc {k:Nat} {d g x y t p af gd} {os:List Oper} {a a':Act} {v:Value} {f:FuncId} {args:Array Value} (h:DetSeq P ops Q S k os a') (hw:Region.wanted ⟨d,.call ⟨.value g,x,y⟩,t,p,af,gd⟩ (yielded ops a.tmps)=true:=by rfl)
 (hv:∀ w,S w→(execOp a.eval ⟨d,.call ⟨.value g,x,y⟩,t,p,af,gd⟩).run P w = .ok (.enter f args) w:=by intro w2 hS;go_simp;first | done | with_reducible rfl | exact ⟨rfl,rfl⟩) (hc:∀ w,S w→Calls P f args w fun e w''=>e = .returned v∧S w'') (ha:a.put d v=a':=by first | (simp only [Act.put,List.setIfInBounds_toArray,List.set_cons_zero,List.set_cons_succ];rfl) | (simp only [Act.put,List.setIfInBounds_toArray,List.set_cons_zero,List.set_cons_succ];done) | rfl):DetSeq P ops Q S (k + 1) (⟨d,.call ⟨.value g,x,y⟩,t,p,af,gd⟩ :: os) a:=seq_call hw hv hc (ha ▸ h)
theorem sqt {id:Nat} {l:List Oper} {a:Act} {W0 w:World} (h:DetSeq P l.toArray Q (fun w'=>RowKit.Below W0.heap.size W0 w') l.length l a) (h0:RowKit.Below W0.heap.size W0 w:=by exact RowKit.Below.refl _ _) (hp:P.follows .mixedOrders=true:=by kernel_rfl) (hs:Region.noSelect l.toArray=true:=by kernel_rfl)
 (hk:textOk .any l.toArray 0 l.length 0 (Array.replicate l.length false)=true:=by kernel_rfl):(Code.region id l.toArray true).wp P Q a w:=wp_region_from h0 hp hs hk h
theorem sqtt {id:Nat} {l:List Oper} {a:Act} {W0 w:World} (m t:Nat) (h:DetSeq P l.toArray Q (fun w'=>RowKit.Below W0.heap.size W0 w') m l a) (h0:RowKit.Below W0.heap.size W0 w:=by exact RowKit.Below.refl _ _) (hp:P.follows .mixedOrders=true:=by kernel_rfl) (hs:Region.noSelect l.toArray=true:=by kernel_rfl)
 (hl:l.length=m + t:=by rfl) (ht:tailWaits .any l.toArray m=true:=by kernel_rfl) (hk:textOk .any l.toArray t m 0 (Array.replicate l.length false)=true:=by kernel_rfl):(Code.region id l.toArray true).wp P Q a w:=wp_region_tail m t h0 hp hs hl ht hk h
theorem tkT {o:Oper} {os:List Oper} {a:Act} {w:World} (h:∀ K:Act→World→Prop,(∀ a w,wpText P ops Q os a w→K a w)→o.wp P a w K Q) (hw:Region.wanted o (yielded ops a.tmps)=true:=by rfl):wpText P ops Q (o :: os) a w:=text_cons hw h
theorem qaB {F:FuncId} {A:Array Value} {v:Value} {W0 w:World} (hS:RowKit.Below W0.heap.size W0 w) (h:Calls P F A w fun e w'=>e = .returned v∧RowKit.Below w.heap.size w w'):Calls P F A w fun e w'=>e = .returned v∧RowKit.Below W0.heap.size W0 w':=h.mono fun _ _ h=>⟨h.1,hS.trans (h.2.mono hS.size)⟩
theorem qaE {F:FuncId} {A:Array Value} {v:Value} {w:World} (hS:S w) (h:Calls P F A w fun e w'=>e = .returned v∧w=w'):Calls P F A w fun e w'=>e = .returned v∧S w':=h.mono fun _ _ h=>⟨h.1,h.2 ▸ hS⟩
theorem qmE {F:FuncId} {A:Array Value} {v:Value} {w:World} {R:Ending→World→Prop} (h:Calls P F A w fun e w'=>e = .returned v∧w=w') (k:R (.returned v) w):Calls P F A w R:=h.mono fun _ _ ⟨e1,e2⟩=>by subst e1 e2;exact k
end
end Go.Proofs.YteggipnplbkijaaGreat
namespace Go.Proofs.YteggipnplbkijaaGreat.Fix
open Go.ChangeShapes Go.WideShapes Go.ChangeAt Go.RowKit
theorem fixed_any (k n base:Int) (w:World):Calls Tryz.prog 30 #[.agg #[.int .i64 k,.int .i64 n],.int .i64 base] w fun e w'=>e = .returned (.bool (Fx.fixd k base))∧Below w.heap.size w w':=by
 go_enter Tryz.func30,Tryz.ntmps30
 go_wp2
 all_goals go_ret
 all_goals
  refine ⟨ret_bool (by unfold Fx.fixd;simp [*]),?_⟩
  exact Z6
theorem len_any (k n base none:Int) (w:World):Calls Tryz.prog 31 #[.agg #[.int .i64 k,.int .i64 n],.int .i64 base,.int .i64 none] w fun e w'=>e = .returned (.int .i64 (Fx.len k n base none))∧Below w.heap.size w w':=by
 cases hF:Fx.fixd k base with
 | false =>
   have Hr:=Lib.hid (Fx.len_not (n:=n) (none:=none) hF)
   go_enter Tryz.func31,Tryz.ntmps31
   go_wp2_with (first | (go_at_call 59;with_reducible refine qmE (cut_any _ _) ?_) | (go_at_call 30;(with_reducible refine (fixed_any _ _ _ _).mono ?_);rintro e w' ⟨rfl,hb⟩;(try replace hb:=Below.after Z3v hb);obtain ⟨hc,hf⟩:=bcell hb;have hz:=hb.size;(try simp at hz)))
   all_goals go_ret
   all_goals
    refine ⟨ret_int Hr.out.symm,?_⟩
    exact Z6
 | true =>
   have h:=Fx.fixd_iff.1 hF
   by_cases h1:k=1
   · clear h
     subst h1
     have Hr:=Lib.hid (Fx.len_px (k:=1) (n:=n) (base:=base) (none:=none) rfl)
     exact Z1q
   · obtain ⟨h2,h3⟩:k=2∧0≤base:=by omega
     clear h
     subst h2
     have Hr:=Lib.hid (Fx.len_per (k:=2) (n:=n) (none:=none) rfl h3)
     exact Z1q
theorem valid_any (k n:Int) (w:World):Calls Tryz.prog 201 #[.agg #[.int .i64 k,.int .i64 n]] w fun e w'=>e = .returned (.bool (Fx.valid k n))∧Below w.heap.size w w':=by
 by_cases h0:k=0
 · subst h0
   go_enter Tryz.func201,Tryz.ntmps201
   go_wp2
   go_ret
   refine ⟨ret_bool (by unfold Fx.valid;rw [if_pos rfl];rfl),?_⟩
   exact Z6
 · by_cases h1:k=1
   · subst h1
     go_enter Tryz.func201,Tryz.ntmps201
     go_wp2
     refine sqt ?_ (h0:=by first | assumption | exact Below.refl _ _)
     (repeat (first | refine sqk ?_ | refine sqc ?_ (hc:=by intro w2 hS;first | with_reducible exact qaE hS (cut_any _ _)) | refine sqv ?_))
     refine Drawn.seq_end ?_;intro w2 hS
     go_wp2
     go_ret
     refine ⟨ret_bool (by unfold Fx.valid;rw [if_neg Z3f,if_pos rfl];rfl),?_⟩
     exact Z6
   · by_cases h2:k=2
     · subst h2
       go_enter Tryz.func201,Tryz.ntmps201
       go_wp2
       all_goals
        go_ret
        refine ⟨ret_bool (by unfold Fx.valid;rw [if_neg Z3f,if_neg Z3f,if_pos rfl];simp [*] <;> omega),?_⟩
        exact Z6
     · have g0:(k == 0)=false:=by simp [h0]
       have g1:(k == 1)=false:=by simp [h1]
       have g2:(k == 2)=false:=by simp [h2]
       go_enter Tryz.func201,Tryz.ntmps201
       go_wp2
       go_ret
       refine ⟨ret_bool (by unfold Fx.valid;rw [if_neg h0,if_neg h1,if_neg h2]),?_⟩
       exact Z6
theorem end_any (k n far base:Int) (B:Nat) (w:World) (hcell:w.cell? ⟨B,0,none⟩=some (.int .i64 base)):Calls Tryz.prog 61 #[.agg #[.int .i64 k,.int .i64 n],.int .i64 far,.pointer (some ⟨B,0,none⟩)] w fun e w'=>e = .returned (.int .i64 (Fx.len k n base far))∧Below w.heap.size w w':=by
 have hlt:B<w.heap.size:=World.block_lt_of_cell? _ _ hcell
 go_enter Tryz.func61,Tryz.ntmps61
 go_wp2_with (first | (go_at_call 31;(with_reducible refine (len_any _ _ _ _ _).mono ?_);rintro e w' ⟨rfl,hb⟩;(try replace hb:=Below.after Z3v hb);obtain ⟨hc,hf⟩:=bcell hb;have hz:=hb.size;(try simp at hz)))
 go_ret
 refine ⟨rfl,?_⟩
 exact Z6
theorem limit_any (n lk ln hk hn base:Int) (w:World):Calls Tryz.prog 32 #[.int .i64 n,.agg #[.int .i64 lk,.int .i64 ln],.agg #[.int .i64 hk,.int .i64 hn],.int .i64 base] w fun e w'=>e = .returned (.int .i64 (Fx.limit n lk ln hk hn base))∧Below w.heap.size w w':=by
 have hmf:∀ (fn:Fn) (first cap:Array Value) (w:World),(Instr.makeFunc fn first cap).run Tryz.prog w = .ok (.func fn first cap) w:=fun _ _ _ _=>rfl
 by_cases h:Fx.clamp n (Fx.len lk ln base (-1099511627776)) (Fx.len hk hn base 1099511627776)<0
 all_goals
  (try replace h:=Int.not_lt.1 h)
  go_enter Tryz.func32,Tryz.ntmps32
  go_upto_region 1 with (fail)
  (generalize hW:World.alloc (World.alloc (World.alloc w _) _) _=W0;have A0:At W0 (w.heap.size) (.cells #[.int .i64 lk,.int .i64 ln] 28):=(by ((rw [← hW]) <;> exact At.alloc (At.alloc (At.new' _ Z3s) _) _));have A1:At W0 (w.heap.size + 1) (.cells #[.int .i64 hk,.int .i64 hn] 28):=Z4e;have A2:At W0 (w.heap.size + 1 + 1) (.cells #[.int .i64 base] 3):=(by ((rw [← hW]) <;> exact At.new' _ Z3s));have hB:Below w.heap.size w W0:=(by ((rw [← hW]) <;> exact Below.alloc' (Below.alloc' (Below.alloc' (Below.refl _ _) _) _) _));clear hW;obtain ⟨l0,c0_0,c0_1⟩:=At.two A0;obtain ⟨l1,c1_0,c1_1⟩:=At.two A1;obtain ⟨l2,c2_0⟩:=At.one A2)
  go_upto_region 2 with (fail)
  refine sqt ?_
  (repeat (first | refine sqk ?_ | refine sqc ?_ (hc:=by intro w2 hS;first | with_reducible exact qaB hS (end_any _ _ _ _ _ _ (((bcell hS).1 _ _ l2).trans c2_0)) | with_reducible exact qaE hS (clamp_any _ _ _ _)) | refine sqv ?_))
  refine Drawn.seq_end ?_;intro w2 hS
  go_wp2
  go_ret
  exact ⟨ret_int (by unfold Fx.limit Fx.mx;split <;> omega),Below.after2 hB (Nat.le_refl _) hS⟩
end Go.Proofs.YteggipnplbkijaaGreat.Fix
