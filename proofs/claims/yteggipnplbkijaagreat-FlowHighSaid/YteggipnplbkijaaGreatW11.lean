/- Boxes laid by the program: what its functions do, part 11. -/
import Derived.ArgAppend
import Derived.Laws.EntriesVeiled
import Derived.Shelf.Abstract
import Derived.Test.YteggipnplbkijaaGreatWK
import Derived.Test.YteggipnplbkijaaGreatW01
import Derived.Test.YteggipnplbkijaaGreatW02
import Derived.Test.YteggipnplbkijaaGreatW05
import Derived.Test.YteggipnplbkijaaGreatW06
import Derived.Test.YteggipnplbkijaaGreatW08
import Derived.Test.YteggipnplbkijaaGreatW10
set_option linter.unusedVariables false
set_option linter.unusedSimpArgs false
set_option linter.unusedSectionVars false
set_option maxRecDepth 100000
namespace Go.Proofs.YteggipnplbkijaaGreat.Fix
open Go.ChangeShapes Go.WideShapes Go.ChangeAt Go.RowKit
def wrongs (n:Nat→Int):Bool:=((((((((((((((((((((((((((((((((((((((((false || !Re.inn (n 0) 0 3) || !Re.inn (n 1) 0 4) || !Re.inn (n 2) 0 2) || !Fx.valid (n 3) (n 4)) || !Fx.valid (n 5) (n 6)) || !Fx.valid (n 7) (n 8)) || !Fx.valid (n 9) (n 10)) || !Fx.valid (n 11) (n 12)) || !Fx.valid (n 13) (n 14)) || !Fx.valid (n 15) (n 16)) || !Fx.valid (n 17) (n 18)) || !Fx.valid (n 19) (n 20)) || !Fx.valid (n 21) (n 22)) || !Fx.valid (n 23) (n 24)) || !Fx.valid (n 25) (n 26)) || !Fx.valid (n 27) (n 28)) || !Fx.valid (n 29) (n 30)) || !Re.inn (n 31) 0 1048576) || !Re.inn (n 32) 0 1048576) || !Re.inn (n 33) 0 1048576) || !Re.inn (n 34) 0 1048576) || !Re.inn (n 35) 0 1048576) || !Re.inn (n 36) 0 1048576) || !Re.inn (n 37) 0 1048576) || !Re.inn (n 38) 0 1048576) || !Re.inn (n 39) 0 1000) || !Re.inn (n 40) 0 1000) || !Fx.valid (n 41) (n 42)) || !Re.inn (n 43) 0 5) || !Re.inn (n 44) 0 3) || !Re.inn (n 45) 0 1) || !Re.inn (n 46) 0 1048576) || !Re.inn (n 47) 0 1) || !Re.inn (n 48) (-1048576) 1048576) || !Re.inn (n 49) 0 2) || !Re.inn (n 50) 0 3) || !Re.inn (n 51) 0 1) || !Re.inn (n 52) 0 1) || !Re.inn (n 53) 0 1048576) || !Re.inn (n 54) 0 1048576)
theorem wrongs_valid (n:Nat→Int) (b:Nat→Bool):(!wrongs n)=(Re.valid ⟨n,b⟩ && (Re.inn (n 45) 0 1 && Re.inn (n 47) 0 1 && Re.inn (n 51) 0 1 && Re.inn (n 52) 0 1)):=by
 unfold wrongs Re.valid Re.kindsV Re.lensV Re.sizesV Re.lens Re.sizes
 simp only [Bool.not_or,Bool.not_not,Bool.not_false,Bool.true_and,List.all_cons,List.all_nil,Bool.and_true,Nat.reduceAdd]
 ac_rfl
set_option maxHeartbeats 4000000 in
theorem walkstyle_any {F:FuncId} {caps:Array Value} {f:Nat→Int→Int} {mine:Nat→Prop} {I:List Int→World→Prop} (hA:Asks F caps f mine I) {bs bw:Nat} {t:Re.St} {w:World} (hS:On F caps f I bw bs t 0 false w) (hp:Apart3 mine bs bw) (hm:∀ b,w.heap.size≤b→¬ mine b) :
  Calls Tryz.prog 131 #[.pointer (some ⟨bw,0,none⟩),.pointer (some ⟨bs,0,none⟩)] w fun e w'=>e = .returned (.tuple #[])∧On F caps f I bw bs t 55 (wrongs fun i=>f i (Re.num t i)) w'∧Out (Of3 mine bs bw) w w':=by
 have hO:Out (Of3 mine bs bw) w w:=Out.refl _ _
 go_enter Tryz.func131,Tryz.ntmps131
 go_wp2_with (first | (go_at_call 164;(with_reducible refine (onD_any hA hS hp Z3i rfl).mono ?_);rintro e w1 ⟨rfl,h1,hO1⟩;replace hO:=hO.trans hO1;replace hS:=h1;clear h1 hO1;simp only [Nat.reduceAdd] at hS) | (go_at_call 165;(with_reducible refine (onP_any hA hS hp Z3i rfl).mono ?_);rintro e w1 ⟨rfl,h1,hO1⟩;replace hO:=hO.trans hO1;replace hS:=h1;clear h1 hO1;simp only [Nat.reduceAdd] at hS) | (go_at_call 166;(with_reducible refine (onO_any hA hS hp Z3i rfl).mono ?_);rintro e w1 ⟨rfl,h1,hO1⟩;replace hO:=hO.trans hO1;replace hS:=h1;clear h1 hO1;simp only [Nat.reduceAdd] at hS) | (go_at_call 167;(with_reducible refine (onlen_any hA hS hp Z3i rfl rfl).mono ?_);rintro e w1 ⟨rfl,h1,hO1⟩;replace hO:=hO.trans hO1;replace hS:=h1;clear h1 hO1;simp only [Nat.reduceAdd] at hS) | (go_at_call 168;(with_reducible refine (walklens15_any hA hS hp).mono ?_);rintro e w1 ⟨rfl,h1,hO1⟩;replace hO:=hO.trans hO1;replace hS:=h1;clear h1 hO1;simp only [Nat.reduceAdd] at hS) | (go_at_call 168;(with_reducible refine (walklens23_any hA hS hp).mono ?_);rintro e w1 ⟨rfl,h1,hO1⟩;replace hO:=hO.trans hO1;replace hS:=h1;clear h1 hO1;simp only [Nat.reduceAdd] at hS) | (go_at_call 169;(with_reducible refine (walkedges31_any hA hS hp).mono ?_);rintro e w1 ⟨rfl,h1,hO1⟩;replace hO:=hO.trans hO1;replace hS:=h1;clear h1 hO1;simp only [Nat.reduceAdd] at hS) | (go_at_call 169;(with_reducible refine (walkedges35_any hA hS hp).mono ?_);rintro e w1 ⟨rfl,h1,hO1⟩;replace hO:=hO.trans hO1;replace hS:=h1;clear h1 hO1;simp only [Nat.reduceAdd] at hS) | (go_at_call 170;(with_reducible refine (oni_any hA hS hp Z3i rfl).mono ?_);rintro e w1 ⟨rfl,h1,hO1⟩;replace hO:=hO.trans hO1;replace hS:=h1;clear h1 hO1;simp only [Nat.reduceAdd] at hS) | (go_at_call 171;(with_reducible refine (onJ_any hA hS hp Z3i rfl).mono ?_);rintro e w1 ⟨rfl,h1,hO1⟩;replace hO:=hO.trans hO1;replace hS:=h1;clear h1 hO1;simp only [Nat.reduceAdd] at hS) | (go_at_call 172;(with_reducible refine (onA_any hA hS hp Z3i rfl).mono ?_);rintro e w1 ⟨rfl,h1,hO1⟩;replace hO:=hO.trans hO1;replace hS:=h1;clear h1 hO1;simp only [Nat.reduceAdd] at hS) | (go_at_call 173;(with_reducible refine (walktruth_any hA hS hp (fun b hb=>hm b (Nat.le_trans hO.size hb)) Z3i rfl).mono ?_);rintro e w1 ⟨rfl,h1,hO1⟩;replace hO:=hO.trans hO1;replace hS:=h1;clear h1 hO1;simp only [Nat.reduceAdd] at hS) | (go_at_call 174;(with_reducible refine (onK_any hA hS hp Z3i rfl).mono ?_);rintro e w1 ⟨rfl,h1,hO1⟩;replace hO:=hO.trans hO1;replace hS:=h1;clear h1 hO1;simp only [Nat.reduceAdd] at hS) | (go_at_call 175;(with_reducible refine (onE_any hA hS hp Z3i rfl).mono ?_);rintro e w1 ⟨rfl,h1,hO1⟩;replace hO:=hO.trans hO1;replace hS:=h1;clear h1 hO1;simp only [Nat.reduceAdd] at hS))
 go_end0
 exact ⟨rfl,hS,hO⟩
theorem through_any {F:FuncId} {caps:Array Value} {f:Nat→Int→Int} {mine:Nat→Prop} {I:List Int→World→Prop} (hA:Asks F caps f mine I) {bs:Nat} {t:Re.St} {w:World} (hI:I [] w) (a:At w bs (.cells (cells t) 37)) (hb:¬ mine bs) (hm:∀ b,w.heap.size≤b→¬ mine b) :
  Calls Tryz.prog 92 #[.pointer (some ⟨bs,0,none⟩),.func (.func F) #[] caps] w fun e w'=>e = .returned (.bool (!wrongs fun i=>f i (Re.num t i)))∧I (ins t 55) w'∧At w' bs (.cells (cells (mix f t 55)) 37)∧Out (fun c=>mine c∨c=bs) w w':=by
 have lb:=a.lt
 have hp:Apart3 mine bs w.heap.size:=⟨hb,hm _ (Nat.le_refl _),by omega⟩
 have hS0:On F caps f I w.heap.size bs t 0 false (w.alloc (.cells #[.func (.func F) #[] caps,.bool false] 194)):=⟨hA.keep _ _ _ hI (Below.alloc' (Below.refl _ _) _),by rw [mix_zero];exact a.alloc _,At.new _ _⟩
 generalize hr:(wrongs fun i=>f i (Re.num t i))=r
 go_enter Tryz.func92,Tryz.ntmps92
 go_wp2_with (go_at_call 131;(with_reducible refine (walkstyle_any hA hS0 hp (fun b hb=>hm b (by simp at hb;omega))).mono ?_);rintro e w2 ⟨rfl,hS,hO⟩;rw [hr] at hS;have c1:=hS.w.cell 1;simp at c1)
 go_ret
 exact ⟨rfl,hS.i,hS.a,Out.trans' (Out.of_below (Below.alloc' (Below.refl _ _) _)) hO fun b hb q=>q.elim .inl fun q=>q.elim .inr fun q=>absurd q (Nat.ne_of_lt hb)⟩
theorem asks_valid:Asks 93 #[] (fun _ x=>x) (fun _=>False) (fun _ _=>True) where
 keep:=fun _ _ _ _ _=>trivial
 set:=fun _ _ _ _ _ _ _=>trivial
 enters:=fun _ _=>rfl
 call:=fun xs x W _ _=>by
  show Calls Tryz.prog 93 #[.int .i64 x] W _
  go_enter Tryz.func93,Tryz.ntmps93
  go_wp2
  go_ret
  exact ⟨rfl,trivial,Out.refl _ _⟩
theorem wrongs_style (t:Re.St):(!wrongs fun i=>Re.num t i)=Re.valid t:=by
 rw [wrongs_valid _ t.b]
 have hb:∀ i,Re.isB i=true→Re.inn (Re.num t i) 0 1=true:=fun i hi=>by
  rw [Re.inn_iff];unfold Re.num;rw [if_pos hi];split <;> omega
 rw [hb 45 rfl,hb 47 rfl,hb 51 rfl,hb 52 rfl]
 simp only [Bool.and_true]
 exact Re.valid_same fun i hi=>by
  by_cases e:Re.isB i=true
  · rw [if_pos e]
  · rw [if_neg e];exact Re.num_c (by simpa using e)
theorem recvalid_any (t:Re.St) (w:World):Calls Tryz.prog 58 #[.agg (cells t)] w fun e w'=>e = .returned (.bool (Re.valid t))∧Below w.heap.size w w':=by
 generalize hr:Re.valid t=r
 rw [← wrongs_style] at hr
 go_enter Tryz.func58,Tryz.ntmps58
 go_wp2_with (go_at_call 92;(with_reducible refine (through_any asks_valid trivial (At.new _ _) (fun q=>q) (fun _ _ q=>q)).mono ?_);rintro e w2 ⟨rfl,_,_,hO⟩;rw [hr])
 go_ret
 exact ⟨rfl,(Below.alloc' (Below.refl _ _) _).trans (hO.below Z3t fun b hb q=>q.elim id (Nat.ne_of_lt hb))⟩
end Go.Proofs.YteggipnplbkijaaGreat.Fix
namespace Go.Proofs.YteggipnplbkijaaGreat.Fix
open Go.ChangeShapes Go.WideShapes Go.ChangeAt Go.RowKit Go.Shelf
theorem wpList_build {ops:Array Oper} {rest:List Oper} {o:Oper} {a:Act} {w:World} {Q:Exit→Act→World→Prop} (hw:Region.wanted o (yielded ops a.tmps)=true) (t:TypeId) (ps:Array (Nat × Operand)) (ho:o.op = .build t ps) {v:Value} (qs:Array (Nat × Value)) (hq:(ps.map fun p=>(p.1,a.eval p.2))=qs)
  (hrun:(Instr.build t qs).run Tryz.prog w = .ok v w) (h:wpList Tryz.prog ops Q rest (a.put o.dst v) w):wpList Tryz.prog ops Q (o :: rest) a w :=
 wpList_value hw (by unfold execOp;simp only [ho,hq,Sem.run_bind,hrun,Result.andThen_ok,Sem.run_pure]) h
def T0:Tr.T:=fun z=>if z=0 then some ⟨-1,[],Re.zero⟩ else none
theorem tnew_any (w:World):Calls Tryz.prog 28 #[] w fun e w'=>(∃ t,e = .returned (.pointer (some ⟨t,0,none⟩))∧∃ L,Rep w' t L T0 1∧∀ b,owned t L T0 b→w.heap.size≤b)∧Below w.heap.size w w':=by
 have hmm:=@run_makeMap Tryz.prog
 have p0:=(PM.made w).out (M:=fun _=>False) (fun q=>q) (Out.of_below (Below.alloc' (Below.refl _ _) (.cells (bcells (-1) (.slice none 0 0) Re.zero) 114)))
 have hb0:At ((w.alloc (.map #[] 0)).alloc (.cells (bcells (-1) (.slice none 0 0) Re.zero) 114)) (w.heap.size + 1) (.cells (bcells (-1) (.slice none 0 0) Re.zero) 114):=At.new' _ Z3t
 have hB0:Below w.heap.size w ((w.alloc (.map #[] 0)).alloc (.cells (bcells (-1) (.slice none 0 0) Re.zero) 114)):=Below.alloc' (Below.alloc' (Below.refl _ _) _) _
 obtain ⟨W2,hmu,p2,ho⟩:=p0.store (by simp [maxLen]) (z:=0) Z47 rfl (w.heap.size + 1)
 have hlm:=p0.lt
 have hA2:=hb0.out (M:=fun x=>x=w.heap.size) Z3t ho
 have hB2:Below w.heap.size w W2:=hB0.trans (ho.below Z3p fun b hb (q:b=_)=>by omega)
 have hs2:=ho.size
 simp only [World.size_alloc] at hs2
 have hB3:Below w.heap.size w (W2.alloc (.cells #[.map (some w.heap.size)] 118)):=Below.alloc' hB2 _
 have hR:Hid (Rep (W2.alloc (.cells #[.map (some w.heap.size)] 118)) W2.heap.size ⟨w.heap.size,fun _=>w.heap.size + 1,fun _ => .slice none 0 0⟩ T0 1∧∀ b,owned W2.heap.size ⟨w.heap.size,fun _=>w.heap.size + 1,fun _ => .slice none 0 0⟩ T0 b→w.heap.size≤b):=Lib.hid (by
  have live:∀ z,T0 z≠none→z=0:=fun z hz=>by
   unfold T0 at hz
   split at hz
   · assumption
   · exact absurd rfl hz
  have some_:∀ z nd,T0 z=some nd→z=0∧nd=⟨-1,[],Re.zero⟩:=fun z nd hz=>by
   unfold T0 at hz
   split at hz
   · injection hz with hz;exact ⟨by assumption,hz.symm⟩
   · cases hz
  refine ⟨⟨At.new _ _,(p2.out (M:=fun _=>False) (fun q=>q) (Out.of_below (Below.alloc' (Below.refl _ _) _))).congr fun z _ => ?_,fun z nd hz => ?_,fun z nd hz => ?_,fun y z hy hz _=>by rw [live y hy,live z hz],fun y z g hy hz h _=>(by cases h),fun z nd hz => ?_⟩,fun b hb => ?_⟩
  · unfold fset T0
    by_cases e:z=0 <;> simp [e]
  · obtain ⟨rfl,rfl⟩:=some_ z nd hz
    exact hA2.alloc _
  · obtain ⟨rfl,rfl⟩:=some_ z nd hz
    exact KS.nil _
  · obtain ⟨rfl,rfl⟩:=some_ z nd hz
    simp
  · rcases hb with rfl | rfl | ⟨z,nd,hz,rfl | hb⟩
    · omega
    · exact Nat.le_refl _
    · simp
    · cases hb)
 clear p0 hb0 hB0 p2 ho hlm hA2 hB2 hs2
 go_enter Tryz.func28,Tryz.ntmps28
 go_wp2_with (first | (refine wpList_build Z3n 114 _ rfl #[(0,.int .i64 (-1))] Z4b (build_box_up _ _) ?_) | (refine wpList_build Z3n 118 _ rfl #[(0,.map (some w.heap.size))] Z4b (build_tree _ _) ?_))
 go_ret
 exact ⟨⟨_,rfl,_,hR.out.1,hR.out.2⟩,hB3⟩
theorem store_box {W:World} {b:Nat} {u:Int} {v:Value} {s:Re.St} (h:At W b (.cells (bcells u v s) 114)) (t:Re.St):(Instr.storeAt 37 (.pointer (some ⟨b,2,none⟩)) (.agg (cells t))).run Tryz.prog W = .ok () (W.setRow b (bcells u v t)):=by
 have hz:(sizeOf 37).run Tryz.prog W = .ok 55 W:=by kernel_rfl
 have hst:=run_storeCells_at Tryz.prog b 2 114 (cells t).toList 0 (bcells u v s) W h (by rw [bcells_size,Array.length_toList,cells_size];omega) (fun x hx=>by
  have:=Array.all_eq_true_iff_forall_mem.1 (cells_one t) x (by simpa using hx);exact this)
 have e:((bcells u v s).toList.take (2 + 0) ++ (cells t).toList ++ (bcells u v s).toList.drop (2 + 0 + (cells t).toList.length)).toArray=bcells u v t:=by
  apply Array.ext'
  rw [Array.length_toList,cells_size]
  have h1:(bcells u v s).toList.drop (2 + 0 + 55)=[]:=List.drop_of_length_le (by rw [Array.length_toList,bcells_size];omega)
  rw [h1]
  simp [bcells]
 rw [e] at hst
 have hc:(Value.agg (cells t)).cells=cells t:=rfl
 simp only [Instr.storeAt,Instr.sureAddr,storeVar,Sem.run_bind,Sem.run_pure,Result.andThen_ok,hz,hc,cells_size,ne_eq,not_true_eq_false,if_false,hst]
theorem exec_store {w w':World} {o:Oper} {a:Act} {t:TypeId} (x y:Operand) (ho:o.op = .store t x y) {p v:Value} (hx:a.eval x=p) (hy:a.eval y=v) (hrun:(Instr.storeAt t p v).run Tryz.prog w = .ok () w'):(execOp a.eval o).run Tryz.prog w = .ok .skip w':=by
 unfold execOp
 simp only [ho,hx,hy,Sem.run_bind,hrun,Result.andThen_ok,Sem.run_pure]
theorem reads_load_style {ops:Array Oper} {S:World→Prop} {o:Oper} {a:Act} (hw:Region.wanted o (yielded ops a.tmps)=true) (x:Operand) (ho:o.op = .load 37 x) {b:Nat} (hx:a.eval x = .pointer (some ⟨b,0,none⟩)) {s:Re.St} (hs:∀ w,S w→At w b (.cells (cells s) 37)):Drawn.Reads Tryz.prog ops S o (.agg (cells s)) a :=
 .inl ⟨hw,fun w h=>by unfold execOp;simp only [ho,hx,Sem.run_bind,load_style (hs w h),Result.andThen_ok,Sem.run_pure]⟩
def setE (T:Tr.T) (z:Int) (s:Re.St):Int:=if (T z).isSome=false then 2 else if Re.valid s=false then 1 else 0
def setT (T:Tr.T) (z:Int) (s:Re.St):Tr.T:=if setE T z s=0 then Tr.styT T z s else T
set_option maxHeartbeats 4000000 in
theorem tset_any {w:World} {t n:Nat} {L:Lay} {T:Tr.T} (h:Rep w t L T n) {z:Int} (hz:Wf z) (s:Re.St):Calls Tryz.prog 27 #[.pointer (some ⟨t,0,none⟩),.int .i64 z,.agg (cells s)] w fun e w'=>e = .returned (.int .i64 (setE T z s))∧Rep w' t L (setT T z s) n∧Grow t L L T (setT T z s) w w':=by
 have hB:Below w.heap.size w (w.alloc (.cells (cells s) 37)):=Below.alloc' (Below.refl _ _) _
 have h1:=h.after hB
 have hA:At (w.alloc (.cells (cells s) 37)) w.heap.size (.cells (cells s) 37):=At.new _ _
 generalize hW:w.alloc (.cells (cells s) 37)=w1 at *
 have key:=thas_any h1 hz
 cases hT:T z with
 | none =>
   have hE:setE T z s=2:=by unfold setE;rw [hT];rfl
   have hS:setT T z s=T:=by unfold setT;rw [hE];rfl
   rw [hT] at key
   rw [hE,hS]
   have HR:=Lib.hid h1
   have HB:=Lib.hid hB
   clear h h1 hB hE hS
   go_enter Tryz.func27,Tryz.ntmps27
   go_wp2_with (go_at_call 33;(with_reducible refine key.mono ?_);rintro e w' ⟨rfl,rfl⟩)
   go_ret
   exact ⟨rfl,HR.out,Grow.of_below HB.out⟩
 | some nd =>
   rw [hT] at key
   have key2:=recvalid_any s w1
   cases hv:Re.valid s with
   | false =>
     have hE:setE T z s=1:=by unfold setE;rw [hT,hv];rfl
     have hS:setT T z s=T:=by unfold setT;rw [hE];rfl
     rw [hv] at key2
     rw [hE,hS]
     have HR:=Lib.hid h1
     have HB:=Lib.hid hB
     clear h h1 hB hE hS
     go_enter Tryz.func27,Tryz.ntmps27
     go_wp2_with (first | (refine wpList_load_style Z3n _ rfl rfl hA ?_) | (go_at_call 33;(with_reducible refine key.mono ?_);rintro e w' ⟨rfl,rfl⟩) | (go_at_call 58;(with_reducible refine key2.mono ?_);rintro e w2 ⟨rfl,hb2⟩))
     go_ret
     exact ⟨rfl,HR.out.after hb2,Grow.of_below (HB.out.trans (hb2.mono HB.out.size))⟩
   | true =>
     have hE:setE T z s=0:=by unfold setE;rw [hT,hv];rfl
     have hS:setT T z s=Tr.set T z { nd with sty:=s }:=by unfold setT Tr.styT;rw [hE,hT];rfl
     rw [hv] at key2
     rw [hE,hS]
     have HR:=Lib.hid h1
     have HB:=Lib.hid hB
     have HA:=Lib.hid hA
     clear h h1 hB hE hS
     go_enter Tryz.func27,Tryz.ntmps27
     go_upto_region 5 with (first | (refine wpList_load_style Z3n _ rfl rfl hA ?_) | (go_at_call 33;(with_reducible refine key.mono ?_);rintro e w' ⟨rfl,rfl⟩) | (go_at_call 58;(with_reducible refine key2.mono ?_);rintro e w2 ⟨rfl,hb2⟩))
     have hR2:=(HR.out.after hb2).after (Below.refl _ w2).drew
     have hA2:At w2.drew w.heap.size (.cells (cells s) 37):=(hA.keep hb2).drew
     have hO2:Below w.heap.size w w2.drew:=(HB.out.trans (hb2.mono HB.out.size)).drew
     have hne:L.bl z≠w.heap.size:=fun e=>by have:=(hR2.box z nd hT).uniq (e ▸ hA2);injection this with _ e2;exact absurd e2 Z3i
     obtain ⟨hR3,hG3⟩:=hR2.setSty (s:=s) hT
     have hst:=store_box (hR2.box z nd hT) s
     have hA3:=hA2.offRow hne.symm (bcells nd.up (L.sl z) s)
     generalize hW2:w2.drew=W2 at *
     have hS0:W2.cell? ⟨t,0,none⟩=some (.map (some L.mb))∧(Instr.lookup 116 (.map (some L.mb)) (.int .i64 z) false).run Tryz.prog W2 = .ok (.pointer (some ⟨L.bl z,0,none⟩)) W2∧At W2 w.heap.size (.cells (cells s) 37):=⟨hR2.cT,hR2.look_some hT,hA2⟩
     have hS3:=Lib.hid (show _∧_∧At (W2.setRow (L.bl z) (bcells nd.up (L.sl z) s)) w.heap.size (.cells (cells s) 37) from ⟨hR3.cT,hR3.look_some (Tr.set_same _ _ _),hA3⟩)
     have HST:=Lib.hid hst
     have HR3:=Lib.hid hR3
     have HG3:=Lib.hid ((Grow.of_below hO2).trans hG3)
     clear hR2 hA2 hO2 hR3 hG3 hst hA3 HR HB hA hb2
     generalize W2.setRow (L.bl z) (bcells nd.up (L.sl z) s)=W3 at *
     refine Drawn.wp_region_gen (S:=(fun W'=>W'.cell? ⟨t,0,none⟩=some (.map (some L.mb))∧(Instr.lookup 116 (.map (some L.mb)) (.int .i64 z) false).run Tryz.prog W' = .ok (.pointer (some ⟨L.bl z,0,none⟩)) W'∧At W' w.heap.size (.cells (cells s) 37))) 10 Z3q ?_ ?_
     · rw [hW2];exact hS0
     intro hS1
     rw [hW2]
     clear hS1 hW2
     refine tkC 0 ?_
     refine tkC 1 ?_
     refine tkC 2 ?_
     refine tkC 3 ?_
     refine tkC 4 ?_
     refine tkR 5 rfl (reads_lookup Z3n rfl rfl rfl (fun W h=>h.2.1)) ?_
     refine tkR 6 rfl (reads_load_style Z3n (.tmp 5) rfl rfl (fun W h=>h.2.2)) ?_
     refine tkC 7 ?_
     refine tkC 8 ?_
     refine tk1 9 ?_
     refine Drawn.Step.skip (exec_store (.tmp 24) (.tmp 22) rfl rfl rfl HST.out) ?_
     refine ⟨fun _=>hS3.out,?_⟩
     (try simp only [tkp,tka,tkz,tks])
     refine tkE ?_
     go_wp2
     go_ret
     exact ⟨rfl,HR3.out,HG3.out⟩
theorem tenter_any {w:World} {t n:Nat} {L:Lay} {T:Tr.T} (h:Rep w t L T n) {x u:Int} {nd p:Tr.Nd} (hx:T x=some nd) (hu:T u=some p) (hne:u≠x) {i:Nat} (hi:i≤p.kids.length) (hl:p.kids.length + 1≤4096) :
  Calls Tryz.prog 57 #[.pointer (some ⟨t,0,none⟩),.int .i64 x,.int .i64 u,.int .i64 (i:Int)] w fun e w'=>(∃ v,e = .returned v)∧∃ L',Rep w' t L' (Tr.enter T x u i) n∧Grow t L L' T (Tr.enter T x u i) w w':=by
 have hent:Tr.enter T x u i=Tr.set (Tr.set T u { p with kids:=Tr.wi p.kids i x }) x { nd with up:=u }:=by unfold Tr.enter;rw [hx,hu]
 rw [hent]
 have hlw:(Tr.wi p.kids i x).length≤4096:=by simp only [Tr.wi,List.length_append,List.length_take,List.length_cons,List.length_drop];omega
 have hur:=h.small u p hu
 have hl1:=h.look_some hu
 have c0:=h.cT
 have c1:=h.cKids hu
 have hB:Below w.heap.size w (w.alloc (.cells #[.int .i64 x] 3)):=Below.alloc' (Below.refl _ _) _
 have h1:=h.after hB
 have hA:At (w.alloc (.cells #[.int .i64 x] 3)) w.heap.size (.cells #[.int .i64 x] 3):=At.new _ _
 have hvb:(L.sl u).ownBlock≠some w.heap.size:=fun e=>by have:=h.lt (.inr (.inr ⟨u,p,hu,.inr e⟩));omega
 have key2:=insert_any (h1.row u p hu) hi Z3f hA hvb
 have HR1:=Lib.hid h1
 have HB:=Lib.hid hB
 have HU:=Lib.hid hu
 have HX:=Lib.hid hx
 have HLW:=Lib.hid hlw
 have HUR:=Lib.hid hur
 have HNE:=Lib.hid hne
 clear h h1 hB hu hx hlw hur hA hvb hi hl hent hne
 go_enter Tryz.func57,Tryz.ntmps57
 go_upto_region 2 with (first | (go_at_call 91;(with_reducible refine key2.mono ?_);rintro e w2 ⟨v2,rfl,hks,hO,hloc⟩;obtain ⟨A,c,hs,_⟩:=hks.ints;subst hs;generalize hm:(Tr.wi p.kids i x).length=m at *; have HM:=Lib.hid hm;have HKS:=Lib.hid hks;have HO:=Lib.hid hO;have HLOC:=Lib.hid hloc;clear hm hks hO hloc;have b2:=((HR1.out.box u p HU.out).out (HR1.out.sl_bl HU.out HU.out) HO.out).thaw 1;have c2:w2.cell? ⟨L.bl u,1,none⟩=some (L.sl u):=(by rw [((HR1.out.box u p HU.out).out (HR1.out.sl_bl HU.out HU.out) HO.out).cell,bcells_kids])))
 obtain ⟨r2,g2⟩:=HR1.out.setKids HU.out HO.out HKS.out (HLOC.out.elim .inl fun e => .inr (.inr ⟨_,e,Nat.le_refl _⟩)) (by rw [HM.out];exact HLW.out)
 have hx2:Tr.set T u { p with kids:=Tr.wi p.kids i x } x=some nd:=by rw [Tr.set_other _ _ (fun e=>HNE.out e.symm)];exact HX.out
 have l2:=r2.look_some hx2
 have t2:=r2.cT
 have u2:=r2.cUp hx2
 have z2:=(r2.box x nd hx2).thaw 0
 obtain ⟨r3,g3⟩:=r2.setUp (u:=u) hx2 (by have:=HUR.out;omega)
 have R3:=Lib.hid (show ∃ L',Rep ((w2.setCell ⟨L.bl u,1,none⟩ (.slice A m c)).setCell ⟨L.bl x,0,none⟩ (.int .i64 u)) t L' _ n∧Grow t L L' T _ w ((w2.setCell ⟨L.bl u,1,none⟩ (.slice A m c)).setCell ⟨L.bl x,0,none⟩ (.int .i64 u)) from ⟨_,r3,(Grow.of_below HB.out).trans (g2.trans g3)⟩)
 clear r2 g2 hx2 r3 g3 HM HLW HLOC HO HKS HB HR1 HU HX HUR HNE b2 c2 c0 c1 hl1 key2
 dsimp only at l2 t2 u2 z2
 generalize w2.setCell ⟨L.bl u,1,none⟩ (.slice A m c)=w3 at *
 go_wp2
 refine bodyPost_end (results_none rfl _ _ _) rfl ?_
 exact ⟨⟨_,rfl⟩,R3.out⟩
structure Inv (W:World) (t:Nat) (L:Lay) (T:Tr.T) (n:Nat):Prop where
 rep:Rep W t L T n
 wf:Tr.WF T
 num:(Tr.ord T).length=n
set_option maxHeartbeats 4000000 in
theorem tadd_any {w:World} {t n:Nat} {L:Lay} {T:Tr.T} (h:Inv w t L T n) (hn:n<4096) {u a:Int} (hu:Wf u):Calls Tryz.prog 26 #[.pointer (some ⟨t,0,none⟩),.int .i64 u,.int .i64 a] w fun e w'=>e = .returned (.tuple #[.int .i64 (Tr.addI T u a),.int .i64 (Tr.addE T u a)])∧∃ L' n',Inv w' t L' (Tr.addR T u a) n'∧n'≤n + 1∧Grow t L L' T (Tr.addR T u a) w w':=by
 obtain ⟨h,HW,hnum⟩:=h
 have HWR:=HW.addR u a Z3f
 have key:=thas_any h hu
 cases hT:T u with
 | none =>
   have hE:Tr.addE T u a=2:=by unfold Tr.addE;rw [hT]
   have hI:Tr.addI T u a = -1:=by unfold Tr.addI;rw [hE];rfl
   have hR:Tr.addR T u a=T:=by unfold Tr.addR;rw [hE];rfl
   rw [hE,hI,hR]
   rw [hT] at key
   have HR:=Lib.hid (Inv.mk h HW hnum)
   clear h HW hnum HWR hE hI hR
   exact Z1w
 | some p =>
   rw [hT] at key
   have hl:=h.look_some hT
   have c0:=h.cT
   have c1:=h.cKids hT
   have hs:=(h.small u p hT).2.2.2.2
   obtain ⟨A,c,hv,_⟩:=(h.row u p hT).ints
   by_cases hr:a<0∨(p.kids.length:Int)<a
   · have hE:Tr.addE T u a=1:=by unfold Tr.addE;rw [hT];dsimp only;rw [if_pos hr]
     have hI:Tr.addI T u a = -1:=by unfold Tr.addI;rw [hE];rfl
     have hR:Tr.addR T u a=T:=by unfold Tr.addR;rw [hE];rfl
     rw [hE,hI,hR]
     have HR:=Lib.hid (Inv.mk h HW hnum)
     rw [hv] at c1
     clear h HW hnum HWR hE hI hR hv
     generalize p.kids.length=m at *
     rcases hr with hr | hr
     · exact Z1w
     · have hr0:¬ a<0:=by omega
       exact Z1w
   · have hr0:¬ a<0:=fun e=>hr (.inl e)
     have hr1:¬ (p.kids.length:Int)<a:=fun e=>hr (.inr e)
     have keyL:=tlen_any h
     obtain ⟨d,hd1,hd2,hd3⟩:=HW.dep_some hT
     have keyD:=tdepth_some h (fun _ h=>HW.root_up h) hd2 Z3f
     have hnn:¬ (4096:Int)≤(n:Int):=by omega
     by_cases hdd:63≤d
     · have hdd2:(63:Int)≤(d:Int):=by omega
       have hE:Tr.addE T u a=5:=by unfold Tr.addE;rw [hT];dsimp only;rw [if_neg hr,hd3,if_pos hdd2]
       have hI:Tr.addI T u a = -1:=by unfold Tr.addI;rw [hE];rfl
       have hR:Tr.addR T u a=T:=by unfold Tr.addR;rw [hE];rfl
       rw [hE,hI,hR]
       have HR:=Lib.hid (Inv.mk h HW hnum)
       rw [hv] at c1
       clear h HW hnum HWR hE hI hR hv hd2 hd3 hr
       generalize p.kids.length=m at *
       go_enter Tryz.func26,Tryz.ntmps26
       go_wp2_with (first | (go_at_call 33;(with_reducible refine key.mono ?_);rintro e w' ⟨rfl,rfl⟩) | (go_at_call 55;(with_reducible refine keyL.mono ?_);rintro e w' ⟨rfl,rfl⟩) | (go_at_call 34;(with_reducible refine keyD.mono ?_);rintro e w' ⟨rfl,rfl⟩))
       go_ret2
       exact ⟨rfl,L,n,HR.out,by omega,Grow.refl _ _ _ _⟩
     · have hdd2:¬ (63:Int)≤(d:Int):=by omega
       have hE:Tr.addE T u a=0:=by unfold Tr.addE;rw [hT];dsimp only;rw [if_neg hr,hd3,if_neg hdd2]
       have hI:Tr.addI T u a=Tr.free T:=by unfold Tr.addI;rw [hE];rfl
       have hR:Tr.addR T u a=Tr.addT T (Tr.free T) u a.toNat:=by unfold Tr.addR;rw [hE];rfl
       rw [hE,hR,if_pos rfl] at HWR
       rw [hE,hI,hR]
       obtain ⟨hfree,hfl⟩:=HW.free_is
       have keyF:=tfree_any h
       have hB:Below w.heap.size w (w.alloc (.cells (bcells 0 (.slice none 0 0) Re.zero) 114)):=Below.alloc' (Below.refl _ _) _
       have h1:=h.after hB
       have hA:At (w.alloc (.cells (bcells 0 (.slice none 0 0) Re.zero) 114)) w.heap.size (.cells (bcells 0 (.slice none 0 0) Re.zero) 114):=At.new _ _
       have hfw:Wf (Tr.free T):=by rw [wf_iff];have:=hfree.1;omega
       obtain ⟨W2,hmu,p2,ho⟩:=h1.map.store (by simp [maxLen];omega) (z:=Tr.free T) hfw (by rw [hfree.2.1];rfl) w.heap.size
       have hnw:¬ owned t L T w.heap.size:=fun e=>absurd (h.lt e) Z3f
       obtain ⟨r2,o2,g2⟩:=h1.add hfree.2.1 ⟨hfree.1,by omega⟩ Z3f hA hnw ho p2
       have hne:u≠Tr.free T:=fun e=>by rw [e,hfree.2.1] at hT;cases hT
       have G2:Grow t L _ T _ w W2:=⟨((Out.of_below hB).trans ⟨o2.1,o2.2⟩),fun b hb=>(g2 b hb).imp id fun e=>by omega⟩
       have hkl:=HW.kids_le hT
       have keyE:=tenter_any r2 (Tr.set_same _ _ _) ((Tr.set_other _ _ hne).trans hT) hne (i:=a.toNat) Z3f Z3f
       rw [Int.toNat_of_nonneg Z3f] at keyE
       have HG2:=Lib.hid G2
       have HI:=Lib.hid HWR
       have HN:=Lib.hid hnum
       have HF:=Lib.hid hfree
       rw [hv] at c1
       clear h HW hnum HWR hE hI hR hv hd2 hd3 hr hfree hfl hB h1 hA p2 ho hnw r2 o2 g2 G2 hT hkl
       unfold Tr.addT
       generalize p.kids.length=m at *
       generalize Tr.free T=z at *
       go_enter Tryz.func26,Tryz.ntmps26
       go_wp2_with (first | (go_at_call 33;(with_reducible refine key.mono ?_);rintro e w' ⟨rfl,rfl⟩) | (go_at_call 55;(with_reducible refine keyL.mono ?_);rintro e w' ⟨rfl,rfl⟩) | (go_at_call 34;(with_reducible refine keyD.mono ?_);rintro e w' ⟨rfl,rfl⟩) | (go_at_call 56;(with_reducible refine keyF.mono ?_);rintro e w' ⟨⟨y,rfl,hy⟩,rfl⟩;obtain rfl:y=z:=(Tr.free_eq hy).symm.trans (Tr.free_eq HF.out)) | (refine wpList_build Z3n 114 _ rfl #[] Z3t (build_box_zero _) ?_) | (go_at_call 57;(with_reducible refine keyE.mono ?_);rintro e w' ⟨⟨v,rfl⟩,L',hr',hg'⟩))
       go_ret2
       exact ⟨rfl,L',n + 1,⟨hr',HI.out.1,by rw [← HN.out];exact HI.out.2⟩,Nat.le_refl _,HG2.out.trans hg'⟩
section
variable {T:Tr.T} (H:Tr.WF T) {x u:Int} {nd p:Tr.Nd} (hx:T x=some nd) (h0:x≠0) (hu:T u=some p) (hun:u ∉ Tr.sub T 64 x)
include H hx h0 hu hun
end
structure Kept (W:World) (t:Nat) (L:Lay) (T:Tr.T) (v:Value) (l:List Int):Prop where
 row:KS W v l
 own:∀ g,v.ownBlock=some g→¬ owned t L T g
theorem Kept.after {W W':World} {t:Nat} {L:Lay} {T:Tr.T} {v:Value} {l:List Int} (h:Kept W t L T v l) (hb:Below W.heap.size W W'):Kept W' t L T v l:=⟨h.row.after hb,h.own⟩
theorem Kept.new {W W':World} {t n base:Nat} {L:Lay} {T:Tr.T} {v:Value} {l:List Int} (hR:Rep W t L T n) (h:W'.ownsRow base 3 1 v l.length (l.map (Value.int .i64))) (hb:W.heap.size≤base):Kept W' t L T v l :=
 ⟨rowBase h (Nat.zero_le _),fun g hg ho=>by have h1:=(World.ownsRow.lt h g hg).1;have h2:=hR.lt ho;omega⟩
def ownedP (L:Lay) (T:Tr.T) (b:Nat):Prop:=b=L.mb∨∃ z nd,T z=some nd∧(b=L.bl z∨(L.sl z).ownBlock=some b)
structure Par (W:World) (L:Lay) (T:Tr.T) (n0 m:Nat):Prop where
 map:PM W L.mb m (fun z=>(T z).map fun _=>L.bl z)
 box:∀ z nd,T z=some nd→At W (L.bl z) (.cells (bcells nd.up (L.sl z) nd.sty) 114)
 row:∀ z nd,T z=some nd→KS W (L.sl z) nd.kids
 inj:∀ y z,T y≠none→T z≠none→L.bl y=L.bl z→y=z
 apart:∀ y z g,T y≠none→T z≠none→(L.sl y).ownBlock=some g→(L.sl z).ownBlock=some g→y=z
 new:∀ b,ownedP L T b→n0≤b
section
variable {W W':World} {L:Lay} {T:Tr.T} {n0 m:Nat}
theorem Par.out {M:Nat→Prop} (h:Par W L T n0 m) (hm:∀ b,ownedP L T b→¬ M b) (k:Out M W W'):Par W' L T n0 m where
 map:=h.map.out (hm _ (.inl rfl)) k
 box:=fun z nd hz=>(h.box z nd hz).out (hm _ (.inr ⟨z,nd,hz,.inl rfl⟩)) k
 row:=fun z nd hz=>(h.row z nd hz).out (fun g hg=>hm _ (.inr ⟨z,nd,hz,.inr hg⟩)) k
 inj:=h.inj
 apart:=h.apart
 new:=h.new
theorem Par.after (h:Par W L T n0 m) (hb:Below W.heap.size W W'):Par W' L T n0 m:=h.out (M:=fun _=>False) (fun _ _ q=>q) (Out.of_below hb)
theorem Par.lt (h:Par W L T n0 m) {b:Nat} (hb:ownedP L T b):b<W.heap.size:=by
 rcases hb with rfl | ⟨z,nd,hz,rfl | hg⟩
 · exact h.map.lt
 · exact (h.box z nd hz).lt
 · exact (h.row z nd hz).lt hg
theorem Par.bl_mb (h:Par W L T n0 m) {z:Int} {nd:Tr.Nd} (hz:T z=some nd):L.bl z≠L.mb:=fun e=>by
 obtain ⟨es,clock,hm⟩:=h.map.obj
 have:=(h.box z nd hz).uniq (e ▸ hm)
 cases this
theorem Par.sl_mb (h:Par W L T n0 m) {z:Int} {nd:Tr.Nd} (hz:T z=some nd):(L.sl z).ownBlock≠some L.mb:=fun e=>by
 obtain ⟨es,clock,hm⟩:=h.map.obj
 obtain ⟨cur,hc⟩:=(h.row z nd hz).rowAt e
 have:=hc.uniq hm
 cases this
theorem Par.add (h:Par W L T n0 m) {z:Int} {b:Nat} {u:Int} {v:Value} {l:List Int} {s:Re.St} (hz:T z=none) (hb:At W b (.cells (bcells u v s) 114)) (hv:KS W v l)
  (hb0:n0≤b) (hv0:∀ g,v.ownBlock=some g→n0≤g) (hnew:¬ ownedP L T b) (hvnew:∀ g,v.ownBlock=some g→¬ ownedP L T g) (hO:Out (fun x=>x=L.mb) W W') (hm:PM W' L.mb (m + 1) (fset (fun z=>(T z).map fun _=>L.bl z) z b)) :
  Par W' { L with bl:=fun y=>if y=z then b else L.bl y,sl:=fun y=>if y=z then v else L.sl y } (Tr.set T z ⟨u,l,s⟩) n0 (m + 1):=by
 have hne:∀ y yd,T y=some yd→y≠z:=fun y yd hy e=>by rw [e,hz] at hy;cases hy
 have hbm:b≠L.mb:=fun e=>hnew (.inl e)
 have old:∀ y,y≠z→(Tr.set T z ⟨u,l,s⟩ y≠none→T y≠none):=fun y e=>by rw [Tr.set_other _ _ e];exact id
 refine ⟨hm.congr fun y _ => ?_,fun y yd hy => ?_,fun y yd hy => ?_,fun x y hx hy => ?_,fun x y g hx hy => ?_,fun x hx => ?_⟩
 · unfold fset
   by_cases e:y=z
   · subst e;simp [Tr.set_same]
   · simp [e,Tr.set_other _ _ e]
 · exact Z2t
 · by_cases e:y=z
   · subst e;rw [Tr.set_same] at hy;cases hy
     simp only [if_true]
     exact hv.out (fun g hg (q:g=L.mb)=>hvnew g hg (.inl q)) hO
   · rw [Tr.set_other _ _ e] at hy
     simp only [if_neg e]
     exact (h.row y yd hy).out (fun g hg (q:g=L.mb)=>h.sl_mb hy (by rw [hg,q])) hO
 · by_cases ex:x=z <;> by_cases ey:y=z
   · intro _;rw [ex,ey]
   · simp only [if_pos ex,if_neg ey]
     obtain ⟨yd,hyd⟩:=Option.ne_none_iff_exists'.1 (old y ey hy)
     exact fun e=>(hnew (.inr ⟨y,yd,hyd,.inl e⟩)).elim
   · simp only [if_neg ex,if_pos ey]
     obtain ⟨xd,hxd⟩:=Option.ne_none_iff_exists'.1 (old x ex hx)
     exact fun e=>(hnew (.inr ⟨x,xd,hxd,.inl e.symm⟩)).elim
   · simp only [if_neg ex,if_neg ey]
     exact h.inj x y (old x ex hx) (old y ey hy)
 · by_cases ex:x=z <;> by_cases ey:y=z
   · intro _ _;rw [ex,ey]
   · simp only [if_pos ex,if_neg ey]
     obtain ⟨yd,hyd⟩:=Option.ne_none_iff_exists'.1 (old y ey hy)
     exact fun e1 e2=>(hvnew g e1 (.inr ⟨y,yd,hyd,.inr e2⟩)).elim
   · simp only [if_neg ex,if_pos ey]
     obtain ⟨xd,hxd⟩:=Option.ne_none_iff_exists'.1 (old x ex hx)
     exact fun e1 e2=>(hvnew g e2 (.inr ⟨x,xd,hxd,.inr e1⟩)).elim
   · simp only [if_neg ex,if_neg ey]
     exact h.apart x y g (old x ex hx) (old y ey hy)
 · rcases hx with e | ⟨y,yd,hy,e⟩
   · exact h.new x (.inl e)
   · by_cases e2:y=z
     · subst e2
       simp only [if_true] at e
       rcases e with rfl | e
       · exact hb0
       · exact hv0 x e
     · rw [Tr.set_other _ _ e2] at hy
       simp only [if_neg e2] at e
       exact h.new x (.inr ⟨y,yd,hy,e⟩)
end
theorem reads_load_sty {ops:Array Oper} {S:World→Prop} {o:Oper} {a:Act} (hw:Region.wanted o (yielded ops a.tmps)=true) (x:Operand) (ho:o.op = .load 37 x) {b k:Nat} (hx:a.eval x = .pointer (some ⟨b,k,none⟩)) {s:Re.St} (hs:∀ w,S w→StyAt w b k s):Drawn.Reads Tryz.prog ops S o (.agg (cells s)) a :=
 .inl ⟨hw,fun w h=>by unfold execOp;simp only [ho,hx,Sem.run_bind,load_sty (hs w h),Result.andThen_ok,Sem.run_pure]⟩
end Go.Proofs.YteggipnplbkijaaGreat.Fix
namespace Go.Proofs.YteggipnplbkijaaGreat.Fix
open Go.ChangeShapes Go.WideShapes Go.ChangeAt Go.RowKit
section
variable {W:World} {b:Nat} {s:Re.St} {fl ap:Value} {ib:Bool}
theorem At.bxi (h:BxAt W b s fl ap ib):b<W.heap.size∧W.cell? ⟨b,23,none⟩=some (.int .i64 (s.c 23))∧W.cell? ⟨b,24,none⟩=some (.int .i64 (s.c 24))∧W.cell? ⟨b,25,none⟩=some (.int .i64 (s.c 25))∧W.cell? ⟨b,26,none⟩=some (.int .i64 (s.c 26))∧W.cell? ⟨b,27,none⟩=some (.int .i64 (s.c 27))∧W.cell? ⟨b,28,none⟩=some (.int .i64 (s.c 28))∧W.cell? ⟨b,29,none⟩=some (.int .i64 (s.c 29))∧W.cell? ⟨b,30,none⟩=some (.int .i64 (s.c 30)) :=
 ⟨h.lt,h.int 23 Z3i rfl,h.int 24 Z3i rfl,h.int 25 Z3i rfl,h.int 26 Z3i rfl,h.int 27 Z3i rfl,h.int 28 Z3i rfl,h.int 29 Z3i rfl,h.int 30 Z3i rfl⟩
theorem BxAt.style (h:BxAt W b s fl ap ib):StyAt W b 0 s:=fun j hj=>by rw [Nat.zero_add];exact (At.cell h j).trans (bxc_sty _ _ _ _ hj)
theorem Below.cell_ {X Y:World} (h:Below X.heap.size X Y) {b:Nat} (hb:b<X.heap.size) (i:Nat):Y.cell? ⟨b,i,none⟩=X.cell? ⟨b,i,none⟩:=(bcell h).1 _ _ hb
end
set_option maxHeartbeats 4000000 in
theorem fbyc_any (b:Nat) (s:Re.St) (fl ap:Value) (ib:Bool) (r0 r1:Int) (w:World) (h:BxAt w b s fl ap ib):Calls Tryz.prog 111 #[.pointer (some ⟨b,0,none⟩),.agg #[.int .i64 r0,.int .i64 r1]] w fun e w'=>e = .returned (.int .i64 (Fw.byc s r0))∧Below w.heap.size w w':=by
 go_enter Tryz.func111,Tryz.ntmps111
 go_upto_region 1 with (fail)
 generalize hW:World.alloc _ _=W0
 have A0:At W0 w.heap.size (.cells #[.int .i64 r0,.int .i64 r1] 88):=hW ▸ At.new _ _
 have A2:BxAt W0 b s fl ap ib:=hW ▸ BxAt.alloc h _
 have hB:Below w.heap.size w W0:=hW ▸ Below.alloc' (Below.refl _ _) _
 clear hW h
 obtain ⟨l0,c0_0,c0_1⟩:=A0.two
 obtain ⟨l2,c2_0,c2_1,c2_2,c2_3,c2_4,c2_5,c2_6,c2_7⟩:=At.bx0 A2
 have d0:=A2.int 53 Z3i rfl
 refine sqt ?_
 (repeat (first | refine sqk ?_ | refine sqc ?_ (hc:=by intro w2 hS;first | with_reducible exact qaB hS (flim_any _ _ _ _ _ _ _ _ _) | with_reducible exact qaB hS (fall_any _ _ _)) | refine sqv ?_))
 exact Z3b
set_option maxHeartbeats 4000000 in
theorem finset00 (b:Nat) (s:Re.St) (fl ap:Value) (ib:Bool) (r0 r1:Int) (w:World) (h:BxAt w b s fl ap ib):Calls Tryz.prog 154 #[.pointer (some ⟨b,0,none⟩),.int .i64 0,.int .i64 0,.agg #[.int .i64 r0,.int .i64 r1]] w fun x w'=>x = .returned (.tuple #[.int .i64 (Fw.ins s 0 0 r0),.bool (Fw.inF s 0 0 r0)])∧Below w.heap.size w w':=by
 exact Z4
set_option maxHeartbeats 4000000 in
theorem finset01 (b:Nat) (s:Re.St) (fl ap:Value) (ib:Bool) (r0 r1:Int) (w:World) (h:BxAt w b s fl ap ib):Calls Tryz.prog 154 #[.pointer (some ⟨b,0,none⟩),.int .i64 0,.int .i64 1,.agg #[.int .i64 r0,.int .i64 r1]] w fun x w'=>x = .returned (.tuple #[.int .i64 (Fw.ins s 0 1 r0),.bool (Fw.inF s 0 1 r0)])∧Below w.heap.size w w':=by
 exact Z4
set_option maxHeartbeats 4000000 in
theorem finset10 (b:Nat) (s:Re.St) (fl ap:Value) (ib:Bool) (r0 r1:Int) (w:World) (h:BxAt w b s fl ap ib):Calls Tryz.prog 154 #[.pointer (some ⟨b,0,none⟩),.int .i64 1,.int .i64 0,.agg #[.int .i64 r0,.int .i64 r1]] w fun x w'=>x = .returned (.tuple #[.int .i64 (Fw.ins s 1 0 r1),.bool (Fw.inF s 1 0 r1)])∧Below w.heap.size w w':=by
 exact Z4
set_option maxHeartbeats 4000000 in
theorem finset11 (b:Nat) (s:Re.St) (fl ap:Value) (ib:Bool) (r0 r1:Int) (w:World) (h:BxAt w b s fl ap ib):Calls Tryz.prog 154 #[.pointer (some ⟨b,0,none⟩),.int .i64 1,.int .i64 1,.agg #[.int .i64 r0,.int .i64 r1]] w fun x w'=>x = .returned (.tuple #[.int .i64 (Fw.ins s 1 1 r1),.bool (Fw.inF s 1 1 r1)])∧Below w.heap.size w w':=by
 exact Z4
end Go.Proofs.YteggipnplbkijaaGreat.Fix
namespace Go.Proofs.YteggipnplbkijaaGreat.Fix
open Go.ChangeShapes Go.WideShapes Go.ChangeAt Go.RowKit Go.Shelf
attribute [local go_sem] Oper.semAt_some
def fld (s:Fe.St) (j:Nat):Value :=
 if j=0 then .int .i64 s.x.b else if j=1 then .int .i64 s.x.lo else if j=2 then .int .i64 s.x.hi else if j=3 then .int .i64 s.x.g else if j=4 then .int .i64 s.x.s
 else if j=5 then .int .i64 s.z else if j=6 then .int .i64 s.m else .bool s.f
def Blk (W:World) (I n:Nat) (S:Nat→Fe.St):Prop :=
 ∃ vs:Array Value,At W I (.cells vs 280)∧vs.size=n * 8∧∀ i j,i<n→j<8→vs[i * 8 + j]? = some (fld (S i) j)
theorem Blk.lt {W:World} {I n:Nat} {S:Nat→Fe.St} (h:Blk W I n S):I<W.heap.size:=by obtain ⟨_,h,_⟩:=h;exact h.lt
theorem Blk.cell {W:World} {I n:Nat} {S:Nat→Fe.St} (h:Blk W I n S) {i:Nat} (hi:i<n) (j:Nat) (hj:j<8):W.cell? ⟨I,i * 8 + j,none⟩=some (fld (S i) j):=by
 obtain ⟨vs,h,_,hc⟩:=h
 rw [h.cell];exact hc i j hi hj
theorem Blk.thaw {W:World} {I n:Nat} {S:Nat→Fe.St} (h:Blk W I n S) (k:Nat):W.frozen? ⟨I,k,none⟩=false:=by
 obtain ⟨vs,h,_⟩:=h
 exact h.thaw k
theorem Blk.keep {W W':World} {I n:Nat} {S:Nat→Fe.St} (h:Blk W I n S) (hb:Below W.heap.size W W'):Blk W' I n S:=by
 obtain ⟨vs,h,r⟩:=h
 exact ⟨vs,h.keep hb,r⟩
theorem Blk.alloc {W:World} {I n:Nat} {S:Nat→Fe.St} (h:Blk W I n S) (o:Obj):Blk (W.alloc o) I n S:=by
 obtain ⟨vs,h,r⟩:=h
 exact ⟨vs,h.alloc o,r⟩
theorem Blk.off {W:World} {I n b k:Nat} {S:Nat→Fe.St} (h:Blk W I n S) (hne:I≠b) (v:Value):Blk (W.setCell ⟨b,k,none⟩ v) I n S:=by
 obtain ⟨vs,h,r⟩:=h
 exact ⟨vs,h.off hne k v,r⟩
theorem Blk.same {W:World} {I n:Nat} {S T:Nat→Fe.St} (h:Blk W I n S) (hs:∀ i,i<n→S i=T i):Blk W I n T:=by
 obtain ⟨vs,h,hz,hc⟩:=h
 exact ⟨vs,h,hz,fun i j hi hj=>by rw [hc i j hi hj,hs i hi]⟩
theorem Blk.put {W:World} {I n:Nat} {S T:Nat→Fe.St} {i j:Nat} {v:Value} (h:Blk W I n S) (hi:i<n) (hj:j<8) (hv:fld (T i) j=v) (ho:∀ q,q<8→q≠j→fld (T i) q=fld (S i) q) (hs:∀ k,k<n→k≠i→T k=S k) :
  Blk (W.setCell ⟨I,i * 8 + j,none⟩ v) I n T:=by
 obtain ⟨vs,h,hz,hc⟩:=h
 refine ⟨_,h.set (i * 8 + j) v,by simpa using hz,fun k q hk hq => ?_⟩
 rw [Array.getElem?_setIfInBounds]
 by_cases e:i * 8 + j=k * 8 + q
 · obtain rfl:i=k:=by omega
   obtain rfl:j=q:=by omega
   rw [if_pos rfl,if_pos Z3f,hv]
 · rw [if_neg e,hc k q hk hq]
   by_cases hik:k=i
   · subst hik
     rw [ho q hq Z3f]
   · rw [hs k hk hik]
theorem Blk.turn {W:World} {I n r:Nat} {S:Nat→Fe.St} (h:Blk W I n S) (hne:I≠r) (o:Obj):Blk (W.putObj r o) I n S:=by
 obtain ⟨vs,h,r⟩:=h
 exact ⟨vs,(World.putObj_heap_other hne).trans h,r⟩
theorem At.turn {W:World} {b r:Nat} {x:Obj} (h:At W b x) (hne:b≠r) (o:Obj):At (W.putObj r o) b x:=(World.putObj_heap_other hne).trans h
def rowObj (I n:Nat) (room way:Int):Obj:= .cells #[.slice (some ⟨I,0,none⟩) n n,.int .i64 room,.int .i64 way] 278
def Sees (R I n:Nat) (room way:Int) (S:Nat→Fe.St) (i:Nat) (W:World):Prop :=
 At W R (rowObj I n room way)∧I<W.heap.size∧∀ k,i≤k→k<n→W.cell? ⟨I,k * 8 + 7,none⟩=some (.bool (S k).f)
set_option maxRecDepth 100000 in
set_option maxHeartbeats 4000000 in
theorem loose_in (n R I N:Nat) (room way:Int) (S:Nat→Fe.St) (hN:N≤64) (lp:Nat) (J:Nat→World→Prop) (Jx:World→Prop) (W:World)
  (hV:∀ i W,J i W→Sees R I N room way S i W) (hskip:∀ i W,i<N→(S i).f=true→J i W→J (i + 1) W)
  (hY:∀ i W,i<N→(S i).f=false→J i W→YieldAt Fence.wide (n - 1) Tryz.prog lp #[.int .i64 (Fe.pl S i:Nat),.pointer (some ⟨I,i * 8,none⟩)] W fun e W'=>(e = .returned (.bool true)∧J (i + 1) W')∨(e = .returned (.bool false)∧Jx W')) (h0:J 0 W) :
  CallsIn Fence.wide n Tryz.prog 220 (#[.pointer (some ⟨R,0,none⟩)] ++ #[.func (.yield lp) #[] #[]] ++ #[]) W fun e W'=>(∃ v,e = .returned v)∧(J N W'∨Jx W'):=by
 have HY:=Lib.hid hY
 have HV:=Lib.hid hV
 have HS:=Lib.hid hskip
 obtain ⟨a0,_,_⟩:=hV 0 W h0
 have l0:=a0.lt
 have c0:=a0.cell 0
 replace c0:W.cell? ⟨R,0,none⟩=some (.slice (some ⟨I,0,none⟩) N N):=c0
 have H0:=Lib.hid h0
 clear hY hV hskip a0 h0
 refine callsIn_of_wp Tryz.func220 rfl trivial ?_ rfl
 simp only [Tryz.ntmps220,List.size_toArray,List.length_cons,List.length_nil,Nat.reduceAdd,Nat.reduceSub,Array.replicate_succ,Array.replicate_zero,List.push_toArray,List.append_toArray,List.nil_append,List.cons_append]
 gi_wp2
 gi_loopw [4,12] (fun p i wr=>∃ k:Nat,k≤N∧i = .int .i64 k∧p = .int .i64 (Fe.pl S k:Nat)∧J k wr) (fun _ i _=>N - (intOf i).toNat)
 case atStart=>exact ⟨0,by omega,rfl,rfl,H0.out⟩
 case round =>
  obtain ⟨k,hk,rfl,rfl,hJ⟩:=hrel
  obtain ⟨a1,li,cs⟩:=HV.out k wr hJ
  have l1:=a1.lt
  have c1:=a1.cell 0
  replace c1:wr.cell? ⟨R,0,none⟩=some (.slice (some ⟨I,0,none⟩) N N):=c1
  by_cases hlt:k<N
  · have hltz:(k:Int)<(N:Int):=by omega
    have cf:=cs k (Nat.le_refl _) hlt
    have hpl:=Fe.pl_le S k
    cases hf:(S k).f with
    | true =>
      rw [hf] at cf
      have hJ2:=HS.out k wr hlt hf hJ
      have HP:Hid (Fe.pl S (k + 1)=Fe.pl S k):=Lib.hid (by simp [Fe.pl,hf])
      clear cs
      gi_wp2
      go_roundw
      case rel=>exact ⟨k + 1,by omega,by go_num,by rw [HP.out],hJ2⟩
      case measure=>simp [intOf];omega
    | false =>
      rw [hf] at cf
      have HP:Hid (Fe.pl S (k + 1)=Fe.pl S k + 1):=Lib.hid (by simp [Fe.pl,hf])
      obtain ⟨fn,tmps,assign,body,hy,hR⟩:=HY.out k wr hlt hf hJ
      clear cs
      gi_wp2
      refine ⟨fun hd=>(by simp [Fence.wide] at hd),hR.mono ?_⟩
      rintro e W3 (⟨rfl,hJ3⟩ | ⟨rfl,hJx3⟩)
      · gi_wp2
        go_roundw
        case rel=>exact ⟨k + 1,by omega,by go_num,by rw [HP.out];go_num,hJ3⟩
        case measure=>simp [intOf];omega
      · gi_wp2
        refine bodyPost_ret (results_none rfl _ _ _) rfl ?_
        exact ⟨⟨_,rfl⟩,.inr hJx3⟩
  · have hltz:¬ (k:Int)<(N:Int):=by omega
    obtain rfl:k=N:=by omega
    gi_wp2
    go_end0
    exact ⟨⟨_,rfl⟩,.inl hJ⟩
end Go.Proofs.YteggipnplbkijaaGreat.Fix
