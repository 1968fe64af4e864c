/- Boxes laid by the program: what its functions do, part 16. -/
import Derived.Test.YteggipnplbkijaaGreatWK
import Derived.Test.YteggipnplbkijaaGreatW14
import Derived.Test.YteggipnplbkijaaGreatW15
set_option linter.unusedVariables false
set_option linter.unusedSimpArgs false
set_option linter.unusedSectionVars false
set_option maxRecDepth 100000
namespace Go.Proofs.YteggipnplbkijaaGreat.Fix
open Go.ChangeShapes Go.WideShapes Go.ChangeAt Go.RowKit
theorem load_at {T:TypeId} {n:Nat} (hi:∀ W,(isAgg T).run Tryz.prog W = .ok true W) (hz:∀ W,(sizeOf T).run Tryz.prog W = .ok n W) {W:World} {R q:Nat} {vs:Array Value} (hs:vs.size=n) (h:∀ j,j<n→W.cell? ⟨R,q + j,none⟩=vs[j]?) :
  (Instr.loadAt T (.pointer (some ⟨R,q,none⟩))).run Tryz.prog W = .ok (.agg vs) W:=by
 have hl:=run_loadCells_list (P:=Tryz.prog) W ⟨R,q,none⟩ vs.toList (fun j v hj=>by
  have hj':j<n:=by have:=(List.getElem?_eq_some_iff.1 hj).1;simpa [hs] using this
  rw [addr_add,h j hj']
  rw [Array.getElem?_toList] at hj
  exact hj)
 rw [Array.length_toList,hs] at hl
 simp only [Instr.loadAt,Instr.sureAddr,loadVar,Sem.run_bind,Sem.run_pure,hi W,hz W,hl,Result.andThen_ok,if_true]
def splice (cs:Array Value) (q:Nat) (vs:Array Value):Array Value:=(cs.toList.take q ++ vs.toList ++ cs.toList.drop (q + vs.size)).toArray
theorem splice_size {cs vs:Array Value} {q:Nat} (h:q + vs.size≤cs.size):(splice cs q vs).size=cs.size:=by
 simp [splice];omega
theorem splice_in {cs vs:Array Value} {q j:Nat} (h:q + vs.size≤cs.size) (hj:j<vs.size):(splice cs q vs)[q + j]? = vs[j]? := by
 unfold splice
 rw [List.getElem?_toArray,List.append_assoc,List.getElem?_append_right Z3p,List.getElem?_append_left Z3p]
 have e:q + j - (cs.toList.take q).length=j:=by simp;omega
 rw [e,Array.getElem?_toList]
theorem splice_out {cs vs:Array Value} {q k:Nat} (h:q + vs.size≤cs.size) (hk:k<q∨q + vs.size≤k):(splice cs q vs)[k]? = cs[k]? := by
 unfold splice
 rw [List.getElem?_toArray]
 rcases hk with hk | hk
 · rw [List.append_assoc,List.getElem?_append_left Z3p,List.getElem?_take,if_pos hk,Array.getElem?_toList]
 · rw [List.getElem?_append_right Z3p,List.getElem?_drop,Array.getElem?_toList]
   congr 1
   simp
   omega
theorem store_at {T:TypeId} {n:Nat} (hz:∀ W,(sizeOf T).run Tryz.prog W = .ok n W) {W:World} {R q:Nat} {cs vs:Array Value} {T':TypeId} (hA:At W R (.cells cs T')) (hs:vs.size=n) (hf:q + n≤cs.size) (h1:∀ v ∈ vs.toList,v.oneCell'=true) :
  (Instr.storeAt T (.pointer (some ⟨R,q,none⟩)) (.agg vs)).run Tryz.prog W = .ok () (W.setRow R (splice cs q vs)):=by
 have hl:=run_storeCells_at (P:=Tryz.prog) R q T' vs.toList 0 cs W hA Z3p h1
 simp only [Nat.add_zero,Array.length_toList] at hl
 have hv:(storeVar T ⟨R,q,none⟩ (.agg vs)).run Tryz.prog W = .ok () (W.setRow R (splice cs q vs)):=by
  simp [storeVar,hz W,Value.cells,hs]
  simpa [splice,hs] using hl
 simp only [Instr.storeAt,Instr.sureAddr,Sem.run_bind,Sem.run_pure,Result.andThen_ok,hv]
section
variable {ops:Array Oper} {rest:List Oper} {o:Oper} {a:Act} {w w':World} {Q:Exit→Act→World→Prop}
theorem exec_load_at {T:TypeId} {n:Nat} (hi:∀ W,(isAgg T).run Tryz.prog W = .ok true W) (hz:∀ W,(sizeOf T).run Tryz.prog W = .ok n W) (p:Operand) (ho:o.op = .load T p) {R q:Nat} (hp:a.eval p = .pointer (some ⟨R,q,none⟩)) {vs:Array Value} (hs:vs.size=n) (h:∀ j,j<n→w.cell? ⟨R,q + j,none⟩=vs[j]?):(execOp a.eval o).run Tryz.prog w = .ok (.value (.agg vs)) w:=by
 unfold execOp;simp only [ho,hp,Sem.run_bind,load_at hi hz hs h,Result.andThen_ok,Sem.run_pure]
theorem exec_store_at {T:TypeId} {n:Nat} (hz:∀ W,(sizeOf T).run Tryz.prog W = .ok n W) (p x:Operand) (ho:o.op = .store T p x) {R q:Nat} (hp:a.eval p = .pointer (some ⟨R,q,none⟩)) {cs vs:Array Value} {T':TypeId} (hx:a.eval x = .agg vs) (hA:At w R (.cells cs T')) (hs:vs.size=n) (hf:q + n≤cs.size) (h1:∀ v ∈ vs.toList,v.oneCell'=true):(execOp a.eval o).run Tryz.prog w = .ok .skip (w.setRow R (splice cs q vs)):=by
 unfold execOp;simp only [ho,hp,hx,Sem.run_bind,store_at hz hA hs hf h1,Result.andThen_ok,Sem.run_pure]
theorem wpList_load_at {T:TypeId} {n:Nat} (hi:∀ W,(isAgg T).run Tryz.prog W = .ok true W) (hz:∀ W,(sizeOf T).run Tryz.prog W = .ok n W) (hw:Region.wanted o (yielded ops a.tmps)=true) (p:Operand) (ho:o.op = .load T p) {R q:Nat} (hp:a.eval p = .pointer (some ⟨R,q,none⟩)) {vs:Array Value} (hs:vs.size=n) (h:∀ j,j<n→w.cell? ⟨R,q + j,none⟩=vs[j]?)
 (hk:wpList Tryz.prog ops Q rest (a.put o.dst (.agg vs)) w):wpList Tryz.prog ops Q (o :: rest) a w:=wpList_value hw (exec_load_at hi hz p ho hp hs h) hk
theorem wpList_store_at {T:TypeId} {n:Nat} (hz:∀ W,(sizeOf T).run Tryz.prog W = .ok n W) (hw:Region.wanted o (yielded ops a.tmps)=true) (p x:Operand) (ho:o.op = .store T p x) {R q:Nat} (hp:a.eval p = .pointer (some ⟨R,q,none⟩)) {cs vs:Array Value} {T':TypeId} (hx:a.eval x = .agg vs) (hA:At w R (.cells cs T')) (hs:vs.size=n) (hf:q + n≤cs.size) (h1:∀ v ∈ vs.toList,v.oneCell'=true)
 (hk:wpList Tryz.prog ops Q rest (a.put o.dst undef) (w.setRow R (splice cs q vs))):wpList Tryz.prog ops Q (o :: rest) a w:=wpList_none hw (exec_store_at hz p x ho hp hx hA hs hf h1) hk
end
theorem agg_im (W:World):(isAgg 203).run Tryz.prog W = .ok true W:=by kernel_rfl
theorem siz_im (W:World):(sizeOf 203).run Tryz.prog W = .ok 17 W:=by kernel_rfl
theorem agg_ld (W:World):(isAgg 94).run Tryz.prog W = .ok true W:=by kernel_rfl
theorem siz_ld (W:World):(sizeOf 94).run Tryz.prog W = .ok 7 W:=by kernel_rfl
theorem agg_fi (W:World):(isAgg 201).run Tryz.prog W = .ok true W:=by kernel_rfl
theorem siz_fi (W:World):(sizeOf 201).run Tryz.prog W = .ok 5 W:=by kernel_rfl
theorem siz_sz (W:World):(sizeOf 88).run Tryz.prog W = .ok 2 W:=by kernel_rfl
theorem imc_size (x:Im):(imc x).size=17:=rfl
theorem ldc_size (x:Fw.Ld):(ldc x).size=7:=rfl
theorem itv_size (x:Fe.It):(itv x).size=5:=rfl
theorem ldc_one (x:Fw.Ld):∀ v ∈ (ldc x).toList,v.oneCell'=true:=by simp [ldc,Value.oneCell']
theorem itv_one (x:Fe.It):∀ v ∈ (itv x).toList,v.oneCell'=true:=by simp [itv,Value.oneCell']
def ISub (cs:Array Value) (q:Nat) (xs:List Im):Prop:=q + xs.length * 17≤cs.size∧∀ i (h:i<xs.length) j,j<17→cs[q + i * 17 + j]? = (imc xs[i])[j]?
def ISame (q m:Nat) (cs cs':Array Value):Prop:=cs'.size=cs.size∧∀ k,k<q∨q + m * 17≤k→cs'[k]? = cs[k]?
theorem ISame.refl (q m:Nat) (cs:Array Value):ISame q m cs cs:=⟨rfl,fun _ _=>rfl⟩
theorem ISame.trans {q m:Nat} {cs cs' cs'':Array Value} (h:ISame q m cs cs') (k:ISame q m cs' cs''):ISame q m cs cs'':=⟨k.1.trans h.1,fun i hi=>(k.2 i hi).trans (h.2 i hi)⟩
theorem ISub.put {cs vs:Array Value} {q i o:Nat} {xs:List Im} (h:ISub cs q xs) (hi:i<xs.length) (y:Im) (ho:o + vs.size≤17) (h1:∀ j,j<vs.size→(imc y)[o + j]? = vs[j]?) (h2:∀ j,j<17→(j<o∨o + vs.size≤j)→(imc y)[j]? = (imc xs[i])[j]?) :
  ISub (splice cs (q + i * 17 + o) vs) q (xs.set i y)∧ISame q xs.length cs (splice cs (q + i * 17 + o) vs):=by
 have hb:i * 17 + 17≤xs.length * 17:=by omega
 have hf:q + i * 17 + o + vs.size≤cs.size:=by have:=h.1;omega
 refine ⟨⟨by rw [splice_size hf,List.length_set];exact h.1,fun k hk j hj => ?_⟩,splice_size hf,fun k hk=>splice_out hf Z3f⟩
 have hk2:k<xs.length:=by simpa using hk
 by_cases e:k=i
 · subst e
   rw [List.getElem_set_self]
   by_cases hin:o≤j∧j<o + vs.size
   · obtain ⟨d,rfl⟩:∃ d,j=o + d:=⟨j - o,by omega⟩
     rw [show q + k * 17 + (o + d)=q + k * 17 + o + d by omega,splice_in hf Z3f,h1 d Z3f]
   · rw [splice_out hf Z3f,h2 j hj Z3f]
     exact h.2 k hk2 j hj
 · rw [List.getElem_set_ne (fun q=>e q.symm),splice_out hf Z3f]
   exact h.2 k hk2 j hj
theorem ISub.putLd {cs:Array Value} {q i:Nat} {xs:List Im} (h:ISub cs q xs) (hi:i<xs.length) (l:Fw.Ld):ISub (splice cs (q + i * 17 + 5) (ldc l)) q (xs.set i { xs[i] with ld:=l })∧ISame q xs.length cs (splice cs (q + i * 17 + 5) (ldc l)):=by
 refine h.put (o:=5) (vs:=ldc l) hi _ (by simp [ldc_size]) (fun j hj => ?_) (fun j hj hk => ?_)
 · rw [ldc_size] at hj
   exact Z2h
 · rw [ldc_size] at hk
   rcases (by omega:j=0∨j=1∨j=2∨j=3∨j=4∨j=12∨j=13∨j=14∨j=15∨j=16) with rfl | rfl | rfl | rfl | rfl | rfl | rfl | rfl | rfl | rfl <;> rfl
theorem ISub.putIt {cs:Array Value} {q i:Nat} {xs:List Im} (h:ISub cs q xs) (hi:i<xs.length) (t:Fe.It):ISub (splice cs (q + i * 17 + 0) (itv t)) q (xs.set i { xs[i] with it:=t })∧ISame q xs.length cs (splice cs (q + i * 17 + 0) (itv t)):=by
 refine h.put (o:=0) (vs:=itv t) hi _ (by simp [itv_size]) (fun j hj => ?_) (fun j hj hk => ?_)
 · rw [itv_size] at hj
   exact Z2y
 · rw [itv_size] at hk
   rcases (by omega:j=5∨j=6∨j=7∨j=8∨j=9∨j=10∨j=11∨j=12∨j=13∨j=14∨j=15∨j=16) with rfl | rfl | rfl | rfl | rfl | rfl | rfl | rfl | rfl | rfl | rfl | rfl <;> rfl
theorem ISub.putAt {cs:Array Value} {q i:Nat} {xs:List Im} (h:ISub cs q xs) (hi:i<xs.length) (a b:Int):ISub (splice cs (q + i * 17 + 10) #[.int .i64 a,.int .i64 b]) q (xs.set i { xs[i] with ld:={ xs[i].ld with a0:=a,a1:=b } })∧ISame q xs.length cs (splice cs (q + i * 17 + 10) #[.int .i64 a,.int .i64 b]):=by
 refine h.put (o:=10) (vs:=#[.int .i64 a,.int .i64 b]) hi _ Z3t (fun j hj => ?_) (fun j hj hk => ?_)
 · have hj:j<2:=hj
   rcases (by omega:j=0∨j=1) with rfl | rfl <;> rfl
 · have hk:j<10∨12≤j:=hk
   rcases (by omega:j=0∨j=1∨j=2∨j=3∨j=4∨j=5∨j=6∨j=7∨j=8∨j=9∨j=12∨j=13∨j=14∨j=15∨j=16) with rfl | rfl | rfl | rfl | rfl | rfl | rfl | rfl | rfl | rfl | rfl | rfl | rfl | rfl | rfl <;> rfl
def ImAt (W:World) (R q:Nat) (x:Im):Prop:=∀ j,j<17→W.cell? ⟨R,q + j,none⟩=(imc x)[j]?
theorem ImAt.keep {W W':World} {B R q:Nat} {x:Im} (h:ImAt W R q x) (hb:Below B W W') (hl:R<B):ImAt W' R q x:=fun j hj=>(hb.cell (p:=⟨R,q + j,none⟩) hl).trans (h j hj)
theorem ImAt.out {M:Nat→Prop} {W W':World} {R q:Nat} {x:Im} (h:ImAt W R q x) (k:Out M W W') (hl:R<W.heap.size) (hm:¬ M R):ImAt W' R q x:=fun j hj=>(Out.cell k (q + j) hl hm).trans (h j hj)
theorem ISub.at_ {W:World} {R q i:Nat} {cs:Array Value} {xs:List Im} (h:ISub cs q xs) (hA:At W R (.cells cs 203)) (hi:i<xs.length):ImAt W R (q + i * 17) xs[i]:=fun j hj=>by rw [hA.cell];exact h.2 i hi j hj
def Ims (W:World) (A:Option Addr) (xs:List Im):Prop:=xs≠[]→∃ R q,A=some ⟨R,q,none⟩∧R<W.heap.size∧∀ i (h:i<xs.length),ImAt W R (q + i * 17) xs[i]
theorem Ims.after {W W':World} {A:Option Addr} {xs:List Im} (h:Ims W A xs) (hb:Below W.heap.size W W'):Ims W' A xs:=fun hn=>by
 obtain ⟨R,q,e,hl,hc⟩:=h hn
 exact ⟨R,q,e,Nat.lt_of_lt_of_le hl hb.size,fun i hi=>(hc i hi).keep hb hl⟩
theorem Ims.out {M:Nat→Prop} {W W':World} {A:Option Addr} {xs:List Im} (h:Ims W A xs) (k:Out M W W') (hm:∀ R q,A=some ⟨R,q,none⟩→¬ M R):Ims W' A xs:=fun hn=>by
 obtain ⟨R,q,e,hl,hc⟩:=h hn
 exact ⟨R,q,e,Nat.lt_of_lt_of_le hl k.size,fun i hi=>(hc i hi).out k hl (hm R q e)⟩
theorem Ims.at_ {W:World} {A:Option Addr} {xs:List Im} (h:Ims W A xs) {i:Nat} (hi:i<xs.length):∃ R q,A=some ⟨R,q,none⟩∧R<W.heap.size∧ImAt W R (q + i * 17) xs[i]:=by
 obtain ⟨R,q,e,hl,hc⟩:=h (fun e=>by rw [e] at hi;simp at hi)
 exact ⟨R,q,e,hl,hc i hi⟩
theorem ISub.ims {W:World} {R q:Nat} {cs:Array Value} {xs:List Im} (h:ISub cs q xs) (hA:At W R (.cells cs 203)):Ims W (some ⟨R,q,none⟩) xs:=fun _=>⟨R,q,rfl,hA.lt,fun i hi=>h.at_ hA hi⟩
theorem wpList_make_run {ops:Array Oper} {rest:List Oper} {o:Oper} {a:Act} {w w':World} {Q:Exit→Act→World→Prop} (hw:Region.wanted o (yielded ops a.tmps)=true) (l c:Operand) (t:TypeId) (ho:o.op = .makeSlice t l c) {v:Value} (hrun:(Instr.makeSlice t (a.eval l) (a.eval c)).run Tryz.prog w = .ok v w')
  (h:wpList Tryz.prog ops Q rest (a.put o.dst v) w'):wpList Tryz.prog ops Q (o :: rest) a w :=
 wpList_value hw (by unfold execOp;simp only [ho,Sem.run_bind,hrun,Result.andThen_ok,Sem.run_pure]) h
theorem infoFi:(Tryz.prog.info? 201).map (fun i=>(i.zero,i.size,i.bytes))=some (some (.agg #[.int .i64 0,.int .i64 0,.int .i64 0,.int .i64 0,.int .i64 0]),5,40):=by kernel_rfl
theorem infoIm:(Tryz.prog.info? 203).map (fun i=>(i.zero,i.size,i.bytes))=some (some (.agg #[.int .i64 0,.int .i64 0,.int .i64 0,.int .i64 0,.int .i64 0,.int .i64 0,.int .i64 0,.int .i64 0,.int .i64 0,.int .i64 0,.int .i64 0,.int .i64 0,.pointer none,.int .i64 0,.int .i64 0,.int .i64 0,.int .i64 0]),17,136):=by kernel_rfl
theorem infoLd:(Tryz.prog.info? 94).map (fun i=>(i.zero,i.size,i.bytes))=some (some (.agg #[.int .i64 0,.int .i64 0,.int .i64 0,.int .i64 0,.int .i64 0,.int .i64 0,.int .i64 0]),7,56):=by kernel_rfl
theorem make_fi (w:World) (n:Nat) (hn:n≤100000):∃ cs:Array Value,(Instr.makeSlice 268 (.int .i64 (n:Int)) (.int .i64 (n:Int))).run Tryz.prog w = .ok (.slice (some ⟨w.heap.size,0,none⟩) n n) (w.alloc (.cells cs 201))∧cs.size=n * 5:=by
 obtain ⟨i0,hi0,hz0,hz1,hz2⟩:=info_parts infoFi
 have hrun:=run_make (P:=Tryz.prog) w 268 201 i0 _ Tryz.underlying268 hi0 hz0 .i64 .i64 n n Z3f (Int.le_refl _) Z42 Z3f
 exact Z3c
theorem make_im (w:World) (n:Nat) (hn:n≤100000):∃ cs:Array Value,(Instr.makeSlice 199 (.int .i64 (n:Int)) (.int .i64 (n:Int))).run Tryz.prog w = .ok (.slice (some ⟨w.heap.size,0,none⟩) n n) (w.alloc (.cells cs 203))∧cs.size=n * 17:=by
 obtain ⟨i0,hi0,hz0,hz1,hz2⟩:=info_parts infoIm
 have hrun:=run_make (P:=Tryz.prog) w 199 203 i0 _ Tryz.underlying199 hi0 hz0 .i64 .i64 n n Z3f (Int.le_refl _) Z42 Z3f
 exact Z3c
theorem make_ld (w:World) (n:Nat) (hn:n≤100000):∃ cs:Array Value,(Instr.makeSlice 142 (.int .i64 (n:Int)) (.int .i64 (n:Int))).run Tryz.prog w = .ok (.slice (some ⟨w.heap.size,0,none⟩) n n) (w.alloc (.cells cs 94))∧cs.size=n * 7:=by
 obtain ⟨i0,hi0,hz0,hz1,hz2⟩:=info_parts infoLd
 have hrun:=run_make (P:=Tryz.prog) w 142 94 i0 _ Tryz.underlying142 hi0 hz0 .i64 .i64 n n Z3f (Int.le_refl _) Z42 Z3f
 exact Z3c
def imz:Array Value:=#[.int .i64 0,.int .i64 0,.int .i64 0,.int .i64 0,.int .i64 0,.int .i64 0,.int .i64 0,.int .i64 0,.int .i64 0,.int .i64 0,.int .i64 0,.int .i64 0,.pointer none,.int .i64 0,.int .i64 0,.int .i64 0,.int .i64 0]
theorem alloc_im (W:World):(Instr.alloc 203 true (.tuple #[])).run Tryz.prog W = .ok (.pointer (some ⟨W.heap.size,0,none⟩)) (W.alloc (.cells imz 203)):=by kernel_rfl
section
variable {ops:Array Oper} {rest:List Oper} {o:Oper} {a:Act} {w w':World} {Q:Exit→Act→World→Prop}
theorem wpList_alloc_im (hw:Region.wanted o (yielded ops a.tmps)=true) (ho:o.op = .alloc 203) (h:wpList Tryz.prog ops Q rest (a.put o.dst (.pointer (some ⟨w.heap.size,0,none⟩))) (w.alloc (.cells imz 203))):wpList Tryz.prog ops Q (o :: rest) a w :=
 wpList_value hw (by unfold execOp;simp only [ho,Sem.run_bind,alloc_im,Result.andThen_ok,Sem.run_pure]) h
theorem store_im0 {W:World} {b:Nat} {x:Im} (h:At W b (.cells imz 203)):(Instr.storeAt 203 (.pointer (some ⟨b,0,none⟩)) (.agg (imc x))).run Tryz.prog W = .ok () (W.setRow b (imc x)):=by
 have hsz:(Tryz.prog.info? 203).map (·.size)=some (imc x).size:=by rw [imc_size];exact itemSize
 simp only [Instr.storeAt,Instr.sureAddr,Sem.run_bind,Sem.run_pure,Result.andThen_ok,run_storeVar_row W b 203 203 imz (imc x) h hsz rfl (by simp [imc,Value.oneCell'])]
theorem wpList_store_im0 (hw:Region.wanted o (yielded ops a.tmps)=true) (p y:Operand) (ho:o.op = .store 203 p y) {b:Nat} (hp:a.eval p = .pointer (some ⟨b,0,none⟩)) {x:Im} (hy:a.eval y = .agg (imc x)) (hs:At w b (.cells imz 203))
  (h:wpList Tryz.prog ops Q rest (a.put o.dst undef) (w.setRow b (imc x))):wpList Tryz.prog ops Q (o :: rest) a w :=
 wpList_none hw (by unfold execOp;simp only [ho,hp,hy,Sem.run_bind,store_im0 hs,Result.andThen_ok,Sem.run_pure]) h
theorem wpList_load_im (hw:Region.wanted o (yielded ops a.tmps)=true) (p:Operand) (ho:o.op = .load 203 p) {R q:Nat} (hp:a.eval p = .pointer (some ⟨R,q,none⟩)) {x:Im} (hs:ImAt w R q x) (h:wpList Tryz.prog ops Q rest (a.put o.dst (.agg (imc x))) w):wpList Tryz.prog ops Q (o :: rest) a w :=
 wpList_load_at agg_im siz_im hw p ho hp (imc_size x) hs h
theorem wpList_load_im0 (hw:Region.wanted o (yielded ops a.tmps)=true) (p:Operand) (ho:o.op = .load 203 p) {b:Nat} (hp:a.eval p = .pointer (some ⟨b,0,none⟩)) {x:Im} (hs:At w b (.cells (imc x) 203)) (h:wpList Tryz.prog ops Q rest (a.put o.dst (.agg (imc x))) w):wpList Tryz.prog ops Q (o :: rest) a w :=
 wpList_value hw (exec_load_item p ho hp hs) h
end
theorem setRow_below {N:Nat} {w a:World} (h:Below N w a) {b:Nat} (hb:N≤b) (cs:Array Value):Below N w (a.setRow b cs) :=
 ⟨h.os,h.tape,h.output,by simpa [World.setRow] using h.size,fun c hc=>by
  have:=h.block c hc
  unfold World.setRow
  simp only [Array.getElem?_modify]
  rw [if_neg Z3f]
  exact this⟩
theorem fouterf_any (y:Int) (w:World):Calls Tryz.prog 149 #[.int .i64 y] w fun e w'=>e = .returned (.func (.func 189) #[] #[.pointer (some ⟨w.heap.size,0,none⟩)])∧w'=w.alloc (.cells #[.int .i64 y] 3):=by
 have hmf:∀ (fn:Fn) (first cap:Array Value) (w:World),(Instr.makeFunc fn first cap).run Tryz.prog w = .ok (.func fn first cap) w:=fun _ _ _ _=>rfl
 go_enter Tryz.func149,Tryz.ntmps149
 go_wp2
 exact Z21
theorem fclampf_any (y:Int) (w:World):Calls Tryz.prog 145 #[.int .i64 y] w fun e w'=>e = .returned (.func (.func 182) #[] #[.pointer (some ⟨w.heap.size,0,none⟩)])∧w'=w.alloc (.cells #[.int .i64 y] 3):=by
 have hmf:∀ (fn:Fn) (first cap:Array Value) (w:World),(Instr.makeFunc fn first cap).run Tryz.prog w = .ok (.func fn first cap) w:=fun _ _ _ _=>rfl
 go_enter Tryz.func145,Tryz.ntmps145
 go_wp2
 exact Z21
set_option maxHeartbeats 4000000 in
theorem ftoldO (caps:Array Value) (v:Nat→Int) (A:Option Addr) (xs:List Im) (c:Nat) (w:World) (hx:Ims w A xs) (hl:xs.length≤10000)
  (hcall:∀ i (h:i<xs.length) X,Below w.heap.size w X→Calls Tryz.prog 189 (#[.agg (imc xs[i])] ++ caps) X fun e X'=>e = .returned (.int .i64 (v i))∧Below X.heap.size X X') :
  Calls Tryz.prog 144 #[.slice A xs.length c,.func (.func 189) #[] caps] w fun e w'=>(∃ b,e = .returned (.slice (some ⟨b,0,none⟩) xs.length xs.length)∧w.heap.size≤b∧At w' b (.cells (stRow v xs.length xs.length) 3))∧Below w.heap.size w w':=by
 obtain ⟨i0,hi0,hz0,hz1,hz2⟩:=info_parts intZero
 obtain ⟨m,hm⟩:∃ m,xs.length=m:=⟨_,rfl⟩
 rw [hm] at hl ⊢
 have HM:=Lib.hid hm
 have HX:=Lib.hid hx
 have HC:=Lib.hid hcall
 clear hx hcall hm
 go_enter Tryz.func144,Tryz.ntmps144
 go_wp2_with (at_make;refine wpList_make_row _ rfl _ _ 52 rfl 3 i0 (.int .i64 0) Tryz.underlying52 hi0 hz0 hz1 rfl .i64 .i64 m rfl rfl Z42 Z3f ?_)
 obtain ⟨b,hsz⟩:∃ b,w.heap.size=b:=⟨_,rfl⟩
 have hB1:Below w.heap.size w (w.alloc (.cells (stRow v m 0) 3)):=Below.alloc' (Below.refl _ _) _
 have A1:At (w.alloc (.cells (stRow v m 0) 3)) b (.cells (stRow v m 0) 3):=At.new' _ hsz.symm
 rw [hsz,stRow_made v]
 generalize w.alloc (.cells (stRow v m 0) 3)=W2 at *
 go_loopw [6,13] (fun _ vi wr=>∃ k:Nat,k≤m∧vi = .int .i64 k∧At wr b (.cells (stRow v m k) 3)∧Below w.heap.size w wr) (fun _ vi _=>m - (intOf vi).toNat)
 case atStart=>exact ⟨0,by omega,rfl,A1,hB1⟩
 case round =>
  clear A1 hB1
  obtain ⟨k,hk,rfl,A1,hB⟩:=hrel
  by_cases hlt:k<m
  · have hltz:(k:Int)<(m:Int):=by omega
    have hkx:k<xs.length:=by rw [HM.out];exact hlt
    obtain ⟨R,q,rfl,lR,hI⟩:=(HX.out.after hB).at_ hkx
    have key:=HC.out k hkx
    generalize xs[k]=x at *
    go_upto_region 5 with (first | (refine wpList_load_im Z3n _ rfl rfl Z3v ?_) | (refine wpList_load_im0 Z3n _ rfl rfl Z3v ?_) | (refine wpList_alloc_im Z3n rfl ?_) | (refine wpList_store_im0 Z3n _ _ rfl rfl rfl Z3l ?_))
    obtain ⟨nb,hnb⟩:∃ nb,wr.heap.size=nb:=⟨_,rfl⟩
    generalize hW:World.setRow _ _ _=W3
    have A2:At W3 nb (.cells (imc x) 203):=hW ▸ hnb ▸ At.setRow (At.new _ _) _
    have A3:At W3 b (.cells (stRow v m k) 3):=hW ▸ At.offRow (A1.alloc _) (by have:=A1.lt;omega) _
    have hB3:Below w.heap.size w W3:=hW ▸ setRow_below (Below.alloc' hB _) hB.size _
    rw [hnb]
    clear hW A1 hI lR hB
    have hk3:=key W3 hB3
    have HA3:=Lib.hid A3
    go_upto_region 6 with (first | (go_at_call 189;(with_reducible refine hk3.mono ?_);rintro e w4 ⟨rfl,hb4⟩;have A4:=HA3.out.keep hb4;have lb4:=A4.lt;have zb4:=A4.thaw k;have cb4:=A4.cell k;rw [stRow_get _ hlt] at cb4) | (refine wpList_load_im Z3n _ rfl rfl Z3v ?_) | (refine wpList_load_im0 Z3n _ rfl rfl Z3v ?_) | (refine wpList_alloc_im Z3n rfl ?_) | (refine wpList_store_im0 Z3n _ _ rfl rfl rfl Z3l ?_))
    exact Z1b
  · exact Z34
set_option maxHeartbeats 4000000 in
theorem ftoldC (caps:Array Value) (v:Nat→Int) (A:Option Addr) (xs:List Im) (c:Nat) (w:World) (hx:Ims w A xs) (hl:xs.length≤10000)
  (hcall:∀ i (h:i<xs.length) X,Below w.heap.size w X→Calls Tryz.prog 182 (#[.agg (imc xs[i])] ++ caps) X fun e X'=>e = .returned (.int .i64 (v i))∧Below X.heap.size X X') :
  Calls Tryz.prog 144 #[.slice A xs.length c,.func (.func 182) #[] caps] w fun e w'=>(∃ b,e = .returned (.slice (some ⟨b,0,none⟩) xs.length xs.length)∧w.heap.size≤b∧At w' b (.cells (stRow v xs.length xs.length) 3))∧Below w.heap.size w w':=by
 obtain ⟨i0,hi0,hz0,hz1,hz2⟩:=info_parts intZero
 obtain ⟨m,hm⟩:∃ m,xs.length=m:=⟨_,rfl⟩
 rw [hm] at hl ⊢
 have HM:=Lib.hid hm
 have HX:=Lib.hid hx
 have HC:=Lib.hid hcall
 clear hx hcall hm
 go_enter Tryz.func144,Tryz.ntmps144
 go_wp2_with (at_make;refine wpList_make_row _ rfl _ _ 52 rfl 3 i0 (.int .i64 0) Tryz.underlying52 hi0 hz0 hz1 rfl .i64 .i64 m rfl rfl Z42 Z3f ?_)
 obtain ⟨b,hsz⟩:∃ b,w.heap.size=b:=⟨_,rfl⟩
 have hB1:Below w.heap.size w (w.alloc (.cells (stRow v m 0) 3)):=Below.alloc' (Below.refl _ _) _
 have A1:At (w.alloc (.cells (stRow v m 0) 3)) b (.cells (stRow v m 0) 3):=At.new' _ hsz.symm
 rw [hsz,stRow_made v]
 generalize w.alloc (.cells (stRow v m 0) 3)=W2 at *
 go_loopw [6,13] (fun _ vi wr=>∃ k:Nat,k≤m∧vi = .int .i64 k∧At wr b (.cells (stRow v m k) 3)∧Below w.heap.size w wr) (fun _ vi _=>m - (intOf vi).toNat)
 case atStart=>exact ⟨0,by omega,rfl,A1,hB1⟩
 case round =>
  clear A1 hB1
  obtain ⟨k,hk,rfl,A1,hB⟩:=hrel
  by_cases hlt:k<m
  · have hltz:(k:Int)<(m:Int):=by omega
    have hkx:k<xs.length:=by rw [HM.out];exact hlt
    obtain ⟨R,q,rfl,lR,hI⟩:=(HX.out.after hB).at_ hkx
    have key:=HC.out k hkx
    generalize xs[k]=x at *
    go_upto_region 5 with (first | (refine wpList_load_im Z3n _ rfl rfl Z3v ?_) | (refine wpList_load_im0 Z3n _ rfl rfl Z3v ?_) | (refine wpList_alloc_im Z3n rfl ?_) | (refine wpList_store_im0 Z3n _ _ rfl rfl rfl Z3l ?_))
    obtain ⟨nb,hnb⟩:∃ nb,wr.heap.size=nb:=⟨_,rfl⟩
    generalize hW:World.setRow _ _ _=W3
    have A2:At W3 nb (.cells (imc x) 203):=hW ▸ hnb ▸ At.setRow (At.new _ _) _
    have A3:At W3 b (.cells (stRow v m k) 3):=hW ▸ At.offRow (A1.alloc _) (by have:=A1.lt;omega) _
    have hB3:Below w.heap.size w W3:=hW ▸ setRow_below (Below.alloc' hB _) hB.size _
    rw [hnb]
    clear hW A1 hI lR hB
    have hk3:=key W3 hB3
    have HA3:=Lib.hid A3
    go_upto_region 6 with (first | (go_at_call 182;(with_reducible refine hk3.mono ?_);rintro e w4 ⟨rfl,hb4⟩;have A4:=HA3.out.keep hb4;have lb4:=A4.lt;have zb4:=A4.thaw k;have cb4:=A4.cell k;rw [stRow_get _ hlt] at cb4) | (refine wpList_load_im Z3n _ rfl rfl Z3v ?_) | (refine wpList_load_im0 Z3n _ rfl rfl Z3v ?_) | (refine wpList_alloc_im Z3n rfl ?_) | (refine wpList_store_im0 Z3n _ _ rfl rfl rfl Z3l ?_))
    exact Z1b
  · exact Z34
set_option maxHeartbeats 4000000 in
theorem ftoldZ (caps:Array Value) (v:Nat→Int) (A:Option Addr) (xs:List Im) (c:Nat) (w:World) (hx:Ims w A xs) (hl:xs.length≤10000)
  (hcall:∀ i (h:i<xs.length) X,Below w.heap.size w X→Calls Tryz.prog 188 (#[.agg (imc xs[i])] ++ caps) X fun e X'=>e = .returned (.int .i64 (v i))∧Below X.heap.size X X') :
  Calls Tryz.prog 144 #[.slice A xs.length c,.func (.func 188) #[] caps] w fun e w'=>(∃ b,e = .returned (.slice (some ⟨b,0,none⟩) xs.length xs.length)∧w.heap.size≤b∧At w' b (.cells (stRow v xs.length xs.length) 3))∧Below w.heap.size w w':=by
 obtain ⟨i0,hi0,hz0,hz1,hz2⟩:=info_parts intZero
 obtain ⟨m,hm⟩:∃ m,xs.length=m:=⟨_,rfl⟩
 rw [hm] at hl ⊢
 have HM:=Lib.hid hm
 have HX:=Lib.hid hx
 have HC:=Lib.hid hcall
 clear hx hcall hm
 go_enter Tryz.func144,Tryz.ntmps144
 go_wp2_with (at_make;refine wpList_make_row _ rfl _ _ 52 rfl 3 i0 (.int .i64 0) Tryz.underlying52 hi0 hz0 hz1 rfl .i64 .i64 m rfl rfl Z42 Z3f ?_)
 obtain ⟨b,hsz⟩:∃ b,w.heap.size=b:=⟨_,rfl⟩
 have hB1:Below w.heap.size w (w.alloc (.cells (stRow v m 0) 3)):=Below.alloc' (Below.refl _ _) _
 have A1:At (w.alloc (.cells (stRow v m 0) 3)) b (.cells (stRow v m 0) 3):=At.new' _ hsz.symm
 rw [hsz,stRow_made v]
 generalize w.alloc (.cells (stRow v m 0) 3)=W2 at *
 go_loopw [6,13] (fun _ vi wr=>∃ k:Nat,k≤m∧vi = .int .i64 k∧At wr b (.cells (stRow v m k) 3)∧Below w.heap.size w wr) (fun _ vi _=>m - (intOf vi).toNat)
 case atStart=>exact ⟨0,by omega,rfl,A1,hB1⟩
 case round =>
  clear A1 hB1
  obtain ⟨k,hk,rfl,A1,hB⟩:=hrel
  by_cases hlt:k<m
  · have hltz:(k:Int)<(m:Int):=by omega
    have hkx:k<xs.length:=by rw [HM.out];exact hlt
    obtain ⟨R,q,rfl,lR,hI⟩:=(HX.out.after hB).at_ hkx
    have key:=HC.out k hkx
    generalize xs[k]=x at *
    go_upto_region 5 with (first | (refine wpList_load_im Z3n _ rfl rfl Z3v ?_) | (refine wpList_load_im0 Z3n _ rfl rfl Z3v ?_) | (refine wpList_alloc_im Z3n rfl ?_) | (refine wpList_store_im0 Z3n _ _ rfl rfl rfl Z3l ?_))
    obtain ⟨nb,hnb⟩:∃ nb,wr.heap.size=nb:=⟨_,rfl⟩
    generalize hW:World.setRow _ _ _=W3
    have A2:At W3 nb (.cells (imc x) 203):=hW ▸ hnb ▸ At.setRow (At.new _ _) _
    have A3:At W3 b (.cells (stRow v m k) 3):=hW ▸ At.offRow (A1.alloc _) (by have:=A1.lt;omega) _
    have hB3:Below w.heap.size w W3:=hW ▸ setRow_below (Below.alloc' hB _) hB.size _
    rw [hnb]
    clear hW A1 hI lR hB
    have hk3:=key W3 hB3
    have HA3:=Lib.hid A3
    go_upto_region 6 with (first | (go_at_call 188;(with_reducible refine hk3.mono ?_);rintro e w4 ⟨rfl,hb4⟩;have A4:=HA3.out.keep hb4;have lb4:=A4.lt;have zb4:=A4.thaw k;have cb4:=A4.cell k;rw [stRow_get _ hlt] at cb4) | (refine wpList_load_im Z3n _ rfl rfl Z3v ?_) | (refine wpList_load_im0 Z3n _ rfl rfl Z3v ?_) | (refine wpList_alloc_im Z3n rfl ?_) | (refine wpList_store_im0 Z3n _ _ rfl rfl rfl Z3l ?_))
    exact Z1b
  · exact Z34
def outs1 (xs:List Im):List Int:=xs.map outr1
def outs0 (xs:List Im):List Int:=xs.map outr0
def tops (l:List Int) (k:Nat):Int:=(l.take k).foldl max 0
theorem tops_succ {l:List Int} {k:Nat} (h:k<l.length):tops l (k + 1)=max (tops l k) l[k]:=by
 unfold tops
 rw [List.take_succ_eq_append_getElem h,List.foldl_append];rfl
theorem ftout0 (A:Option Addr) (xs:List Im) (c B:Nat) (w:World) (hx:Ims w A xs) (hl:xs.length≤10000) (hB:w.cell? ⟨B,0,none⟩=some (.int .i64 0)) (hBl:B<w.heap.size) :
  Calls Tryz.prog 144 #[.slice A xs.length c,.func (.func 189) #[] #[.pointer (some ⟨B,0,none⟩)]] w fun e w'=>(∃ b,e = .returned (.slice (some ⟨b,0,none⟩) xs.length xs.length)∧w.heap.size≤b∧At w' b (.cells (stRow (fun i=>(outs0 xs).getD i 0) xs.length xs.length) 3))∧Below w.heap.size w w' :=
 ftoldO #[.pointer (some ⟨B,0,none⟩)] (fun i=>(outs0 xs).getD i 0) A xs c w hx hl fun i hi X hb=>by
  have h1:X.cell? ⟨B,0,none⟩=some (.int .i64 0):=(hb.cell (p:=⟨B,0,none⟩) hBl).trans hB
  have e:(outs0 xs).getD i 0=outr0 xs[i]:=by unfold outs0;rw [List.getD,List.getElem?_map,List.getElem?_eq_getElem hi];rfl
  rw [e]
  exact fouter0 xs[i] B X h1
theorem ftout1 (A:Option Addr) (xs:List Im) (c B:Nat) (w:World) (hx:Ims w A xs) (hl:xs.length≤10000) (hB:w.cell? ⟨B,0,none⟩=some (.int .i64 1)) (hBl:B<w.heap.size) :
  Calls Tryz.prog 144 #[.slice A xs.length c,.func (.func 189) #[] #[.pointer (some ⟨B,0,none⟩)]] w fun e w'=>(∃ b,e = .returned (.slice (some ⟨b,0,none⟩) xs.length xs.length)∧w.heap.size≤b∧At w' b (.cells (stRow (fun i=>(outs1 xs).getD i 0) xs.length xs.length) 3))∧Below w.heap.size w w' :=
 ftoldO #[.pointer (some ⟨B,0,none⟩)] (fun i=>(outs1 xs).getD i 0) A xs c w hx hl fun i hi X hb=>by
  have h1:X.cell? ⟨B,0,none⟩=some (.int .i64 1):=(hb.cell (p:=⟨B,0,none⟩) hBl).trans hB
  have e:(outs1 xs).getD i 0=outr1 xs[i]:=by unfold outs1;rw [List.getD,List.getElem?_map,List.getElem?_eq_getElem hi];rfl
  rw [e]
  exact fouter1 xs[i] B X h1
set_option maxHeartbeats 4000000 in
theorem fhighest (A:Option Addr) (xs:List Im) (c:Nat) (w:World) (hx:Ims w A xs) (hl:xs.length≤10000):Calls Tryz.prog 186 #[.slice A xs.length c] w fun e w'=>e = .returned (.int .i64 ((outs1 xs).foldl max 0))∧Below w.heap.size w w':=by
 have hb1:Below w.heap.size w (w.alloc (.cells #[.int .i64 1] 3)):=Below.alloc' (Below.refl _ _) _
 have hA1:At (w.alloc (.cells #[.int .i64 1] 3)) w.heap.size (.cells #[.int .i64 1] 3):=At.new _ _
 have key:=ftout1 A xs c w.heap.size _ (hx.after hb1) hl (hA1.cell 0) hA1.lt
 obtain ⟨l,hL⟩:∃ l,outs1 xs=l:=⟨_,rfl⟩
 have hll:l.length=xs.length:=by rw [← hL];simp [outs1]
 rw [hL] at key ⊢
 obtain ⟨m,hm⟩:∃ m,xs.length=m:=⟨_,rfl⟩
 rw [hm] at hl key hll ⊢
 have HLL:=Lib.hid hll
 clear hx hL hm hll
 go_enter Tryz.func186,Tryz.ntmps186
 go_wp2_with (first | (go_at_call 149;(with_reducible refine (fouterf_any 1 _).mono ?_);rintro e w1 ⟨rfl,rfl⟩) | (go_at_call 144;(with_reducible refine key.mono ?_);rintro e w2 ⟨⟨b,rfl,hbl,hA⟩,hb2⟩))
 have hB:Below w.heap.size w w2:=hb1.trans (hb2.mono hb1.size)
 clear key hb1 hb2 hA1
 go_loop [3,10] (fun av iv=>∃ k:Nat,k≤m∧iv = .int .i64 k∧av = .int .i64 (tops l k)) (fun _ iv=>m - (intOf iv).toNat)
 case atStart=>exact ⟨0,by omega,rfl,rfl⟩
 case round =>
  obtain ⟨k,hk,rfl,rfl⟩:=hrel
  by_cases hlt:k<m
  · have hltz:(k:Int)<(m:Int):=by omega
    have hkl:k<l.length:=by rw [HLL.out];exact hlt
    have hc:=hA.cell k
    rw [stRow_get _ hlt,if_pos hlt,List.getD,List.getElem?_eq_getElem hkl] at hc
    simp only [Option.getD_some] at hc
    have HT:=Lib.hid (tops_succ hkl)
    have lb:=hA.lt
    generalize tops l k=a at *
    generalize l[k]=x at *
    go_wp2
    go_round
    case rel=>exact ⟨k + 1,by omega,by go_num,by rw [HT.out]⟩
    case measure=>simp [intOf];omega
  · obtain rfl:k=m:=by omega
    go_wp2
    go_ret
    exact ⟨ret_int (by unfold tops;rw [List.take_of_length_le (by rw [HLL.out];exact Nat.le_refl _)]),hB⟩
def lfts (r:Int) (ex:Nat→Int):Nat→Int
 | 0=>r
 | k + 1=>Fw.wr (lfts r ex k - ex k)
def FRow (cs:Array Value) (it:Nat→Fe.It) (k:Nat):Prop:=∀ i,i<k→∀ j,j<5→cs[i * 5 + j]? = (itv (it i))[j]?
theorem FRow.items {W:World} {b n:Nat} {cs:Array Value} {it:Nat→Fe.It} (h:FRow cs it n) (hA:At W b (.cells cs 201)):Items W (some ⟨b,0,none⟩) it n:=fun h0 =>
 ⟨b,0,rfl,hA.lt,fun k hk=>by
  have q:=fun j hj=>(hA.cell (k * 5 + j)).trans (h k hk j hj)
  refine ⟨?_,?_,?_,?_,?_⟩
  · have:=q 0 Z3f;simpa [itv] using this
  · have:=q 1 Z3f;simpa [itv] using this
  · have:=q 2 Z3f;simpa [itv] using this
  · have:=q 3 Z3f;simpa [itv] using this
  · have:=q 4 Z3f;simpa [itv] using this⟩
set_option maxHeartbeats 8000000 in
theorem fflexed0 (A:Option Addr) (xs:List Im) (c:Nat) (r0 r1 gap:Int) (it:Nat→Fe.It) (ex:Nat→Int) (st:Nat→Re.St) (w:World) (hx:Ims w A xs) (hl:xs.length≤64) (hit:∀ i (h:i<xs.length),it i=xs[i].it) (hex:∀ i (h:i<xs.length),ex i=ext0 xs[i] (st i)) (hbx:∀ i (h:i<xs.length),∃ fl ap ib,BxAt w xs[i].bx (st i) fl ap ib) :
  Calls Tryz.prog 185 #[.slice A xs.length c,.int .i64 0,.agg #[.int .i64 r0,.int .i64 r1],.int .i64 gap] w fun e w' =>
   (∃ b,e = .returned (.slice (some ⟨b,0,none⟩) xs.length xs.length)∧w.heap.size≤b∧Ints w' (some ⟨b,0,none⟩) (sizesOf it xs.length (lfts (Fw.wr (r0 - Fw.wr (gap * Fw.wr ((xs.length:Int) - 1)))) ex xs.length)))∧Below w.heap.size w w':=by
 obtain ⟨m,hm⟩:∃ m,xs.length=m:=⟨_,rfl⟩
 rw [hm] at hl ⊢
 have HM:=Lib.hid hm
 have HX:=Lib.hid hx
 have HIT:=Lib.hid hit
 have HEX:=Lib.hid hex
 have HBX:=Lib.hid hbx
 clear hx hit hex hbx hm
 rw [← wri ((m:Int) - 1)]
 obtain ⟨q1,hq1⟩:∃ q,IntKind.i64.wrap ((m:Int) - 1)=q:=⟨_,rfl⟩
 rw [hq1, ← wri (gap * q1)]
 obtain ⟨q2,hq2⟩:∃ q,IntKind.i64.wrap (gap * q1)=q:=⟨_,rfl⟩
 rw [hq2, ← wri (r0 - q2)]
 obtain ⟨r,hr⟩:∃ q,IntKind.i64.wrap (r0 - q2)=q:=⟨_,rfl⟩
 rw [hr]
 obtain ⟨ws,hws⟩:∃ W,w.alloc (.cells #[.int .i64 r0,.int .i64 r1] 88)=W:=⟨_,rfl⟩
 obtain ⟨cs0,hmk,hcs0⟩:=make_fi ws m Z3f
 have HMK:=Lib.hid hmk
 clear hmk
 go_enter Tryz.func185,Tryz.ntmps185
 go_upto_region 1 with (fail)
 have hb1:Below w.heap.size w ws:=hws ▸ Below.alloc' (Below.refl _ _) _
 have A0:At ws w.heap.size (.cells #[.int .i64 r0,.int .i64 r1] 88):=hws ▸ At.new _ _
 clear hws
 go_upto_region 2 with (refine wpList_make_run Z3n _ _ 268 rfl HMK.out ?_)
 obtain ⟨b,hb⟩:∃ b,ws.heap.size=b:=⟨_,rfl⟩
 rw [hb]
 have A1:At (ws.alloc (.cells cs0 201)) b (.cells cs0 201):=At.new' _ hb.symm
 have A2:=A0.alloc (.cells cs0 201)
 have hB2:Below w.heap.size w (ws.alloc (.cells cs0 201)):=Below.alloc' hb1 _
 have hwb:w.heap.size<b:=by have:=A0.lt;omega
 generalize ws.alloc (.cells cs0 201)=W2 at *
 obtain ⟨l0,c00,c01⟩:=At.two A2
 clear A0 hb1 hb HMK
 go_upto_region 3 with (fail)
 clear hq1 hq2 hr l0 c00 c01
 go_upto_region 4 with (fail)
 go_loopw [10,27] (fun lv iv wr=>∃ (k:Nat) (cs:Array Value),k≤m∧iv = .int .i64 k∧lv = .int .i64 (lfts r ex k)∧At wr b (.cells cs 201)∧cs.size=m * 5∧FRow cs it k∧Below w.heap.size w wr) (fun _ iv _=>m - (intOf iv).toNat)
 case atStart=>exact ⟨0,cs0,Nat.zero_le _,rfl,rfl,A1,hcs0,fun i hi=>absurd hi (Nat.not_lt_zero _),hB2⟩
 case round =>
  clear A1 A2 hB2 hcs0
  obtain ⟨k,cs,hk,rfl,rfl,A1,hcs,hF,hB⟩:=hrel
  by_cases hlt:k<m
  · have hltz:(k:Int)<(m:Int):=by omega
    have hkx:k<xs.length:=by rw [HM.out];exact hlt
    obtain ⟨R,q,rfl,lR,hI⟩:=(HX.out.after hB).at_ hkx
    obtain ⟨fl,ap,ib,hbx⟩:=HBX.out k hkx
    have hiq:=Lib.hid (HIT.out k hkx)
    have heq:=Lib.hid (HEX.out k hkx)
    have hls:=Lib.hid (show lfts r ex (k + 1)=Fw.wr (lfts r ex k - ex k) from rfl)
    generalize xs[k]=x at *
    generalize lfts r ex k=lf at *
    have HBXK:=Lib.hid hbx
    clear hbx
    go_upto_region 6 with (first | (refine wpList_load_im Z3n _ rfl rfl Z3v ?_) | (refine wpList_load_im0 Z3n _ rfl rfl Z3v ?_) | (refine wpList_alloc_im Z3n rfl ?_) | (refine wpList_store_im0 Z3n _ _ rfl rfl rfl Z3l ?_))
    obtain ⟨nb,hnb⟩:∃ nb,wr.heap.size=nb:=⟨_,rfl⟩
    generalize hW:World.setRow _ _ _=W3
    have A2:At W3 nb (.cells (imc x) 203):=hW ▸ hnb ▸ At.setRow (At.new _ _) _
    have A3:At W3 b (.cells cs 201):=hW ▸ At.offRow (A1.alloc _) (by have:=A1.lt;omega) _
    have hB3:Below w.heap.size w W3:=hW ▸ setRow_below (Below.alloc' hB _) hB.size _
    have hbx3:BxAt W3 x.bx (st k) fl ap ib:=HBXK.out.keep hB3
    rw [hnb]
    have hne:nb≠b:=by have:=A1.lt;omega
    clear hW A1 hI lR hB
    have HBX3:=Lib.hid hbx3
    clear hbx3
    have l2:=A2.lt
    have hld:∀ j,j<5→W3.cell? ⟨nb,0 + j,none⟩=(itv x.it)[j]? := fun j hj=>by
     rw [A2.cell,Nat.zero_add]
     exact Z2y
    have hfit:k * 5 + 5≤cs.size:=by omega
    have HLD:=Lib.hid hld
    clear hld
    go_upto_region 7 with (first | (refine wpList_load_at agg_fi siz_fi Z3n _ rfl rfl (itv_size x.it) HLD.out ?_) | (refine wpList_store_at siz_fi Z3n _ _ rfl rfl rfl A3 (itv_size x.it) (by first | exact hfit | (rw [Nat.zero_add];exact hfit)) (itv_one x.it) ?_))
    obtain ⟨e0,he0⟩:∃ e0,ex k=e0:=⟨_,rfl⟩
    obtain ⟨lf2,hlf2⟩:∃ l,IntKind.i64.wrap (lf - e0)=l:=⟨_,rfl⟩
    have hlk:Hid (lfts r ex (k + 1)=lf2):=Lib.hid (by rw [hls.out,he0, ← wri,hlf2])
    generalize hW:World.setRow _ _ _=W4
    have A4:At W4 b (.cells (splice cs (k * 5) (itv x.it)) 201):=hW ▸ At.setRow A3 _
    have A5:At W4 nb (.cells (imc x) 203):=hW ▸ At.offRow A2 hne _
    have hB4:Below w.heap.size w W4:=hW ▸ setRow_below hB3 (Nat.le_of_lt hwb) _
    have key:=fextra0 x (st k) fl ap ib W4 (HBXK.out.keep hB4)
    exact Zv
  · exact Z1p
set_option maxHeartbeats 8000000 in
theorem fflexed1 (A:Option Addr) (xs:List Im) (c:Nat) (r0 r1 gap:Int) (it:Nat→Fe.It) (ex:Nat→Int) (st:Nat→Re.St) (w:World) (hx:Ims w A xs) (hl:xs.length≤64) (hit:∀ i (h:i<xs.length),it i=xs[i].it) (hex:∀ i (h:i<xs.length),ex i=ext1 xs[i] (st i)) (hbx:∀ i (h:i<xs.length),∃ fl ap ib,BxAt w xs[i].bx (st i) fl ap ib) :
  Calls Tryz.prog 185 #[.slice A xs.length c,.int .i64 1,.agg #[.int .i64 r0,.int .i64 r1],.int .i64 gap] w fun e w' =>
   (∃ b,e = .returned (.slice (some ⟨b,0,none⟩) xs.length xs.length)∧w.heap.size≤b∧Ints w' (some ⟨b,0,none⟩) (sizesOf it xs.length (lfts (Fw.wr (r1 - Fw.wr (gap * Fw.wr ((xs.length:Int) - 1)))) ex xs.length)))∧Below w.heap.size w w':=by
 obtain ⟨m,hm⟩:∃ m,xs.length=m:=⟨_,rfl⟩
 rw [hm] at hl ⊢
 have HM:=Lib.hid hm
 have HX:=Lib.hid hx
 have HIT:=Lib.hid hit
 have HEX:=Lib.hid hex
 have HBX:=Lib.hid hbx
 clear hx hit hex hbx hm
 rw [← wri ((m:Int) - 1)]
 obtain ⟨q1,hq1⟩:∃ q,IntKind.i64.wrap ((m:Int) - 1)=q:=⟨_,rfl⟩
 rw [hq1, ← wri (gap * q1)]
 obtain ⟨q2,hq2⟩:∃ q,IntKind.i64.wrap (gap * q1)=q:=⟨_,rfl⟩
 rw [hq2, ← wri (r1 - q2)]
 obtain ⟨r,hr⟩:∃ q,IntKind.i64.wrap (r1 - q2)=q:=⟨_,rfl⟩
 rw [hr]
 obtain ⟨ws,hws⟩:∃ W,w.alloc (.cells #[.int .i64 r0,.int .i64 r1] 88)=W:=⟨_,rfl⟩
 obtain ⟨cs0,hmk,hcs0⟩:=make_fi ws m Z3f
 have HMK:=Lib.hid hmk
 clear hmk
 go_enter Tryz.func185,Tryz.ntmps185
 go_upto_region 1 with (fail)
 have hb1:Below w.heap.size w ws:=hws ▸ Below.alloc' (Below.refl _ _) _
 have A0:At ws w.heap.size (.cells #[.int .i64 r0,.int .i64 r1] 88):=hws ▸ At.new _ _
 clear hws
 go_upto_region 2 with (refine wpList_make_run Z3n _ _ 268 rfl HMK.out ?_)
 obtain ⟨b,hb⟩:∃ b,ws.heap.size=b:=⟨_,rfl⟩
 rw [hb]
 have A1:At (ws.alloc (.cells cs0 201)) b (.cells cs0 201):=At.new' _ hb.symm
 have A2:=A0.alloc (.cells cs0 201)
 have hB2:Below w.heap.size w (ws.alloc (.cells cs0 201)):=Below.alloc' hb1 _
 have hwb:w.heap.size<b:=by have:=A0.lt;omega
 generalize ws.alloc (.cells cs0 201)=W2 at *
 obtain ⟨l0,c00,c01⟩:=At.two A2
 clear A0 hb1 hb HMK
 go_upto_region 3 with (fail)
 clear hq1 hq2 hr l0 c00 c01
 go_upto_region 4 with (fail)
 go_loopw [10,27] (fun lv iv wr=>∃ (k:Nat) (cs:Array Value),k≤m∧iv = .int .i64 k∧lv = .int .i64 (lfts r ex k)∧At wr b (.cells cs 201)∧cs.size=m * 5∧FRow cs it k∧Below w.heap.size w wr) (fun _ iv _=>m - (intOf iv).toNat)
 case atStart=>exact ⟨0,cs0,Nat.zero_le _,rfl,rfl,A1,hcs0,fun i hi=>absurd hi (Nat.not_lt_zero _),hB2⟩
 case round =>
  clear A1 A2 hB2 hcs0
  obtain ⟨k,cs,hk,rfl,rfl,A1,hcs,hF,hB⟩:=hrel
  by_cases hlt:k<m
  · have hltz:(k:Int)<(m:Int):=by omega
    have hkx:k<xs.length:=by rw [HM.out];exact hlt
    obtain ⟨R,q,rfl,lR,hI⟩:=(HX.out.after hB).at_ hkx
    obtain ⟨fl,ap,ib,hbx⟩:=HBX.out k hkx
    have hiq:=Lib.hid (HIT.out k hkx)
    have heq:=Lib.hid (HEX.out k hkx)
    have hls:=Lib.hid (show lfts r ex (k + 1)=Fw.wr (lfts r ex k - ex k) from rfl)
    generalize xs[k]=x at *
    generalize lfts r ex k=lf at *
    have HBXK:=Lib.hid hbx
    clear hbx
    go_upto_region 6 with (first | (refine wpList_load_im Z3n _ rfl rfl Z3v ?_) | (refine wpList_load_im0 Z3n _ rfl rfl Z3v ?_) | (refine wpList_alloc_im Z3n rfl ?_) | (refine wpList_store_im0 Z3n _ _ rfl rfl rfl Z3l ?_))
    obtain ⟨nb,hnb⟩:∃ nb,wr.heap.size=nb:=⟨_,rfl⟩
    generalize hW:World.setRow _ _ _=W3
    have A2:At W3 nb (.cells (imc x) 203):=hW ▸ hnb ▸ At.setRow (At.new _ _) _
    have A3:At W3 b (.cells cs 201):=hW ▸ At.offRow (A1.alloc _) (by have:=A1.lt;omega) _
    have hB3:Below w.heap.size w W3:=hW ▸ setRow_below (Below.alloc' hB _) hB.size _
    have hbx3:BxAt W3 x.bx (st k) fl ap ib:=HBXK.out.keep hB3
    rw [hnb]
    have hne:nb≠b:=by have:=A1.lt;omega
    clear hW A1 hI lR hB
    have HBX3:=Lib.hid hbx3
    clear hbx3
    have l2:=A2.lt
    have hld:∀ j,j<5→W3.cell? ⟨nb,0 + j,none⟩=(itv x.it)[j]? := fun j hj=>by
     rw [A2.cell,Nat.zero_add]
     exact Z2y
    have hfit:k * 5 + 5≤cs.size:=by omega
    have HLD:=Lib.hid hld
    clear hld
    go_upto_region 7 with (first | (refine wpList_load_at agg_fi siz_fi Z3n _ rfl rfl (itv_size x.it) HLD.out ?_) | (refine wpList_store_at siz_fi Z3n _ _ rfl rfl rfl A3 (itv_size x.it) (by first | exact hfit | (rw [Nat.zero_add];exact hfit)) (itv_one x.it) ?_))
    obtain ⟨e0,he0⟩:∃ e0,ex k=e0:=⟨_,rfl⟩
    obtain ⟨lf2,hlf2⟩:∃ l,IntKind.i64.wrap (lf - e0)=l:=⟨_,rfl⟩
    have hlk:Hid (lfts r ex (k + 1)=lf2):=Lib.hid (by rw [hls.out,he0, ← wri,hlf2])
    generalize hW:World.setRow _ _ _=W4
    have A4:At W4 b (.cells (splice cs (k * 5) (itv x.it)) 201):=hW ▸ At.setRow A3 _
    have A5:At W4 nb (.cells (imc x) 203):=hW ▸ At.offRow A2 hne _
    have hB4:Below w.heap.size w W4:=hW ▸ setRow_below hB3 (Nat.le_of_lt hwb) _
    have key:=fextra1 x (st k) fl ap ib W4 (HBXK.out.keep hB4)
    exact Zv
  · exact Z1p
end Go.Proofs.YteggipnplbkijaaGreat.Fix
