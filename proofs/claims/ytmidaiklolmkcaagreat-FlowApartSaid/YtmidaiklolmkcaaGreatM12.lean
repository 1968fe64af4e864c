/- What functions of the program do, in plain numbers, part 12; no conditions. -/
import Derived.Test.YtmidaiklolmkcaaGreatM11
set_option linter.unusedVariables false
set_option linter.unusedSimpArgs false
set_option linter.unusedSectionVars false
set_option maxRecDepth 100000
set_option maxHeartbeats 16000000
namespace Go.Proofs.YtmidaiklolmkcaaGreat.Fix
open Go.ChangeShapes Go.WideShapes Go.ChangeAt Go.RowKit
theorem aaj{T:TypeId}{n:Nat}(hi:∀W,(isAgg T).run Tryz.prog W=.ok true W)(hz:∀W,(sizeOf T).run Tryz.prog W=.ok n W){W:World}{R q:Nat}{vs:Array Value}(hs:vs.size=n)(h:∀j,j<n->W.cell? ⟨R,q+j,none⟩=vs[j]?) :
  (Instr.loadAt T (.pointer (some ⟨R,q,none⟩))).run Tryz.prog W=.ok (.agg vs) W:=by
 have hl:=run_loadCells_list (P:=Tryz.prog) W ⟨R,q,none⟩ vs.toList (λj v hj=>by
  have hj':j<n:=by have:=(List.getElem?_eq_some_iff.1 hj).1;simpa[hs]using this
  rw[addr_add,h j hj'];rw[Array.getElem?_toList]at hj
  exact hj)
 rw[Array.length_toList,hs]at hl;simp only[Instr.loadAt,Instr.sureAddr,loadVar,Sem.run_bind,Sem.run_pure,hi W,hz W,hl,Result.andThen_ok,if_true]
def splice(cs:Array Value)(q:Nat)(vs:Array Value):Array Value:=(cs.toList.take q++vs.toList++cs.toList.drop (q+vs.size)).toArray
theorem ji{cs vs:Array Value}{q:Nat}(h:q+vs.size<=cs.size):(splice cs q vs).size=cs.size:=by
 simp[splice];omega
theorem om{cs vs:Array Value}{q j:Nat}(h:q+vs.size<=cs.size)(hj:j<vs.size):(splice cs q vs)[q+j]? = vs[j]? := by
 unfold splice;rw[List.getElem?_toArray,List.append_assoc,List.getElem?_append_right jM,List.getElem?_append_left jM];have e:q+j-(cs.toList.take q).length=j:=by simp;omega
 rw[e,Array.getElem?_toList]
theorem iP{cs vs:Array Value}{q k:Nat}(h:q+vs.size<=cs.size)(hk:k<q\/q+vs.size<=k):(splice cs q vs)[k]? = cs[k]? := by
 unfold splice;rw[List.getElem?_toArray];rcases hk with hk|hk
 . rw[List.append_assoc,List.getElem?_append_left jM,List.getElem?_take,if_pos hk,Array.getElem?_toList]
 . rw[List.getElem?_append_right jM,List.getElem?_drop,Array.getElem?_toList]
   congr 1;simp;omega
theorem Vs{T:TypeId}{n:Nat}(hz:∀W,(sizeOf T).run Tryz.prog W=.ok n W){W:World}{R q:Nat}{cs vs:Array Value}{T':TypeId}(hA:At W R (.cells cs T'))(hs:vs.size=n)(hf:q+n<=cs.size)(h1:∀v∈vs.toList,v.oneCell'=true) :
  (Instr.storeAt T (.pointer (some ⟨R,q,none⟩)) (.agg vs)).run Tryz.prog W=.ok () (W.setRow R (splice cs q vs)):=by
 have hl:=run_storeCells_at (P:=Tryz.prog) R q T' vs.toList 0 cs W hA jM h1;simp only[Nat.add_zero,Array.length_toList]at hl;have hv:(storeVar T ⟨R,q,none⟩ (.agg vs)).run Tryz.prog W=.ok () (W.setRow R (splice cs q vs)):=by
  simp[storeVar,hz W,Value.cells,hs];simpa[splice,hs]using hl
 simp only[Instr.storeAt,Instr.sureAddr,Sem.run_bind,Sem.run_pure,Result.andThen_ok,hv]
section
variable {ops:Array Oper} {rest:List Oper} {o:Oper} {a:Act} {w w':World} {Q:Exit->Act->World->Prop}
theorem nM{T:TypeId}{n:Nat}(hi:∀W,(isAgg T).run Tryz.prog W=.ok true W)(hz:∀W,(sizeOf T).run Tryz.prog W=.ok n W)(p:Operand)(ho:o.op=.load T p){R q:Nat}(hp:a.eval p=.pointer (some ⟨R,q,none⟩)){vs:Array Value}(hs:vs.size=n)(h:∀j,j<n->w.cell? ⟨R,q+j,none⟩=vs[j]?):(execOp a.eval o).run Tryz.prog w=.ok (.value (.agg vs)) w:=by
 unfold execOp;simp only[ho,hp,Sem.run_bind,aaj hi hz hs h,Result.andThen_ok,Sem.run_pure]
theorem fB{T:TypeId}{n:Nat}(hz:∀W,(sizeOf T).run Tryz.prog W=.ok n W)(p x:Operand)(ho:o.op=.store T p x){R q:Nat}(hp:a.eval p=.pointer (some ⟨R,q,none⟩)){cs vs:Array Value}{T':TypeId}(hx:a.eval x=.agg vs)(hA:At w R (.cells cs T'))(hs:vs.size=n)(hf:q+n<=cs.size)(h1:∀v∈vs.toList,v.oneCell'=true):(execOp a.eval o).run Tryz.prog w=.ok .skip (w.setRow R (splice cs q vs)):=by
 unfold execOp;simp only[ho,hp,hx,Sem.run_bind,Vs hz hA hs hf h1,Result.andThen_ok,Sem.run_pure]
theorem eY{T:TypeId}{n:Nat}(hi:∀W,(isAgg T).run Tryz.prog W=.ok true W)(hz:∀W,(sizeOf T).run Tryz.prog W=.ok n W)(hw:Region.wanted o (yielded ops a.tmps)=true)(p:Operand)(ho:o.op=.load T p){R q:Nat}(hp:a.eval p=.pointer (some ⟨R,q,none⟩)){vs:Array Value}(hs:vs.size=n)(h:∀j,j<n->w.cell? ⟨R,q+j,none⟩=vs[j]?)
 (hk:wpList Tryz.prog ops Q rest (a.put o.dst (.agg vs)) w):wpList Tryz.prog ops Q (o::rest) a w:=eu hw (nM hi hz p ho hp hs h) hk
theorem jw{T:TypeId}{n:Nat}(hz:∀W,(sizeOf T).run Tryz.prog W=.ok n W)(hw:Region.wanted o (yielded ops a.tmps)=true)(p x:Operand)(ho:o.op=.store T p x){R q:Nat}(hp:a.eval p=.pointer (some ⟨R,q,none⟩)){cs vs:Array Value}{T':TypeId}(hx:a.eval x=.agg vs)(hA:At w R (.cells cs T'))(hs:vs.size=n)(hf:q+n<=cs.size)(h1:∀v∈vs.toList,v.oneCell'=true)
 (hk:wpList Tryz.prog ops Q rest (a.put o.dst undef) (w.setRow R (splice cs q vs))):wpList Tryz.prog ops Q (o::rest) a w:=oK hw (fB hz p x ho hp hx hA hs hf h1) hk
end
theorem Vt(W:World):(isAgg 168).run Tryz.prog W=.ok true W:=by kernel_rfl
theorem Oe(W:World):(sizeOf 168).run Tryz.prog W=.ok 17 W:=by kernel_rfl
theorem zU(W:World):(isAgg 77).run Tryz.prog W=.ok true W:=by kernel_rfl
theorem og(W:World):(sizeOf 77).run Tryz.prog W=.ok 7 W:=by kernel_rfl
theorem Vu(W:World):(isAgg 166).run Tryz.prog W=.ok true W:=by kernel_rfl
theorem zV(W:World):(sizeOf 166).run Tryz.prog W=.ok 5 W:=by kernel_rfl
theorem acv(W:World):(sizeOf 71).run Tryz.prog W=.ok 2 W:=by kernel_rfl
theorem su(x:Im):(nS x).size=17:=rfl
theorem dG(x:Fw.Ld):(eH x).size=7:=rfl
theorem iD(x:Fe.It):(wI x).size=5:=rfl
theorem pJ(x:Fw.Ld):∀v∈(eH x).toList,v.oneCell'=true:=by simp[eH,Value.oneCell']
theorem Ct(x:Fe.It):∀v∈(wI x).toList,v.oneCell'=true:=by simp[wI,Value.oneCell']
def fE(cs:Array Value)(q:Nat)(xs:List Im):Prop:=q+xs.length*17<=cs.size/\∀i (h:i<xs.length) j,j<17->cs[q+i*17+j]? = (nS xs[i])[j]?
def j5(q m:Nat)(cs cs':Array Value):Prop:=cs'.size=cs.size/\∀k,k<q\/q+m*17<=k->cs'[k]? = cs[k]?
theorem j5.refl(q m:Nat)(cs:Array Value):j5 q m cs cs:=⟨rfl,λ_ _=>rfl⟩
theorem j5.trans{q m:Nat}{cs cs' cs'':Array Value}(h:j5 q m cs cs')(k:j5 q m cs' cs''):j5 q m cs cs'':=⟨k.1.trans h.1,λi hi=>(k.2 i hi).trans (h.2 i hi)⟩
theorem fE.put{cs vs:Array Value}{q i o:Nat}{xs:List Im}(h:fE cs q xs)(hi:i<xs.length)(y:Im)(ho:o+vs.size<=17)(h1:∀j,j<vs.size->(nS y)[o+j]? = vs[j]?)(h2:∀j,j<17->(j<o\/o+vs.size<=j)->(nS y)[j]? = (nS xs[i])[j]?) :
  fE (splice cs (q+i*17+o) vs) q (xs.set i y)/\j5 q xs.length cs (splice cs (q+i*17+o) vs):=by
 have hb:i*17+17<=xs.length*17:=by omega
 have hf:q+i*17+o+vs.size<=cs.size:=by have:=h.1;omega
 refine⟨⟨by rw[ji hf,List.length_set];exact h.1,λk hk j hj => ?_⟩,ji hf,λk hk=>iP hf aj⟩;have hk2:k<xs.length:=by simpa using hk
 by_cases e:k=i
 . subst e
   rw[List.getElem_set_self];by_cases hin:o<=j/\j<o+vs.size
   . obtain⟨d,rfl⟩:∃d,j=o+d:=⟨j-o,by omega⟩
     rw[show q+k*17+(o+d)=q+k*17+o+d by omega,om hf aj,h1 d aj]
   . rw[iP hf aj,h2 j hj aj]
     exact h.2 k hk2 j hj
 . rw[List.getElem_set_ne (λq=>e q.symm),iP hf aj]
   exact h.2 k hk2 j hj
theorem fE.Qg{cs:Array Value}{q i:Nat}{xs:List Im}(h:fE cs q xs)(hi:i<xs.length)(l:Fw.Ld):fE (splice cs (q+i*17+5) (eH l)) q (xs.set i { xs[i]with ld:=l })/\j5 q xs.length cs (splice cs (q+i*17+5) (eH l)):=by
 refine h.put (o:=5) (vs:=eH l) hi _ (by simp[dG]) (λj hj => ?_) (λj hj hk => ?_)
 . rw[dG]at hj
   exact Z2r
 . rw[dG]at hk
   rcases(by omega:j=0\/j=1\/j=2\/j=3\/j=4\/j=12\/j=13\/j=14\/j=15\/j=16)with rfl|rfl|rfl|rfl|rfl|rfl|rfl|rfl|rfl|rfl<;>rfl
theorem fE.abH{cs:Array Value}{q i:Nat}{xs:List Im}(h:fE cs q xs)(hi:i<xs.length)(t:Fe.It):fE (splice cs (q+i*17+0) (wI t)) q (xs.set i { xs[i]with it:=t })/\j5 q xs.length cs (splice cs (q+i*17+0) (wI t)):=by
 refine h.put (o:=0) (vs:=wI t) hi _ (by simp[iD]) (λj hj => ?_) (λj hj hk => ?_)
 . rw[iD]at hj
   exact Z3b
 . rw[iD]at hk
   rcases(by omega:j=5\/j=6\/j=7\/j=8\/j=9\/j=10\/j=11\/j=12\/j=13\/j=14\/j=15\/j=16)with rfl|rfl|rfl|rfl|rfl|rfl|rfl|rfl|rfl|rfl|rfl|rfl<;>rfl
theorem fE.putAt{cs:Array Value}{q i:Nat}{xs:List Im}(h:fE cs q xs)(hi:i<xs.length)(a b:Int):fE (splice cs (q+i*17+10) #[.int .i64 a,.int .i64 b]) q (xs.set i { xs[i]with ld:={ xs[i].ld with a0:=a,a1:=b } })/\j5 q xs.length cs (splice cs (q+i*17+10) #[.int .i64 a,.int .i64 b]):=by
 refine h.put (o:=10) (vs:=#[.int .i64 a,.int .i64 b]) hi _ eZ (λj hj => ?_) (λj hj hk => ?_)
 . have hj:j<2:=hj
   rcases(by omega:j=0\/j=1)with rfl|rfl<;>rfl
 . have hk:j<10\/12<=j:=hk
   rcases(by omega:j=0\/j=1\/j=2\/j=3\/j=4\/j=5\/j=6\/j=7\/j=8\/j=9\/j=12\/j=13\/j=14\/j=15\/j=16)with rfl|rfl|rfl|rfl|rfl|rfl|rfl|rfl|rfl|rfl|rfl|rfl|rfl|rfl|rfl<;>rfl
def rz(W:World)(R q:Nat)(x:Im):Prop:=∀j,j<17->W.cell? ⟨R,q+j,none⟩=(nS x)[j]?
theorem rz.keep{W W':World}{B R q:Nat}{x:Im}(h:rz W R q x)(hb:Below B W W')(hl:R<B):rz W' R q x:=λj hj=>(hb.cell (p:=⟨R,q+j,none⟩) hl).trans (h j hj)
theorem rz.out{M:Nat->Prop}{W W':World}{R q:Nat}{x:Im}(h:rz W R q x)(k:Out M W W')(hl:R<W.heap.size)(hm:¬ M R):rz W' R q x:=λj hj=>(Out.cell k (q+j) hl hm).trans (h j hj)
theorem fE.at_{W:World}{R q i:Nat}{cs:Array Value}{xs:List Im}(h:fE cs q xs)(hA:At W R (.cells cs 168))(hi:i<xs.length):rz W R (q+i*17) xs[i]:=λj hj=>by rw[hA.cell];exact h.2 i hi j hj
def IU(W:World)(A:Option Addr)(xs:List Im):Prop:=xs≠[]->∃R q,A=some ⟨R,q,none⟩/\R<W.heap.size/\∀i (h:i<xs.length),rz W R (q+i*17) xs[i]
theorem IU.after{W W':World}{A:Option Addr}{xs:List Im}(h:IU W A xs)(hb:Below W.heap.size W W'):IU W' A xs:=λhn=>by
 obtain⟨R,q,e,hl,hc⟩:=h hn;exact⟨R,q,e,aV hl hb.size,λi hi=>(hc i hi).keep hb hl⟩
theorem IU.out{M:Nat->Prop}{W W':World}{A:Option Addr}{xs:List Im}(h:IU W A xs)(k:Out M W W')(hm:∀R q,A=some ⟨R,q,none⟩->¬ M R):IU W' A xs:=λhn=>by
 obtain⟨R,q,e,hl,hc⟩:=h hn;exact⟨R,q,e,aV hl k.size,λi hi=>(hc i hi).out k hl (hm R q e)⟩
theorem IU.at_{W:World}{A:Option Addr}{xs:List Im}(h:IU W A xs){i:Nat}(hi:i<xs.length):∃R q,A=some ⟨R,q,none⟩/\R<W.heap.size/\rz W R (q+i*17) xs[i]:=by
 obtain⟨R,q,e,hl,hc⟩:=h (λe=>by rw[e]at hi;simp at hi);exact⟨R,q,e,hl,hc i hi⟩
theorem fE.ims{W:World}{R q:Nat}{cs:Array Value}{xs:List Im}(h:fE cs q xs)(hA:At W R (.cells cs 168)):IU W (some ⟨R,q,none⟩) xs:=λ_=>⟨R,q,rfl,hA.lt,λi hi=>h.at_ hA hi⟩
theorem mO{ops:Array Oper}{rest:List Oper}{o:Oper}{a:Act}{w w':World}{Q:Exit->Act->World->Prop}(hw:Region.wanted o (yielded ops a.tmps)=true)(l c:Operand)(t:TypeId)(ho:o.op=.makeSlice t l c){v:Value}(hrun:(Instr.makeSlice t (a.eval l) (a.eval c)).run Tryz.prog w=.ok v w')
  (h:wpList Tryz.prog ops Q rest (a.put o.dst v) w'):wpList Tryz.prog ops Q (o::rest) a w :=
 eu hw (by unfold execOp;simp only[ho,Sem.run_bind,hrun,Result.andThen_ok,Sem.run_pure]) h
theorem acw:(Tryz.prog.info? 166).map (λi=>(i.zero,i.size,i.bytes))=some (some (.agg #[.int .i64 0,.int .i64 0,.int .i64 0,.int .i64 0,.int .i64 0]),5,40):=by kernel_rfl
theorem acy:(Tryz.prog.info? 168).map (λi=>(i.zero,i.size,i.bytes))=some (some (.agg #[.int .i64 0,.int .i64 0,.int .i64 0,.int .i64 0,.int .i64 0,.int .i64 0,.int .i64 0,.int .i64 0,.int .i64 0,.int .i64 0,.int .i64 0,.int .i64 0,.pointer none,.int .i64 0,.int .i64 0,.int .i64 0,.int .i64 0]),17,136):=by kernel_rfl
theorem Og:(Tryz.prog.info? 77).map (λi=>(i.zero,i.size,i.bytes))=some (some (.agg #[.int .i64 0,.int .i64 0,.int .i64 0,.int .i64 0,.int .i64 0,.int .i64 0,.int .i64 0]),7,56):=by kernel_rfl
theorem Qh(w:World)(n:Nat)(hn:n<=100000):∃cs:Array Value,(Instr.makeSlice 237 (.int .i64 (n:Int)) (.int .i64 (n:Int))).run Tryz.prog w=.ok (.slice (some ⟨w.heap.size,0,none⟩) n n) (w.alloc (.cells cs 166))/\cs.size=n*5:=by
 obtain⟨i0,hi0,hz0,hz1,hz2⟩:=info_parts acw;have hrun:=run_make (P:=Tryz.prog) w 237 166 i0 _ Tryz.underlying237 hi0 hz0 .i64 .i64 n n aj (Int.le_refl _) QS aj;exact Z3z
theorem aak(w:World)(n:Nat)(hn:n<=100000):∃cs:Array Value,(Instr.makeSlice 163 (.int .i64 (n:Int)) (.int .i64 (n:Int))).run Tryz.prog w=.ok (.slice (some ⟨w.heap.size,0,none⟩) n n) (w.alloc (.cells cs 168))/\cs.size=n*17:=by
 obtain⟨i0,hi0,hz0,hz1,hz2⟩:=info_parts acy;have hrun:=run_make (P:=Tryz.prog) w 163 168 i0 _ Tryz.underlying163 hi0 hz0 .i64 .i64 n n aj (Int.le_refl _) QS aj;exact Z3z
theorem aal(w:World)(n:Nat)(hn:n<=100000):∃cs:Array Value,(Instr.makeSlice 118 (.int .i64 (n:Int)) (.int .i64 (n:Int))).run Tryz.prog w=.ok (.slice (some ⟨w.heap.size,0,none⟩) n n) (w.alloc (.cells cs 77))/\cs.size=n*7:=by
 obtain⟨i0,hi0,hz0,hz1,hz2⟩:=info_parts Og;have hrun:=run_make (P:=Tryz.prog) w 118 77 i0 _ Tryz.underlying118 hi0 hz0 .i64 .i64 n n aj (Int.le_refl _) QS aj;exact Z3z
def imz:Array Value:=#[.int .i64 0,.int .i64 0,.int .i64 0,.int .i64 0,.int .i64 0,.int .i64 0,.int .i64 0,.int .i64 0,.int .i64 0,.int .i64 0,.int .i64 0,.int .i64 0,.pointer none,.int .i64 0,.int .i64 0,.int .i64 0,.int .i64 0]
theorem Vv(W:World):(Instr.alloc 168 true (.tuple #[])).run Tryz.prog W=.ok (.pointer (some ⟨W.heap.size,0,none⟩)) (W.alloc (.cells imz 168)):=by kernel_rfl
section
variable {ops:Array Oper} {rest:List Oper} {o:Oper} {a:Act} {w w':World} {Q:Exit->Act->World->Prop}
theorem bX(hw:Region.wanted o (yielded ops a.tmps)=true)(ho:o.op=.alloc 168)(h:wpList Tryz.prog ops Q rest (a.put o.dst (.pointer (some ⟨w.heap.size,0,none⟩))) (w.alloc (.cells imz 168))):wpList Tryz.prog ops Q (o::rest) a w :=
 eu hw (by unfold execOp;simp only[ho,Sem.run_bind,Vv,Result.andThen_ok,Sem.run_pure]) h
theorem RI{W:World}{b:Nat}{x:Im}(h:At W b (.cells imz 168)):(Instr.storeAt 168 (.pointer (some ⟨b,0,none⟩)) (.agg (nS x))).run Tryz.prog W=.ok () (W.setRow b (nS x)):=by
 have hsz:(Tryz.prog.info? 168).map (·.size)=some (nS x).size:=by rw[su];exact Lc
 simp only[Instr.storeAt,Instr.sureAddr,Sem.run_bind,Sem.run_pure,Result.andThen_ok,run_storeVar_row W b 168 168 imz (nS x) h hsz rfl (by simp[nS,Value.oneCell'])]
theorem bU(hw:Region.wanted o (yielded ops a.tmps)=true)(p y:Operand)(ho:o.op=.store 168 p y){b:Nat}(hp:a.eval p=.pointer (some ⟨b,0,none⟩)){x:Im}(hy:a.eval y=.agg (nS x))(hs:At w b (.cells imz 168))
  (h:wpList Tryz.prog ops Q rest (a.put o.dst undef) (w.setRow b (nS x))):wpList Tryz.prog ops Q (o::rest) a w :=
 oK hw (by unfold execOp;simp only[ho,hp,hy,Sem.run_bind,RI hs,Result.andThen_ok,Sem.run_pure]) h
theorem dD(hw:Region.wanted o (yielded ops a.tmps)=true)(p:Operand)(ho:o.op=.load 168 p){R q:Nat}(hp:a.eval p=.pointer (some ⟨R,q,none⟩)){x:Im}(hs:rz w R q x)(h:wpList Tryz.prog ops Q rest (a.put o.dst (.agg (nS x))) w):wpList Tryz.prog ops Q (o::rest) a w :=
 eY Vt Oe hw p ho hp (su x) hs h
theorem dZ(hw:Region.wanted o (yielded ops a.tmps)=true)(p:Operand)(ho:o.op=.load 168 p){b:Nat}(hp:a.eval p=.pointer (some ⟨b,0,none⟩)){x:Im}(hs:At w b (.cells (nS x) 168))(h:wpList Tryz.prog ops Q rest (a.put o.dst (.agg (nS x))) w):wpList Tryz.prog ops Q (o::rest) a w :=
 eu hw (vH p ho hp hs) h
end
theorem bW{N:Nat}{w a:World}(h:Below N w a){b:Nat}(hb:N<=b)(cs:Array Value):Below N w (a.setRow b cs) :=
 ⟨h.os,h.tape,h.output,by simpa[World.setRow]using h.size,λc hc=>by
  have:=h.block c hc;unfold World.setRow;simp only[Array.getElem?_modify];rw[if_neg aj]
  exact this⟩
theorem oQ(y:Int)(w:World):Calls Tryz.prog 100 #[.int .i64 y] w λe w'=>e=.returned (.func (.func 137) #[] #[.pointer (some ⟨w.heap.size,0,none⟩)])/\w'=w.alloc (.cells #[.int .i64 y] 3):=by
 have JM:∀(fn:Fn) (first cap:Array Value) (w:World),(Instr.makeFunc fn first cap).run Tryz.prog w=.ok (.func fn first cap) w:=λ_ _ _ _=>rfl;go_enter Tryz.func100,Tryz.ntmps100
 go_wp2;exact EL
theorem Lh(y:Int)(w:World):Calls Tryz.prog 96 #[.int .i64 y] w λe w'=>e=.returned (.func (.func 130) #[] #[.pointer (some ⟨w.heap.size,0,none⟩)])/\w'=w.alloc (.cells #[.int .i64 y] 3):=by
 have JM:∀(fn:Fn) (first cap:Array Value) (w:World),(Instr.makeFunc fn first cap).run Tryz.prog w=.ok (.func fn first cap) w:=λ_ _ _ _=>rfl;go_enter Tryz.func96,Tryz.ntmps96
 go_wp2;exact EL
theorem Vw(caps:Array Value)(v:Nat->Int)(A:Option Addr)(xs:List Im)(c:Nat)(w:World)(hx:IU w A xs)(hl:xs.length<=10000)
  (hcall:∀i (h:i<xs.length) X,Below w.heap.size w X->Calls Tryz.prog 137 (#[.agg (nS xs[i])]++caps) X λe X'=>e=.returned (.int .i64 (v i))/\Below X.heap.size X X') :
  Calls Tryz.prog 95 #[.slice A xs.length c,.func (.func 137) #[] caps] w λe w'=>(∃b,e=.returned (.slice (some ⟨b,0,none⟩) xs.length xs.length)/\w.heap.size<=b/\At w' b (.cells (aO v xs.length xs.length) 3))/\Below w.heap.size w w':=by
 obtain⟨i0,hi0,hz0,hz1,hz2⟩:=info_parts intZero;obtain⟨m,hm⟩:=aA xs.length;rw[hm]at hl ⊢;have HM:=ah hm;have HX:=ah hx;have HC:=ah hcall;clear hx hcall hm;go_enter Tryz.func95,Tryz.ntmps95
 go_wp2_with (at_make;refine wpList_make_row _ rfl _ _ 30 rfl 3 i0 (.int .i64 0) Tryz.underlying30 hi0 hz0 hz1 rfl .i64 .i64 m rfl rfl QS aj ?_)
 obtain⟨b,hsz⟩:=aA w.heap.size;have hB1:Below w.heap.size w (w.alloc (.cells (aO v m 0) 3)):=Below.alloc' aF _;have A1:At (w.alloc (.cells (aO v m 0) 3)) b (.cells (aO v m 0) 3):=At.new' _ hsz.symm;rw[hsz,jT v];generalize w.alloc (.cells (aO v m 0) 3)=W2 at *
 go_loopw [6,13] (λ_ vi wr=>∃k:Nat,k<=m/\vi=.int .i64 k/\At wr b (.cells (aO v m k) 3)/\Below w.heap.size w wr) (λ_ vi _=>m-(intOf vi).toNat)
 case atStart=>exact⟨0,by omega,rfl,A1,hB1⟩
 case round =>
  clear A1 hB1;obtain⟨k,hk,rfl,A1,hB⟩:=hrel;by_cases hlt:k<m
  . have hltz:(k:Int)<(m:Int):=by omega
    have hkx:k<xs.length:=by rw[HM.out];exact hlt
    obtain⟨R,q,rfl,lR,hI⟩:=(HX.out.after hB).at_ hkx;have key:=HC.out k hkx;generalize xs[k]=x at *
    go_upto_region 5 with(first|(refine dD aX _ rfl rfl (by assumption) ?_)|(refine dZ aX _ rfl rfl (by assumption) ?_)|(refine bX aX rfl ?_)|(refine bU aX _ _ rfl rfl rfl xX ?_))
    obtain⟨nb,hnb⟩:=aA wr.heap.size;generalize hW:World.setRow _ _ _=W3;have A2:At W3 nb (.cells (nS x) 168):=hW▸hnb▸At.setRow (At.new _ _) _;have A3:At W3 b (.cells (aO v m k) 3):=hW▸At.nG (A1.alloc _) (by have:=A1.lt;omega) _;have hB3:Below w.heap.size w W3:=hW▸bW (Below.alloc' hB _) hB.size _;rw[hnb];clear hW A1 hI lR hB;have hk3:=key W3 hB3;have Yl:=ah A3
    go_upto_region 6 with(first|(go_at_call 137;(with_reducible refine hk3.mono ?_);rintro e w4 ⟨rfl,hb4⟩;have A4:=Yl.out.keep hb4;have lb4:=A4.lt;have zb4:=A4.thaw k;have cb4:=A4.cell k;rw[dh _ hlt]at cb4)|(refine dD aX _ rfl rfl (by assumption) ?_)|(refine dZ aX _ rfl rfl (by assumption) ?_)|(refine bX aX rfl ?_)|(refine bU aX _ _ rfl rfl rfl xX ?_))
    exact Z1d
  . exact Z3l
theorem acz(caps:Array Value)(v:Nat->Int)(A:Option Addr)(xs:List Im)(c:Nat)(w:World)(hx:IU w A xs)(hl:xs.length<=10000)
  (hcall:∀i (h:i<xs.length) X,Below w.heap.size w X->Calls Tryz.prog 130 (#[.agg (nS xs[i])]++caps) X λe X'=>e=.returned (.int .i64 (v i))/\Below X.heap.size X X') :
  Calls Tryz.prog 95 #[.slice A xs.length c,.func (.func 130) #[] caps] w λe w'=>(∃b,e=.returned (.slice (some ⟨b,0,none⟩) xs.length xs.length)/\w.heap.size<=b/\At w' b (.cells (aO v xs.length xs.length) 3))/\Below w.heap.size w w':=by
 obtain⟨i0,hi0,hz0,hz1,hz2⟩:=info_parts intZero;obtain⟨m,hm⟩:=aA xs.length;rw[hm]at hl ⊢;have HM:=ah hm;have HX:=ah hx;have HC:=ah hcall;clear hx hcall hm;go_enter Tryz.func95,Tryz.ntmps95
 go_wp2_with (at_make;refine wpList_make_row _ rfl _ _ 30 rfl 3 i0 (.int .i64 0) Tryz.underlying30 hi0 hz0 hz1 rfl .i64 .i64 m rfl rfl QS aj ?_)
 obtain⟨b,hsz⟩:=aA w.heap.size;have hB1:Below w.heap.size w (w.alloc (.cells (aO v m 0) 3)):=Below.alloc' aF _;have A1:At (w.alloc (.cells (aO v m 0) 3)) b (.cells (aO v m 0) 3):=At.new' _ hsz.symm;rw[hsz,jT v];generalize w.alloc (.cells (aO v m 0) 3)=W2 at *
 go_loopw [6,13] (λ_ vi wr=>∃k:Nat,k<=m/\vi=.int .i64 k/\At wr b (.cells (aO v m k) 3)/\Below w.heap.size w wr) (λ_ vi _=>m-(intOf vi).toNat)
 case atStart=>exact⟨0,by omega,rfl,A1,hB1⟩
 case round =>
  clear A1 hB1;obtain⟨k,hk,rfl,A1,hB⟩:=hrel;by_cases hlt:k<m
  . have hltz:(k:Int)<(m:Int):=by omega
    have hkx:k<xs.length:=by rw[HM.out];exact hlt
    obtain⟨R,q,rfl,lR,hI⟩:=(HX.out.after hB).at_ hkx;have key:=HC.out k hkx;generalize xs[k]=x at *
    go_upto_region 5 with(first|(refine dD aX _ rfl rfl (by assumption) ?_)|(refine dZ aX _ rfl rfl (by assumption) ?_)|(refine bX aX rfl ?_)|(refine bU aX _ _ rfl rfl rfl xX ?_))
    obtain⟨nb,hnb⟩:=aA wr.heap.size;generalize hW:World.setRow _ _ _=W3;have A2:At W3 nb (.cells (nS x) 168):=hW▸hnb▸At.setRow (At.new _ _) _;have A3:At W3 b (.cells (aO v m k) 3):=hW▸At.nG (A1.alloc _) (by have:=A1.lt;omega) _;have hB3:Below w.heap.size w W3:=hW▸bW (Below.alloc' hB _) hB.size _;rw[hnb];clear hW A1 hI lR hB;have hk3:=key W3 hB3;have Yl:=ah A3
    go_upto_region 6 with(first|(go_at_call 130;(with_reducible refine hk3.mono ?_);rintro e w4 ⟨rfl,hb4⟩;have A4:=Yl.out.keep hb4;have lb4:=A4.lt;have zb4:=A4.thaw k;have cb4:=A4.cell k;rw[dh _ hlt]at cb4)|(refine dD aX _ rfl rfl (by assumption) ?_)|(refine dZ aX _ rfl rfl (by assumption) ?_)|(refine bX aX rfl ?_)|(refine bU aX _ _ rfl rfl rfl xX ?_))
    exact Z1d
  . exact Z3l
theorem acA(caps:Array Value)(v:Nat->Int)(A:Option Addr)(xs:List Im)(c:Nat)(w:World)(hx:IU w A xs)(hl:xs.length<=10000)
  (hcall:∀i (h:i<xs.length) X,Below w.heap.size w X->Calls Tryz.prog 136 (#[.agg (nS xs[i])]++caps) X λe X'=>e=.returned (.int .i64 (v i))/\Below X.heap.size X X') :
  Calls Tryz.prog 95 #[.slice A xs.length c,.func (.func 136) #[] caps] w λe w'=>(∃b,e=.returned (.slice (some ⟨b,0,none⟩) xs.length xs.length)/\w.heap.size<=b/\At w' b (.cells (aO v xs.length xs.length) 3))/\Below w.heap.size w w':=by
 obtain⟨i0,hi0,hz0,hz1,hz2⟩:=info_parts intZero;obtain⟨m,hm⟩:=aA xs.length;rw[hm]at hl ⊢;have HM:=ah hm;have HX:=ah hx;have HC:=ah hcall;clear hx hcall hm;go_enter Tryz.func95,Tryz.ntmps95
 go_wp2_with (at_make;refine wpList_make_row _ rfl _ _ 30 rfl 3 i0 (.int .i64 0) Tryz.underlying30 hi0 hz0 hz1 rfl .i64 .i64 m rfl rfl QS aj ?_)
 obtain⟨b,hsz⟩:=aA w.heap.size;have hB1:Below w.heap.size w (w.alloc (.cells (aO v m 0) 3)):=Below.alloc' aF _;have A1:At (w.alloc (.cells (aO v m 0) 3)) b (.cells (aO v m 0) 3):=At.new' _ hsz.symm;rw[hsz,jT v];generalize w.alloc (.cells (aO v m 0) 3)=W2 at *
 go_loopw [6,13] (λ_ vi wr=>∃k:Nat,k<=m/\vi=.int .i64 k/\At wr b (.cells (aO v m k) 3)/\Below w.heap.size w wr) (λ_ vi _=>m-(intOf vi).toNat)
 case atStart=>exact⟨0,by omega,rfl,A1,hB1⟩
 case round =>
  clear A1 hB1;obtain⟨k,hk,rfl,A1,hB⟩:=hrel;by_cases hlt:k<m
  . have hltz:(k:Int)<(m:Int):=by omega
    have hkx:k<xs.length:=by rw[HM.out];exact hlt
    obtain⟨R,q,rfl,lR,hI⟩:=(HX.out.after hB).at_ hkx;have key:=HC.out k hkx;generalize xs[k]=x at *
    go_upto_region 5 with(first|(refine dD aX _ rfl rfl (by assumption) ?_)|(refine dZ aX _ rfl rfl (by assumption) ?_)|(refine bX aX rfl ?_)|(refine bU aX _ _ rfl rfl rfl xX ?_))
    obtain⟨nb,hnb⟩:=aA wr.heap.size;generalize hW:World.setRow _ _ _=W3;have A2:At W3 nb (.cells (nS x) 168):=hW▸hnb▸At.setRow (At.new _ _) _;have A3:At W3 b (.cells (aO v m k) 3):=hW▸At.nG (A1.alloc _) (by have:=A1.lt;omega) _;have hB3:Below w.heap.size w W3:=hW▸bW (Below.alloc' hB _) hB.size _;rw[hnb];clear hW A1 hI lR hB;have hk3:=key W3 hB3;have Yl:=ah A3
    go_upto_region 6 with(first|(go_at_call 136;(with_reducible refine hk3.mono ?_);rintro e w4 ⟨rfl,hb4⟩;have A4:=Yl.out.keep hb4;have lb4:=A4.lt;have zb4:=A4.thaw k;have cb4:=A4.cell k;rw[dh _ hlt]at cb4)|(refine dD aX _ rfl rfl (by assumption) ?_)|(refine dZ aX _ rfl rfl (by assumption) ?_)|(refine bX aX rfl ?_)|(refine bU aX _ _ rfl rfl rfl xX ?_))
    exact Z1d
  . exact Z3l
def oU(xs:List Im):List Int:=xs.map AZ
def uD(xs:List Im):List Int:=xs.map AV
def RJ(l:List Int)(k:Nat):Int:=(l.take k).foldl max 0
theorem RL{l:List Int}{k:Nat}(h:k<l.length):RJ l (k+1)=max (RJ l k) l[k]:=by
 unfold RJ;rw[List.take_succ_eq_append_getElem h,List.foldl_append];rfl
theorem acB(A:Option Addr)(xs:List Im)(c B:Nat)(w:World)(hx:IU w A xs)(hl:xs.length<=10000)(hB:w.cell? ⟨B,0,none⟩=some (.int .i64 0))(hBl:B<w.heap.size) :
  Calls Tryz.prog 95 #[.slice A xs.length c,.func (.func 137) #[] #[.pointer (some ⟨B,0,none⟩)]] w λe w'=>(∃b,e=.returned (.slice (some ⟨b,0,none⟩) xs.length xs.length)/\w.heap.size<=b/\At w' b (.cells (aO (λi=>(uD xs).getD i 0) xs.length xs.length) 3))/\Below w.heap.size w w' :=
 Vw #[.pointer (some ⟨B,0,none⟩)] (λi=>(uD xs).getD i 0) A xs c w hx hl λi hi X hb=>by
  have h1:X.cell? ⟨B,0,none⟩=some (.int .i64 0):=(hb.cell (p:=⟨B,0,none⟩) hBl).trans hB;have e:(uD xs).getD i 0=AV xs[i]:=by unfold uD;rw[List.getD,List.getElem?_map,List.getElem?_eq_getElem hi];rfl
  rw[e];exact Qd xs[i] B X h1
theorem Vx(A:Option Addr)(xs:List Im)(c B:Nat)(w:World)(hx:IU w A xs)(hl:xs.length<=10000)(hB:w.cell? ⟨B,0,none⟩=some (.int .i64 1))(hBl:B<w.heap.size) :
  Calls Tryz.prog 95 #[.slice A xs.length c,.func (.func 137) #[] #[.pointer (some ⟨B,0,none⟩)]] w λe w'=>(∃b,e=.returned (.slice (some ⟨b,0,none⟩) xs.length xs.length)/\w.heap.size<=b/\At w' b (.cells (aO (λi=>(oU xs).getD i 0) xs.length xs.length) 3))/\Below w.heap.size w w' :=
 Vw #[.pointer (some ⟨B,0,none⟩)] (λi=>(oU xs).getD i 0) A xs c w hx hl λi hi X hb=>by
  have h1:X.cell? ⟨B,0,none⟩=some (.int .i64 1):=(hb.cell (p:=⟨B,0,none⟩) hBl).trans hB;have e:(oU xs).getD i 0=AZ xs[i]:=by unfold oU;rw[List.getD,List.getElem?_map,List.getElem?_eq_getElem hi];rfl
  rw[e];exact Qe xs[i] B X h1
theorem Vy(A:Option Addr)(xs:List Im)(c:Nat)(w:World)(hx:IU w A xs)(hl:xs.length<=10000):Calls Tryz.prog 134 #[.slice A xs.length c] w λe w'=>e=.returned (.int .i64 ((oU xs).foldl max 0))/\Below w.heap.size w w':=by
 have hb1:Below w.heap.size w (w.alloc (.cells #[.int .i64 1] 3)):=Below.alloc' aF _;have hA1:At (w.alloc (.cells #[.int .i64 1] 3)) w.heap.size (.cells #[.int .i64 1] 3):=At.new _ _;have key:=Vx A xs c w.heap.size _ (hx.after hb1) hl (hA1.cell 0) hA1.lt;obtain⟨l,hL⟩:=aA (oU xs);have hll:l.length=xs.length:=by rw[<-hL];simp[oU]
 rw[hL]at key ⊢;obtain⟨m,hm⟩:=aA xs.length;rw[hm]at hl key hll ⊢;have RN:=ah hll;clear hx hL hm hll;go_enter Tryz.func134,Tryz.ntmps134
 go_wp2_with (first|(go_at_call 100;(with_reducible refine(oQ 1 _).mono ?_);rintro e w1 ⟨rfl,rfl⟩)|(go_at_call 95;(with_reducible refine key.mono ?_);rintro e w2 ⟨⟨b,rfl,hbl,hA⟩,hb2⟩))
 have hB:Below w.heap.size w w2:=hb1.trans (hb2.mono hb1.size);clear key hb1 hb2 hA1
 go_loop [3,10] (λav iv=>∃k:Nat,k<=m/\iv=.int .i64 k/\av=.int .i64 (RJ l k)) (λ_ iv=>m-(intOf iv).toNat)
 case atStart=>exact⟨0,by omega,rfl,rfl⟩
 case round =>
  obtain⟨k,hk,rfl,rfl⟩:=hrel;by_cases hlt:k<m
  . have hltz:(k:Int)<(m:Int):=by omega
    have hkl:k<l.length:=by rw[RN.out];exact hlt
    have hc:=hA.cell k;rw[dh _ hlt,if_pos hlt,List.getD,List.getElem?_eq_getElem hkl]at hc;simp only[Option.getD_some]at hc;have HT:=ah (RL hkl);have lb:=hA.lt;generalize RJ l k=a at *;generalize l[k]=x at *;go_wp2
    go_round
    case rel=>exact⟨k+1,by omega,by go_num,by rw[HT.out]⟩
    case measure=>simp[intOf];omega
  . obtain rfl:k=m:=by omega
    go_wp2
    go_ret
    exact⟨bO (by unfold RJ;rw[List.take_of_length_le (by rw[RN.out];exact aG _)]),hB⟩
def qb(r:Int)(ex:Nat->Int):Nat->Int
 | 0=>r
 | k+1=>Fw.wr (qb r ex k-ex k)
def Ub(cs:Array Value)(it:Nat->Fe.It)(k:Nat):Prop:=∀i,i<k->∀j,j<5->cs[i*5+j]? = (wI (it i))[j]?
theorem Ub.items{W:World}{b n:Nat}{cs:Array Value}{it:Nat->Fe.It}(h:Ub cs it n)(hA:At W b (.cells cs 166)):Items W (some ⟨b,0,none⟩) it n:=λh0 =>
 ⟨b,0,rfl,hA.lt,λk hk=>by
  have q:=λj hj=>(hA.cell (k*5+j)).trans (h k hk j hj);refine⟨?_,?_,?_,?_,?_⟩
  . have:=q 0 aj;simpa[wI]using this
  . have:=q 1 aj;simpa[wI]using this
  . have:=q 2 aj;simpa[wI]using this
  . have:=q 3 aj;simpa[wI]using this
  . have:=q 4 aj;simpa[wI]using this⟩
theorem Vz(A:Option Addr)(xs:List Im)(c:Nat)(r0 r1 gap:Int)(it:Nat->Fe.It)(ex:Nat->Int)(st:Nat->Re.St)(w:World)(hx:IU w A xs)(hl:xs.length<=64)(hit:∀i (h:i<xs.length),it i=xs[i].it)(hex:∀i (h:i<xs.length),ex i=Vn xs[i] (st i))(hbx:∀i (h:i<xs.length),∃fl ap ib,aL w xs[i].bx (st i) fl ap ib) :
  Calls Tryz.prog 133 #[.slice A xs.length c,.int .i64 0,.agg #[.int .i64 r0,.int .i64 r1],.int .i64 gap] w λe w' =>
   (∃b,e=.returned (.slice (some ⟨b,0,none⟩) xs.length xs.length)/\w.heap.size<=b/\Ints w' (some ⟨b,0,none⟩) (mM it xs.length (qb (Fw.wr (r0-Fw.wr (gap*Fw.wr ((xs.length:Int)-1)))) ex xs.length)))/\Below w.heap.size w w':=by
 obtain⟨m,hm⟩:=aA xs.length;rw[hm]at hl ⊢;have HM:=ah hm;have HX:=ah hx;have HIT:=ah hit;have HEX:=ah hex;have qE:=ah hbx;clear hx hit hex hbx hm;rw[<-rH ((m:Int)-1)];obtain⟨q1,hq1⟩:=aA (IntKind.i64.wrap ((m:Int)-1));rw[hq1,<-rH (gap*q1)];obtain⟨q2,hq2⟩:=aA (IntKind.i64.wrap (gap*q1));rw[hq2,<-rH (r0-q2)];obtain⟨r,hr⟩:=aA (IntKind.i64.wrap (r0-q2));rw[hr];obtain⟨ws,hws⟩:=aA (w.alloc (.cells #[.int .i64 r0,.int .i64 r1] 71));obtain⟨cs0,hmk,xO⟩:=Qh ws m aj;have VA:=ah hmk;clear hmk;go_enter Tryz.func133,Tryz.ntmps133
 go_upto_region 1 with(fail)
 have hb1:Below w.heap.size w ws:=hws▸Below.alloc' aF _;have A0:At ws w.heap.size (.cells #[.int .i64 r0,.int .i64 r1] 71):=hws▸At.new _ _;clear hws
 go_upto_region 2 with(refine mO aX _ _ 237 rfl VA.out ?_)
 obtain⟨b,hb⟩:=aA ws.heap.size;rw[hb];have A1:At (ws.alloc (.cells cs0 166)) b (.cells cs0 166):=At.new' _ hb.symm;have A2:=A0.alloc (.cells cs0 166);have hB2:Below w.heap.size w (ws.alloc (.cells cs0 166)):=Below.alloc' hb1 _;have hwb:w.heap.size<b:=by have:=A0.lt;omega
 generalize ws.alloc (.cells cs0 166)=W2 at *;obtain⟨l0,c00,c01⟩:=At.two A2;clear A0 hb1 hb VA
 go_upto_region 3 with(fail)
 clear hq1 hq2 hr l0 c00 c01
 go_upto_region 4 with(fail)
 go_loopw [10,27] (λlv iv wr=>∃(k:Nat) (cs:Array Value),k<=m/\iv=.int .i64 k/\lv=.int .i64 (qb r ex k)/\At wr b (.cells cs 166)/\cs.size=m*5/\Ub cs it k/\Below w.heap.size w wr) (λ_ iv _=>m-(intOf iv).toNat)
 case atStart=>exact⟨0,cs0,fC _,rfl,rfl,A1,xO,λi hi=>absurd hi (Nat.not_lt_zero _),hB2⟩
 case round =>
  clear A1 A2 hB2 xO;obtain⟨k,cs,hk,rfl,rfl,A1,hcs,hF,hB⟩:=hrel;by_cases hlt:k<m
  . have hltz:(k:Int)<(m:Int):=by omega
    have hkx:k<xs.length:=by rw[HM.out];exact hlt
    obtain⟨R,q,rfl,lR,hI⟩:=(HX.out.after hB).at_ hkx;obtain⟨fl,ap,ib,hbx⟩:=qE.out k hkx;have hiq:=ah (HIT.out k hkx);have heq:=ah (HEX.out k hkx);have hls:=ah (show qb r ex (k+1)=Fw.wr (qb r ex k-ex k)from rfl);generalize xs[k]=x at *;generalize qb r ex k=lf at *;have VB:=ah hbx;clear hbx
    go_upto_region 6 with(first|(refine dD aX _ rfl rfl (by assumption) ?_)|(refine dZ aX _ rfl rfl (by assumption) ?_)|(refine bX aX rfl ?_)|(refine bU aX _ _ rfl rfl rfl xX ?_))
    obtain⟨nb,hnb⟩:=aA wr.heap.size;generalize hW:World.setRow _ _ _=W3;have A2:At W3 nb (.cells (nS x) 168):=hW▸hnb▸At.setRow (At.new _ _) _;have A3:At W3 b (.cells cs 166):=hW▸At.nG (A1.alloc _) (by have:=A1.lt;omega) _;have hB3:Below w.heap.size w W3:=hW▸bW (Below.alloc' hB _) hB.size _;have IV:aL W3 x.bx (st k) fl ap ib:=VB.out.keep hB3;rw[hnb];have hne:nb≠b:=by have:=A1.lt;omega
    clear hW A1 hI lR hB;have JH:=ah IV;clear IV;have l2:=A2.lt
    have hld:∀j,j<5->W3.cell? ⟨nb,0+j,none⟩=(wI x.it)[j]? := λj hj=>by
     rw[A2.cell,Nat.zero_add];exact Z3b
    have hfit:k*5+5<=cs.size:=by omega
    have HLD:=ah hld;clear hld
    go_upto_region 7 with(first|(refine eY Vu zV aX _ rfl rfl (iD x.it) HLD.out ?_)|(refine jw zV aX _ _ rfl rfl rfl A3 (iD x.it) (by first|exact hfit|(rw[Nat.zero_add];exact hfit)) (Ct x.it) ?_))
    obtain⟨e0,he0⟩:=aA (ex k);obtain⟨lf2,YF⟩:=aA (IntKind.i64.wrap (lf-e0));have hlk:Hid (qb r ex (k+1)=lf2):=ah (by rw[hls.out,he0,<-rH,YF]);generalize hW:World.setRow _ _ _=W4;have A4:At W4 b (.cells (splice cs (k*5) (wI x.it)) 166):=hW▸At.setRow A3 _;have A5:At W4 nb (.cells (nS x) 168):=hW▸At.nG A2 hne _;have hB4:Below w.heap.size w W4:=hW▸bW hB3 (uO hwb) _;have key:=Qb x (st k) fl ap ib W4 (VB.out.keep hB4);exact Zw
  . exact Z1t
theorem VD(A:Option Addr)(xs:List Im)(c:Nat)(r0 r1 gap:Int)(it:Nat->Fe.It)(ex:Nat->Int)(st:Nat->Re.St)(w:World)(hx:IU w A xs)(hl:xs.length<=64)(hit:∀i (h:i<xs.length),it i=xs[i].it)(hex:∀i (h:i<xs.length),ex i=ext1 xs[i] (st i))(hbx:∀i (h:i<xs.length),∃fl ap ib,aL w xs[i].bx (st i) fl ap ib) :
  Calls Tryz.prog 133 #[.slice A xs.length c,.int .i64 1,.agg #[.int .i64 r0,.int .i64 r1],.int .i64 gap] w λe w' =>
   (∃b,e=.returned (.slice (some ⟨b,0,none⟩) xs.length xs.length)/\w.heap.size<=b/\Ints w' (some ⟨b,0,none⟩) (mM it xs.length (qb (Fw.wr (r1-Fw.wr (gap*Fw.wr ((xs.length:Int)-1)))) ex xs.length)))/\Below w.heap.size w w':=by
 obtain⟨m,hm⟩:=aA xs.length;rw[hm]at hl ⊢;have HM:=ah hm;have HX:=ah hx;have HIT:=ah hit;have HEX:=ah hex;have qE:=ah hbx;clear hx hit hex hbx hm;rw[<-rH ((m:Int)-1)];obtain⟨q1,hq1⟩:=aA (IntKind.i64.wrap ((m:Int)-1));rw[hq1,<-rH (gap*q1)];obtain⟨q2,hq2⟩:=aA (IntKind.i64.wrap (gap*q1));rw[hq2,<-rH (r1-q2)];obtain⟨r,hr⟩:=aA (IntKind.i64.wrap (r1-q2));rw[hr];obtain⟨ws,hws⟩:=aA (w.alloc (.cells #[.int .i64 r0,.int .i64 r1] 71));obtain⟨cs0,hmk,xO⟩:=Qh ws m aj;have VA:=ah hmk;clear hmk;go_enter Tryz.func133,Tryz.ntmps133
 go_upto_region 1 with(fail)
 have hb1:Below w.heap.size w ws:=hws▸Below.alloc' aF _;have A0:At ws w.heap.size (.cells #[.int .i64 r0,.int .i64 r1] 71):=hws▸At.new _ _;clear hws
 go_upto_region 2 with(refine mO aX _ _ 237 rfl VA.out ?_)
 obtain⟨b,hb⟩:=aA ws.heap.size;rw[hb];have A1:At (ws.alloc (.cells cs0 166)) b (.cells cs0 166):=At.new' _ hb.symm;have A2:=A0.alloc (.cells cs0 166);have hB2:Below w.heap.size w (ws.alloc (.cells cs0 166)):=Below.alloc' hb1 _;have hwb:w.heap.size<b:=by have:=A0.lt;omega
 generalize ws.alloc (.cells cs0 166)=W2 at *;obtain⟨l0,c00,c01⟩:=At.two A2;clear A0 hb1 hb VA
 go_upto_region 3 with(fail)
 clear hq1 hq2 hr l0 c00 c01
 go_upto_region 4 with(fail)
 go_loopw [10,27] (λlv iv wr=>∃(k:Nat) (cs:Array Value),k<=m/\iv=.int .i64 k/\lv=.int .i64 (qb r ex k)/\At wr b (.cells cs 166)/\cs.size=m*5/\Ub cs it k/\Below w.heap.size w wr) (λ_ iv _=>m-(intOf iv).toNat)
 case atStart=>exact⟨0,cs0,fC _,rfl,rfl,A1,xO,λi hi=>absurd hi (Nat.not_lt_zero _),hB2⟩
 case round =>
  clear A1 A2 hB2 xO;obtain⟨k,cs,hk,rfl,rfl,A1,hcs,hF,hB⟩:=hrel;by_cases hlt:k<m
  . have hltz:(k:Int)<(m:Int):=by omega
    have hkx:k<xs.length:=by rw[HM.out];exact hlt
    obtain⟨R,q,rfl,lR,hI⟩:=(HX.out.after hB).at_ hkx;obtain⟨fl,ap,ib,hbx⟩:=qE.out k hkx;have hiq:=ah (HIT.out k hkx);have heq:=ah (HEX.out k hkx);have hls:=ah (show qb r ex (k+1)=Fw.wr (qb r ex k-ex k)from rfl);generalize xs[k]=x at *;generalize qb r ex k=lf at *;have VB:=ah hbx;clear hbx
    go_upto_region 6 with(first|(refine dD aX _ rfl rfl (by assumption) ?_)|(refine dZ aX _ rfl rfl (by assumption) ?_)|(refine bX aX rfl ?_)|(refine bU aX _ _ rfl rfl rfl xX ?_))
    obtain⟨nb,hnb⟩:=aA wr.heap.size;generalize hW:World.setRow _ _ _=W3;have A2:At W3 nb (.cells (nS x) 168):=hW▸hnb▸At.setRow (At.new _ _) _;have A3:At W3 b (.cells cs 166):=hW▸At.nG (A1.alloc _) (by have:=A1.lt;omega) _;have hB3:Below w.heap.size w W3:=hW▸bW (Below.alloc' hB _) hB.size _;have IV:aL W3 x.bx (st k) fl ap ib:=VB.out.keep hB3;rw[hnb];have hne:nb≠b:=by have:=A1.lt;omega
    clear hW A1 hI lR hB;have JH:=ah IV;clear IV;have l2:=A2.lt
    have hld:∀j,j<5->W3.cell? ⟨nb,0+j,none⟩=(wI x.it)[j]? := λj hj=>by
     rw[A2.cell,Nat.zero_add];exact Z3b
    have hfit:k*5+5<=cs.size:=by omega
    have HLD:=ah hld;clear hld
    go_upto_region 7 with(first|(refine eY Vu zV aX _ rfl rfl (iD x.it) HLD.out ?_)|(refine jw zV aX _ _ rfl rfl rfl A3 (iD x.it) (by first|exact hfit|(rw[Nat.zero_add];exact hfit)) (Ct x.it) ?_))
    obtain⟨e0,he0⟩:=aA (ex k);obtain⟨lf2,YF⟩:=aA (IntKind.i64.wrap (lf-e0));have hlk:Hid (qb r ex (k+1)=lf2):=ah (by rw[hls.out,he0,<-rH,YF]);generalize hW:World.setRow _ _ _=W4;have A4:At W4 b (.cells (splice cs (k*5) (wI x.it)) 166):=hW▸At.setRow A3 _;have A5:At W4 nb (.cells (nS x) 168):=hW▸At.nG A2 hne _;have hB4:Below w.heap.size w W4:=hW▸bW hB3 (uO hwb) _;have key:=Qc x (st k) fl ap ib W4 (VB.out.keep hB4);exact Zw
  . exact Z1t
def vI(Y:sj)(B:Int->Fw.Bx)(i0 k:Int):Im:=⟨⟨0,0,0,0,0⟩,⟨k,0,0,0,0,0,0⟩,Y.bl k,Fw.mg (B k).sty 0 0 i0,Fw.mg (B k).sty 0 1 i0,Fw.mg (B k).sty 1 0 i0,Fw.mg (B k).sty 1 1 i0⟩
def iw(Y:sj)(B:Int->Fw.Bx)(i0:Int)(l:List Int):List Im:=l.map (vI Y B i0)
section
variable {Y:sj} {B:Int->Fw.Bx} {D:Int->Prop} {KM:World->Nat->Prop}
theorem RP{cs:Array Value}{l:List Im}{x:Im}(h:fE cs 0 l)(hf:l.length*17+17<=cs.size):fE (splice cs (l.length*17) (nS x)) 0 (l++[x]):=by
 have hs:l.length*17+(nS x).size<=cs.size:=by rw[su];exact hf
 refine⟨by rw[ji hs];simp;omega,λi hi j hj => ?_⟩;by_cases e:i<l.length
 . rw[List.getElem_append_left e,Nat.zero_add,iP hs (.inl aj)]
   have:=h.2 i e j hj
   rwa [Nat.zero_add]at this
 . have:i=l.length:=by simp at hi;omega
   subst this;rw[Nat.zero_add,om hs (by rw[su];exact hj)];simp
theorem ab4(hK:∀(X X':World) (b:Nat),KM X b->Below X.heap.size X X'->KM X' b)(z i0 i1:Int)(hz:D z)(hdn:∀k∈(B z).fl,D k)(hl:(B z).fl.length<=10000)(w:World)(hR:RO w Y B D KM) :
  Calls Tryz.prog 92 #[.pointer (some ⟨Y.lb,0,none⟩),.agg #[.int .i64 z,.int .i64 i0,.int .i64 i1]] w λe w' =>
   (∃R cs,e=.returned (.slice (some ⟨R,0,none⟩) (B z).fl.length (B z).fl.length)/\w.heap.size<=R/\At w' R (.cells cs 168)/\fE cs 0 (iw Y B i0 (B z).fl)/\cs.size=(B z).fl.length*17)/\Below w.heap.size w w':=by
 have hb1:Below w.heap.size w (w.alloc (.cells #[.int .i64 z,.int .i64 i0,.int .i64 i1] 75)):=Below.alloc' aF _;have A0:At (w.alloc (.cells #[.int .i64 z,.int .i64 i0,.int .i64 i1] 75)) w.heap.size (.cells #[.int .i64 z,.int .i64 i0,.int .i64 i1] 75):=At.new _ _;have HR1:=ah (hR.keep hK hb1);have HR:=ah hR;have HDN:=ah hdn;obtain⟨hbx,hks,_⟩:=hR.box z hz;obtain⟨A,cp,hvf,hI,hle,hmx,hAn⟩:=hks.ints;rw[hvf]at hbx;have qE:=ah hbx;have HI:=ah hI;obtain⟨l,hll⟩:=aA ((B z).fl);have RN:=ah hll;rw[hll]at hl hle ⊢;obtain⟨m,hm⟩:=aA l.length;have HM:=ah hm;rw[hm]at hl hle ⊢;clear hR hbx hI hks hvf hdn hll;go_enter Tryz.func92,Tryz.ntmps92
 go_upto_region 1 with(fail)
 generalize w.alloc (.cells #[.int .i64 z,.int .i64 i0,.int .i64 i1] 75)=w1 at *;obtain⟨l0,c00,c01,c02⟩:=At.three A0;have hl1:=HR1.out.look hz;have qI:=HR1.out.lay;have BJ:=qI.lt;have Fu:w1.cell? ⟨Y.lb,2,none⟩=some (.map (some Y.bm)):=qI.cell 2;have acC:=qE.out.keep hb1;have l71:=acC.lt;have qD:w1.cell? ⟨Y.bl z,71,none⟩=some (.slice A (B z).fl.length cp):=acC.ext 16;rw[RN.out,hm]at qD;clear hm acC qI;have hL:=λX (hb:Below w1.heap.size w1 X)=>(HR1.out.keep hK hb).look hz;clear hl1;refine xW ?_
 (repeat (first|refine nW ?_ | refine nX ?_ (hc:=by intro w2 hS;first|with_reducible exact nR hS (jm _))|refine nY ?_))
 refine ak.cK ?_;intro w2 hS;have hb2:Below w.heap.size w w2:=Below.ay hb1 aD hS;have A1:=A0.keep hS;clear hS hL Fu BJ l0 c00 c01 c02 l71 qD hb1 A0 HR1;obtain⟨cs0,hmk,xO⟩:=aak w2 m aj;have acD:=qE.out.keep hb2;have l71:=acD.lt;have qD:w2.cell? ⟨Y.bl z,71,none⟩=some (.slice A (B z).fl.length cp):=aL.ext acD 16;rw[RN.out,HM.out]at qD;have VA:=ah hmk;clear acD hmk
 go_upto_region 3 with(refine mO aX _ _ 163 rfl VA.out ?_)
 obtain⟨R,hR0⟩:=aA w2.heap.size;rw[hR0];have A2:At (w2.alloc (.cells cs0 168)) R (.cells cs0 168):=At.new' _ hR0.symm;have A3:=A1.alloc (.cells cs0 168);have hb3:Below w.heap.size w (w2.alloc (.cells cs0 168)):=Below.alloc' hb2 _;have hwR:w.heap.size<R:=by have:=A1.lt;omega
 generalize w2.alloc (.cells cs0 168)=w3 at *;clear A1 hb2 hR0 VA l71 qD;have Yl:=ah A3;have aiU:=hb3.size
 go_upto_region 4 with(fail)
 go_loopw [25] (λiv wr=>∃(k:Nat) (cs:Array Value),k<=m/\iv=.int .i64 k/\At wr R (.cells cs 168)/\Hid (cs.size=m*17/\fE cs 0 (iw Y B i0 (l.take k)))/\At wr w.heap.size (.cells #[.int .i64 z,.int .i64 i0,.int .i64 i1] 75)/\Below w.heap.size w wr) (λiv _=>m-(intOf iv).toNat)
 case atStart=>exact⟨0,cs0,fC _,rfl,A2,ah ⟨xO,by simp[fE,iw]⟩,A3,hb3⟩
 case round =>
  clear A2 A3 hb3 xO;obtain⟨k,cs,hk,rfl,A2,hC,A3,hB⟩:=hrel;by_cases hlt:k<m
  . have hltz:(k:Int)<(m:Int):=by omega
    have hkk:k<l.length:=by rw[HM.out];exact hlt
    have RQ:=HI.out.after hB;rw[RN.out]at RQ;obtain⟨b1,o1,rfl,TH,hc1⟩:=RQ.at_ (k:=k) hkk;obtain⟨x,hx⟩:=aA (l.getD k 0);have hx2:l[k]=x:=by rw[<-hx,List.getD,List.getElem?_eq_getElem hkk];rfl
    rw[hx]at hc1;have hxD:D x:=HDN.out x (by rw[RN.out];exact hx2▸List.getElem_mem _);have hRr:=HR.out.keep hK hB;have hlx:=hRr.look hxD;have Fu:wr.cell? ⟨Y.lb,2,none⟩=some (.map (some Y.bm)):=hRr.lay.cell 2;have lyb:=hRr.lay.lt;have hbx:=ah (hRr.box x hxD).1;have aez:=gy (Y.bl x) (B x).sty (Y.vf x) (Y.va x) (B x).ib i0 i1 wr hbx.out;have aeA:Hid (iw Y B i0 (l.take (k+1))=iw Y B i0 (l.take k)++[vI Y B i0 x]):=ah (by unfold iw;rw[List.take_succ_eq_append_getElem hkk,List.map_append,hx2];rfl);have hLen:Hid ((iw Y B i0 (l.take k)).length=k):=ah (by simp[iw];omega);obtain⟨l0,c00,c01,c02⟩:=At.three A3;have hNI:Hid (vI Y B i0 x=⟨⟨0,0,0,0,0⟩,⟨x,0,0,0,0,0,0⟩,Y.bl x,Fw.mg (B x).sty 0 0 i0,Fw.mg (B x).sty 0 1 i0,Fw.mg (B x).sty 1 0 i0,Fw.mg (B x).sty 1 1 i0⟩):=ah rfl;generalize Fw.mg (B x).sty 0 0 i0=g0 at *;generalize Fw.mg (B x).sty 0 1 i0=g1 at *;generalize Fw.mg (B x).sty 1 0 i0=g2 at *;generalize Fw.mg (B x).sty 1 1 i0=g3 at *;generalize Y.bl x=bx at *;clear RQ hRr hx2 hxD hx;have HA2:=ah A2;have ahb:=ah A3;clear A2 A3
    go_upto_region 7 with(fail)
    have hfit:k*17+17<=cs.size:=by have:=hC.out.1;omega
    go_upto_region 8 with(first|(go_at_call 77;(with_reducible refine aez.mono ?_);rintro e w5 ⟨rfl,hb5⟩)|(refine jw Oe aX _ _ rfl rfl rfl (HA2.out.keep hb5) rfl hfit JB ?_))
    generalize hW:World.setRow _ _ _=W6;have A4:At W6 R (.cells (splice cs (k*17) (nS (vI Y B i0 x))) 168):=by
     rw[hNI.out];exact hW▸At.setRow (HA2.out.keep hb5) _
    have A5:At W6 w.heap.size (.cells #[.int .i64 z,.int .i64 i0,.int .i64 i1] 75):=hW▸At.nG (ahb.out.keep hb5) (dB hwR) _;have EU:Below w.heap.size w W6:=hW▸bW (Below.ay hB aD hb5) (uO hwR) _
    have hC6:Hid ((splice cs (k*17) (nS (vI Y B i0 x))).size=m*17/\fE (splice cs (k*17) (nS (vI Y B i0 x))) 0 (iw Y B i0 (l.take (k+1)))):=ah ⟨by rw[ji (by rw[su];exact hfit)];exact hC.out.1,by
     rw[aeA.out];have h1:=RP (x:=vI Y B i0 x) hC.out.2 (by rw[hLen.out];exact hfit);rw[hLen.out]at h1
     exact h1⟩
    clear hW hb5 aez hB hfit l0 c00 c01 c02 hlx Fu lyb hc1 TH;go_wp2
    go_roundw
    case rel=>exact⟨k+1,_,by omega,by go_num,A4,hC6,A5,EU⟩
    case measure=>simp[intOf];omega
  . obtain rfl:k=m:=by omega
    have hfull:l.take k=l:=by rw[List.take_of_length_le (by rw[HM.out];exact aG _)]
    rw[hfull]at hC;go_wp2
    go_ret
    exact⟨⟨R,cs,rfl,uO hwR,A2,hC.out.2,hC.out.1⟩,hB⟩
end
theorem aN{cs:Array Value}{i:Nat}{v:Value}(h:cs[i]? = some v):cs.setIfInBounds i v=cs:=by
 apply Array.ext_getElem?;intro j;rw[Array.getElem?_setIfInBounds];by_cases e:i=j
 . subst e
   have hlt:=(Array.getElem?_eq_some_iff.1 h).1;rw[if_pos rfl,if_pos hlt,h]
 . rw[if_neg e]
section
variable {Y:sj} {B:Int->Fw.Bx} {D:Int->Prop} {KM:World->Nat->Prop}
theorem RS(hK:∀(X X':World) (b:Nat),KM X b->Below X.heap.size X X'->KM X' b)(z r0 r1 a0 a1:Int)(hz:D z)(R o:Nat)(cs:Array Value)(w:World)(hR:RO w Y B D KM)(hA:At w R (.cells cs 77))(ho:cs[o]? = some (.int .i64 z))(h5:cs[o+5]? = some (.int .i64 a0))(h6:cs[o+6]? = some (.int .i64 a1)) :
  Calls Tryz.prog 70 #[.pointer (some ⟨Y.lb,0,none⟩),.pointer (some ⟨R,o,none⟩),.agg #[.int .i64 r0,.int .i64 r1]] w λe w'=>e=.returned (.tuple #[])/\At w' R (.cells ((cs.setIfInBounds (o+5) (.int .i64 (if (B z).sty.c 1=1 then Fw.wG (B z).sty 0 r0 a0 else a0))).setIfInBounds (o+6) (.int .i64 (if (B z).sty.c 1=1 then Fw.wG (B z).sty 1 r1 a1 else a1))) 77)/\Out (λb=>b=R) w w':=by
 obtain⟨x0,HX0⟩:∃x,Hid ((if (B z).sty.c 1=1 then Fw.wG (B z).sty 0 r0 a0 else a0)=x):=⟨_,ah rfl⟩;obtain⟨x1,QO⟩:∃x,Hid ((if (B z).sty.c 1=1 then Fw.wG (B z).sty 1 r1 a1 else a1)=x):=⟨_,ah rfl⟩;rw[HX0.out,QO.out];obtain⟨es0,RG,hpm⟩:=hR.EO;have hbx:=(hR.box z hz).1;have hW1:Below w.heap.size w (w.alloc (.cells #[.int .i64 r0,.int .i64 r1] 71)):=Below.alloc' aF _;have hL:=λX (hb:Below (w.alloc (.cells #[.int .i64 r0,.int .i64 r1] 71)).heap.size (w.alloc (.cells #[.int .i64 r0,.int .i64 r1] 71)) X)=>(hR.keep hK (Below.after hW1 hb)).look hz;have A0:At (w.alloc (.cells #[.int .i64 r0,.int .i64 r1] 71)) w.heap.size (.cells #[.int .i64 r0,.int .i64 r1] 71):=At.new _ _;have A2:=hbx.alloc (.cells #[.int .i64 r0,.int .i64 r1] 71);have AR:=hA.alloc (.cells #[.int .i64 r0,.int .i64 r1] 71);have AL:=hR.lay.alloc (.cells #[.int .i64 r0,.int .i64 r1] 71);have hlR:=hA.lt;have hRb:R≠Y.bl z:=λq=>by have:=At.uniq hA (q▸hbx);cases this
 generalize hs:(B z).sty=s at *;generalize Y.vf z=vf at *;generalize Y.va z=va at *;generalize (B z).ib=ib at *;generalize Y.bl z=bz at *;go_enter Tryz.func70,Tryz.ntmps70
 go_upto_region 1 with(fail)
 generalize w.alloc (.cells #[.int .i64 r0,.int .i64 r1] 71)=W0 at *;obtain⟨l0,aB,aC⟩:=At.two A0;have BJ:=AL.lt;have Fu:W0.cell? ⟨Y.lb,2,none⟩=some (.map (some Y.bm)):=AL.cell 2;have lR:=AR.lt;have cR:W0.cell? ⟨R,o,none⟩=some (.int .i64 z):=(AR.cell o).trans ho;have l2:=A2.lt;have p1:W0.cell? ⟨bz,1,none⟩=some (.int .i64 (s.c 1)):=aL.int A2 1 aH rfl;refine xW ?_
 (repeat (first|refine nW ?_ | refine nX ?_ (hc:=by intro w2 hS;first|with_reducible exact nR hS (jm _))|refine nY ?_))
 refine ak.cK ?_;intro w2 hS;have hQ:Out (λb=>b=R) W0 w2:=Out.of_below hS;replace A0:=At.keep A0 hS;replace A2:=At.keep A2 hS;replace AR:=At.keep AR hS;replace p1:=((kY hS).1 _ _ l2).trans p1;clear hS hL BJ Fu AL cR lR;replace l2:=A2.lt;have lR:=AR.lt;have cR:=(AR.cell (o+5)).trans h5;have zR:=AR.thaw (o+5);clear l0 aB aC;obtain⟨l0,aB,aC⟩:=At.two A0;have wL:R<w.heap.size:=hlR;by_cases hp:s.c 1=1
 . have HP:=ah hp
   have hp':(s.c 1 != 1)=false:=by simpa using hp
   clear hp
   go_upto_region 3 with(fail)
   clear p1 hp';go_wp2;refine wp_loop_rounds 3 ?_;cases aam:Fw.BU s 0 0 r0
   . have Oh:=ah aam
     clear aam;cases aan:Fw.BU s 0 1 r0
     . have VE:=ah aan
       clear aan;rw[rounds_succ]
       go_upto_region 6 with(fail)
       go_upto_region 7 with((go_at_call 105;(with_reducible refine(vE bz s vf va ib r0 r1 _ A2).mono ?_);rintro e w3 ⟨rfl,hb⟩;replace hQ:=hQ.trans (Out.of_below hb);replace A0:=At.keep A0 hb;replace A2:=At.keep A2 hb;replace AR:=At.keep AR hb;clear hb))
       clear l0 aB aC lR cR zR;obtain⟨l0,aB,aC⟩:=At.two A0;have lR:=AR.lt;have cR:=(AR.cell (o+5)).trans h5;have zR:=AR.thaw (o+5);rw[Oh.out]
       go_upto_region 10 with((go_at_call 105;(with_reducible refine(yN bz s vf va ib r0 r1 _ A2).mono ?_);rintro e w3 ⟨rfl,hb⟩;replace hQ:=hQ.trans (Out.of_below hb);replace A0:=At.keep A0 hb;replace A2:=At.keep A2 hb;replace AR:=At.keep AR hb;clear hb))
       clear l0 aB aC lR cR zR;obtain⟨l0,aB,aC⟩:=At.two A0;have lR:=AR.lt;have cR:=(AR.cell (o+5)).trans h5;have zR:=AR.thaw (o+5);rw[VE.out];rw[<-aN h5,show a0=Fw.wG s 0 r0 a0 from by unfold Fw.wG;rw[if_neg (by rw[Oh.out];simp),if_neg (by rw[VE.out];simp)]]at AR;exact Z3
     . have VE:=ah aan
       clear aan;rw[rounds_succ]
       go_upto_region 6 with(fail)
       go_upto_region 7 with((go_at_call 105;(with_reducible refine(vE bz s vf va ib r0 r1 _ A2).mono ?_);rintro e w3 ⟨rfl,hb⟩;replace hQ:=hQ.trans (Out.of_below hb);replace A0:=At.keep A0 hb;replace A2:=At.keep A2 hb;replace AR:=At.keep AR hb;clear hb))
       clear l0 aB aC lR cR zR;obtain⟨l0,aB,aC⟩:=At.two A0;have lR:=AR.lt;have cR:=(AR.cell (o+5)).trans h5;have zR:=AR.thaw (o+5);rw[Oh.out]
       go_upto_region 10 with((go_at_call 105;(with_reducible refine(yN bz s vf va ib r0 r1 _ A2).mono ?_);rintro e w3 ⟨rfl,hb⟩;replace hQ:=hQ.trans (Out.of_below hb);replace A0:=At.keep A0 hb;replace A2:=At.keep A2 hb;replace AR:=At.keep AR hb;clear hb))
       clear l0 aB aC lR cR zR;obtain⟨l0,aB,aC⟩:=At.two A0;have lR:=AR.lt;have cR:=(AR.cell (o+5)).trans h5;have zR:=AR.thaw (o+5);rw[VE.out]
       go_upto_region 11 with(fail)
       refine xq 11 1 ?_
       (repeat (first|refine nW ?_ | refine nX ?_ (hc:=by intro w2 hS;first|with_reducible exact nR hS (jm _))|refine nY ?_))
       refine ak.dN ?_;intro w2 hS;replace hQ:=hQ.trans (Out.of_below hS);replace A0:=At.keep A0 hS;replace A2:=At.keep A2 hS;replace AR:=At.keep AR hS;clear hS;clear l0 aB aC lR cR zR;obtain⟨l0,aB,aC⟩:=At.two A0;have lR:=AR.lt;have cR:=(AR.cell (o+5)).trans h5;have zR:=AR.thaw (o+5);refine x9 ?_;intro K hK;go_simp;refine hK _ _ (ak.bV ?_);clear hK K;generalize hW:World.setCell _ _ _=W9;replace A0:At W9 _ _:=hW▸At.off A0 aj _ _;replace A2:At W9 _ _:=hW▸At.off A2 aj _ _;replace hQ:Out _ _ W9:=hW▸Out.set hQ rfl _ _;replace AR:At W9 R _:=hW▸At.set AR (o+5) _;clear hW;rw[rH,show Fw.wr (a0-Fw.ins s 0 1 r0)=Fw.wG s 0 r0 a0 from by unfold Fw.wG;rw[if_neg (by rw[Oh.out];simp),if_pos VE.out]]at AR;exact Z3
   . have Oh:=ah aam
     clear aam;rw[rounds_succ]
     go_upto_region 6 with(fail)
     go_upto_region 7 with((go_at_call 105;(with_reducible refine(vE bz s vf va ib r0 r1 _ A2).mono ?_);rintro e w3 ⟨rfl,hb⟩;replace hQ:=hQ.trans (Out.of_below hb);replace A0:=At.keep A0 hb;replace A2:=At.keep A2 hb;replace AR:=At.keep AR hb;clear hb))
     clear l0 aB aC lR cR zR;obtain⟨l0,aB,aC⟩:=At.two A0;have lR:=AR.lt;have cR:=(AR.cell (o+5)).trans h5;have zR:=AR.thaw (o+5);rw[Oh.out]
     go_upto_region 8 with(fail)
     refine xq 11 1 ?_
     (repeat (first|refine nW ?_ | refine nX ?_ (hc:=by intro w2 hS;first|with_reducible exact nR hS (jm _))|refine nY ?_))
     refine ak.dN ?_;intro w2 hS;replace hQ:=hQ.trans (Out.of_below hS);replace A0:=At.keep A0 hS;replace A2:=At.keep A2 hS;replace AR:=At.keep AR hS;clear hS;clear l0 aB aC lR cR zR;obtain⟨l0,aB,aC⟩:=At.two A0;have lR:=AR.lt;have cR:=(AR.cell (o+5)).trans h5;have zR:=AR.thaw (o+5);refine x9 ?_;intro K hK;go_simp;refine hK _ _ (ak.bV ?_);clear hK K;generalize hW:World.setCell _ _ _=W9;replace A0:At W9 _ _:=hW▸At.off A0 aj _ _;replace A2:At W9 _ _:=hW▸At.off A2 aj _ _;replace hQ:Out _ _ W9:=hW▸Out.set hQ rfl _ _;replace AR:At W9 R _:=hW▸At.set AR (o+5) _;clear hW;rw[rH,show Fw.wr (a0+Fw.ins s 0 0 r0)=Fw.wG s 0 r0 a0 from by unfold Fw.wG;rw[if_pos Oh.out]]at AR;exact Z3
 . have hp':(s.c 1 != 1)=true:=by simpa using hp
   go_wp2;refine bodyPost_ret (v:=.tuple #[]) (by simp[results,Tryz.results70,go_sem]) rfl ⟨rfl,?_,Out.trans' (Out.of_below hW1) hQ λb _ q=>q⟩;rw[show x0=a0 from by rw[<-HX0.out];exact if_neg hp,show x1=a1 from by rw[<-QO.out];exact if_neg hp,aN h5,aN h6];exact AR
end
def Qi(W:World)(P:Nat->Prop)(A:Option Addr)(l:List Fw.Ld):Prop:=l=[]\/∃b cs,A=some ⟨b,0,none⟩/\P b/\At W b (.cells cs 77)/\∀i (h:i<l.length) j,j<7->cs[i*7+j]? = (eH l[i])[j]?
def CV(W:World)(P:Nat->Prop)(v:Value)(c:List Fw.Ld×Int):Prop:=∃A cap,v=.agg #[.slice A c.1.length cap,.int .i64 c.2]/\Qi W P A c.1
def Kp(Y:sj)(B:Int->Fw.Bx)(F:Int->Nat)(n:Nat)(P:Nat->Prop)(W:World):Prop :=
 P Y.pm/\∃g,GM 75 W Y.pm n g/\∀z a b v,Wf z->Wf a->Wf b->g (klit z a b)=some v->CV W P v (Fw.cont B (F z) z a b)
theorem Qi.out{W W':World}{P P' M:Nat->Prop}{A:Option Addr}{l:List Fw.Ld}(h:Qi W P A l)(k:Out M W W')(hm:∀b,P b->¬ M b)(hp:∀b,P b->P' b):Qi W' P' A l:=by
 rcases h with h|⟨b,cs,e,hb,hA,hc⟩
 . exact .inl h
 . exact .inr ⟨b,cs,e,hp b hb,hA.out (hm b hb) k,hc⟩
theorem CV.out{W W':World}{P P' M:Nat->Prop}{v:Value}{c:List Fw.Ld×Int}(h:CV W P v c)(k:Out M W W')(hm:∀b,P b->¬ M b)(hp:∀b,P b->P' b):CV W' P' v c:=by
 obtain⟨A,cap,e,h⟩:=h;exact⟨A,cap,e,h.out k hm hp⟩
theorem Kp.out{Y:sj}{B:Int->Fw.Bx}{F:Int->Nat}{n:Nat}{P M:Nat->Prop}{W W':World}(h:Kp Y B F n P W)(k:Out M W W')(hm:∀b,P b->¬ M b):Kp Y B F n P W':=by
 obtain⟨hp,g,h1,h2⟩:=h;exact⟨hp,g,h1.out (hm _ hp) k,λz a b v hz ha hb hg=>(h2 z a b v hz ha hb hg).out k hm λ_ q=>q⟩
theorem yR(W:World):(zeroValue 120).run Tryz.prog W=.ok (.agg #[.slice none 0 0,.int .i64 0]) W:=by kernel_rfl
section
variable {Y:sj} {B:Int->Fw.Bx} {D:Int->Prop} {KM:World->Nat->Prop}
theorem IW(hK:∀(X X':World) (b:Nat),KM X b->Below X.heap.size X X'->KM X' b)(z i0 i1:Int)(hz:D z)(w:World)(hR:RO w Y B D KM)(hne:(B z).fl=[]) :
  Calls Tryz.prog 47 #[.pointer (some ⟨Y.lb,0,none⟩),.agg #[.int .i64 z,.int .i64 i0,.int .i64 i1]] w λe w'=>e=.returned (.agg #[.slice none 0 0,.int .i64 ((B z).sty.c 54)])/\Below w.heap.size w w':=by
 obtain⟨hbx,hks,_⟩:=hR.box z hz;obtain⟨es0,RG,hpm⟩:=hR.EO;have hbig:Below w.heap.size w ((w.alloc (.cells #[.int .i64 z,.int .i64 i0,.int .i64 i1] 75)).alloc (.cells #[.slice none 0 0,.int .i64 0] 120)):=Below.alloc' (Below.alloc' aF _) _;have hL:=λX (hb:Below ((w.alloc (.cells #[.int .i64 z,.int .i64 i0,.int .i64 i1] 75)).alloc (.cells #[.slice none 0 0,.int .i64 0] 120)).heap.size ((w.alloc (.cells #[.int .i64 z,.int .i64 i0,.int .i64 i1] 75)).alloc (.cells #[.slice none 0 0,.int .i64 0] 120)) X)=>(hR.keep hK (Below.after hbig hb)).look hz;have HR:=ah hR;have A0:At ((w.alloc (.cells #[.int .i64 z,.int .i64 i0,.int .i64 i1] 75)).alloc (.cells #[.slice none 0 0,.int .i64 0] 120)) w.heap.size (.cells #[.int .i64 z,.int .i64 i0,.int .i64 i1] 75):=At.alloc (At.new _ _) _;have A1:At ((w.alloc (.cells #[.int .i64 z,.int .i64 i0,.int .i64 i1] 75)).alloc (.cells #[.slice none 0 0,.int .i64 0] 120)) (w.heap.size+1) (.cells #[.slice none 0 0,.int .i64 0] 120):=At.new' _ EM;have A2:=hbx.keep hbig;have AL:=hR.lay.keep hbig;have hB:=hbig;obtain⟨s,hs⟩:=aA ((B z).sty);obtain⟨fl,hfl⟩:=aA ((B z).fl);rw[hs]at A2;rw[hfl]at hks;obtain⟨A,cp,hvf,hI,hle,hmx,hAn⟩:=hks.ints;rw[hvf]at A2;generalize Y.va z=va at A2;generalize hib:(B z).ib=ib at A2;generalize hbz:Y.bl z=bz at *;have HS:=ah hs;have F5:=ah hfl;have qE:=ah hbx;clear hbx hR hks hs hfl hvf hib;go_enter Tryz.func47,Tryz.ntmps47
 go_upto_region 1 with(fail)
 generalize (w.alloc (.cells #[.int .i64 z,.int .i64 i0,.int .i64 i1] 75)).alloc (.cells #[.slice none 0 0,.int .i64 0] 120)=W0 at *;obtain⟨l0,aB,aC,bH⟩:=At.three A0;have BJ:=AL.lt;have Fu:W0.cell? ⟨Y.lb,2,none⟩=some (.map (some Y.bm)):=AL.cell 2;refine xW ?_
 (repeat (first|refine nW ?_ | refine nX ?_ (hc:=by intro w2 hS;first|with_reducible exact nR hS (jm _))|refine nY ?_))
 refine ak.cK ?_;intro w2 hS;replace A0:=At.keep A0 hS;replace A1:=At.keep A1 hS;replace A2:=At.keep A2 hS;replace AL:=At.keep AL hS;replace hB:=Below.ay hB aD hS;clear hS hL Fu BJ l0 aB aC bH hbig;have qD:w2.cell? ⟨bz,71,none⟩=some (.slice A fl.length cp):=aL.ext A2 16;have l2:=A2.lt;have c54:w2.cell? ⟨bz,54,none⟩=some (.int .i64 (s.c 54)):=aL.int A2 54 aH rfl;have l1:=A1.lt;have aP:w2.cell? ⟨w.heap.size+1,0,none⟩=some (.slice none 0 0):=A1.cell 0;have aQ:w2.cell? ⟨w.heap.size+1,1,none⟩=some (.int .i64 0):=A1.cell 1;have fO:=A1.thaw 0;have fP:=A1.thaw 1;have hlz:((fl.length:Int)==0)=true:=by rw[<-F5.out,hne];rfl
 have RU:∀X,(Instr.build 120 #[(1,.int .i64 (s.c 54))]).run Tryz.prog X=.ok (.agg #[.slice none 0 0,.int .i64 (s.c 54)]) X:=λ_=>by kernel_rfl
 go_wp2;refine bodyPost_ret (v:=.agg #[.slice none 0 0,.int .i64 (s.c 54)]) Z4y rfl ⟨by rw[HS.out],?_⟩;exact Z5
theorem IX(hK:∀(X X':World) (b:Nat),KM X b->Below X.heap.size X X'->KM X' b)(z i0 i1:Int)(hz:D z)(w:World)(hR:RO w Y B D KM)(n:Nat)(h0:Wf i0)(h1:Wf i1)(hne:(B z).fl≠[])
  (g:Lit->Option Value) (hg:GM 75 w Y.pm n g) (Av:Option Addr) (lv cv:Nat) (hv:Int) (hgv:g (klit z i0 i1)=some (.agg #[.slice Av lv cv,.int .i64 hv])) :
  Calls Tryz.prog 47 #[.pointer (some ⟨Y.lb,0,none⟩),.agg #[.int .i64 z,.int .i64 i0,.int .i64 i1]] w λe w'=>e=.returned (.agg #[.slice Av lv cv,.int .i64 hv])/\Below w.heap.size w w':=by
 obtain⟨hbx,hks,_⟩:=hR.box z hz;obtain⟨es0,RG,hpm⟩:=hR.EO;have hbig:Below w.heap.size w ((w.alloc (.cells #[.int .i64 z,.int .i64 i0,.int .i64 i1] 75)).alloc (.cells #[.slice none 0 0,.int .i64 0] 120)):=Below.alloc' (Below.alloc' aF _) _;have hL:=λX (hb:Below ((w.alloc (.cells #[.int .i64 z,.int .i64 i0,.int .i64 i1] 75)).alloc (.cells #[.slice none 0 0,.int .i64 0] 120)).heap.size ((w.alloc (.cells #[.int .i64 z,.int .i64 i0,.int .i64 i1] 75)).alloc (.cells #[.slice none 0 0,.int .i64 0] 120)) X)=>(hR.keep hK (Below.after hbig hb)).look hz;have HR:=ah hR;have A0:At ((w.alloc (.cells #[.int .i64 z,.int .i64 i0,.int .i64 i1] 75)).alloc (.cells #[.slice none 0 0,.int .i64 0] 120)) w.heap.size (.cells #[.int .i64 z,.int .i64 i0,.int .i64 i1] 75):=At.alloc (At.new _ _) _;have A1:At ((w.alloc (.cells #[.int .i64 z,.int .i64 i0,.int .i64 i1] 75)).alloc (.cells #[.slice none 0 0,.int .i64 0] 120)) (w.heap.size+1) (.cells #[.slice none 0 0,.int .i64 0] 120):=At.new' _ EM;have A2:=hbx.keep hbig;have AL:=hR.lay.keep hbig;have hB:=hbig;obtain⟨s,hs⟩:=aA ((B z).sty);obtain⟨fl,hfl⟩:=aA ((B z).fl);rw[hs]at A2;rw[hfl]at hks;obtain⟨A,cp,hvf,hI,hle,hmx,hAn⟩:=hks.ints;rw[hvf]at A2;generalize Y.va z=va at A2;generalize hib:(B z).ib=ib at A2;generalize hbz:Y.bl z=bz at *;have HS:=ah hs;have F5:=ah hfl;have qE:=ah hbx;clear hbx hR hks hs hfl hvf hib;go_enter Tryz.func47,Tryz.ntmps47
 go_upto_region 1 with(fail)
 generalize (w.alloc (.cells #[.int .i64 z,.int .i64 i0,.int .i64 i1] 75)).alloc (.cells #[.slice none 0 0,.int .i64 0] 120)=W0 at *;obtain⟨l0,aB,aC,bH⟩:=At.three A0;have BJ:=AL.lt;have Fu:W0.cell? ⟨Y.lb,2,none⟩=some (.map (some Y.bm)):=AL.cell 2;refine xW ?_
 (repeat (first|refine nW ?_ | refine nX ?_ (hc:=by intro w2 hS;first|with_reducible exact nR hS (jm _))|refine nY ?_))
 refine ak.cK ?_;intro w2 hS;replace A0:=At.keep A0 hS;replace A1:=At.keep A1 hS;replace A2:=At.keep A2 hS;replace AL:=At.keep AL hS;replace hB:=Below.ay hB aD hS;clear hS hL Fu BJ l0 aB aC bH hbig;have qD:w2.cell? ⟨bz,71,none⟩=some (.slice A fl.length cp):=aL.ext A2 16;have l2:=A2.lt;have c54:w2.cell? ⟨bz,54,none⟩=some (.int .i64 (s.c 54)):=aL.int A2 54 aH rfl;have l1:=A1.lt;have aP:w2.cell? ⟨w.heap.size+1,0,none⟩=some (.slice none 0 0):=A1.cell 0;have aQ:w2.cell? ⟨w.heap.size+1,1,none⟩=some (.int .i64 0):=A1.cell 1;have fO:=A1.thaw 0;have fP:=A1.thaw 1;have hlz:((fl.length:Int)==0)=false:=by rw[<-F5.out];simp;exact hne
 go_upto_region 4 with(fail)
 obtain⟨l0,aB,aC,bH⟩:=At.three A0;have BJ:=AL.lt;have ly4:w2.cell? ⟨Y.lb,4,none⟩=some (.map (some Y.pm)):=AL.cell 4;have hzf:=HR.out.wf z hz;have hKL:=λX (hb:Below w2.heap.size w2 X)=>(hg.keep (Below.ay hB aD hb)).look_ok Cq Tryz.underlying81 (yR X) (Le hzf h0 h1);simp only[hgv,Option.getD_some,Option.isSome_some,Oc]at hKL;have hS0:Below w2.heap.size w2 w2.drew:=Below.drew aF;refine lF (S:=λX=>Below w2.heap.size w2 X) 12 ?_ ?_
 . exact hS0
 intro hS1;clear hS0;refine aM 0 ?_;refine aM 1 ?_;refine aM 2 ?_;refine aM 3 ?_;refine aM 4 ?_;refine aM 5 ?_;refine aM 6 ?_;refine aM 7 ?_;refine aM 8 ?_;refine tk1 9 ?_;refine ak.Step.value dV ?_;have AN:At (w2.alloc (.cells #[.slice none 0 0,.int .i64 0] 120)).drew w2.heap.size (.cells #[.slice none 0 0,.int .i64 0] 120):=At.drew (At.new _ _);have hS2:Below w2.heap.size w2 (w2.alloc (.cells #[.slice none 0 0,.int .i64 0] 120)).drew:=Below.drew (Below.alloc' aF _);have A1':=At.keep A1 hS2;have l1w:=l1;refine⟨λ_=>hS2,?_⟩
 (try simp only[bL,bM,bN,tks])
 generalize (w2.alloc (.cells #[.slice none 0 0,.int .i64 0] 120)).drew=w3 at *;obtain⟨ln,cn0,cn1⟩:=At.two AN;have zn0:=AN.thaw 0;have zn1:=AN.thaw 1;clear aP aQ fO fP l1;refine tk1 10 ?_;refine ak.Step.skip dV ?_;have uN:Below w2.heap.size w2 ((w3.setCell ⟨w2.heap.size,0,none⟩ (.slice Av lv cv)).setCell ⟨w2.heap.size,1,none⟩ (.int .i64 hv)):=Below.setCell (Below.setCell hS2 eZ _) eZ _;have AN2:=At.set (At.set AN 0 (.slice Av lv cv)) 1 (.int .i64 hv);replace A1':=At.off (At.off A1' (n:=w2.heap.size) aj 0 (.slice Av lv cv)) (n:=w2.heap.size) aj 1 (.int .i64 hv);refine⟨λ_=>uN,?_⟩
 (try simp only[Act.put])
 generalize (w3.setCell ⟨w2.heap.size,0,none⟩ (.slice Av lv cv)).setCell ⟨w2.heap.size,1,none⟩ (.int .i64 hv)=w4 at *;clear hS2 AN ln cn0 cn1 zn0 zn1 hS1;refine aM 11 ?_;refine ko ?_;replace hB:=Below.ay hB aD uN;clear uN;obtain⟨ln,cn0,cn1⟩:=At.two (x:=.slice Av lv cv) (y:=.int .i64 hv) AN2;obtain⟨l1,aP,aQ⟩:=At.two A1';have fO:=At.thaw A1' 0;have fP:=At.thaw A1' 1;clear qD l2 c54 l0 aB aC bH BJ ly4;go_wp2;refine bodyPost_ret (v:=.agg #[.slice Av lv cv,.int .i64 hv]) Z4y rfl ⟨rfl,?_⟩;exact Z5
end
theorem GM.put{k t e:TypeId}{W:World}{b n:Nat}{g:Lit->Option Value}(h:GM k W b n g)(K:Maps.Keyed Tryz.prog k)(ht:Tryz.prog.underlying t=some (.map k e))(hn:n<maxLen){key v:Value}{kl:Lit}(hkey:keyOf Tryz.prog k key=some kl) :
  ∃W' n',n'<=n+1/\(Instr.mapUpdate t (.map (some b)) key v).run Tryz.prog W=.ok () W'/\GM k W' b n' (xM g kl v)/\Out (λx=>x=b) W W':=by
 obtain⟨D,h1,h2,h3⟩:=h;obtain⟨W',hr,ho,ht⟩:=h1.store K ht hn hkey (val:=v) rfl;have hle:=ho.size_le;refine⟨W',Maps.size (D.put kl (.held v)),hle,hr,⟨_,Vp ho,rfl,λy hy => ?_⟩,Out.turned ht⟩;exact Z2b
section
variable {Y:sj} {B:Int->Fw.Bx} {D:Int->Prop} {KM:World->Nat->Prop}
theorem RO.fresh(qR:∀(X X':World) (b:Nat),KM X b->Out (λq=>q≠b) X X'->KM X' b){W W':World}(h:RO W Y B D KM)(hkm:Y.km<W.heap.size)(k:Out (λb=>b=Y.pm\/W.heap.size<=b) W W')(hp:∃es ck,At W' Y.pm (.map es ck)):RO W' Y B D KM:=by
 obtain⟨es0,RG,hpm⟩:=h.EO
 have cell:∀{b:Nat} {cs:Array Value} {T:TypeId},At W b (.cells cs T)->¬ (b=Y.pm\/W.heap.size<=b):=λ{b cs T} ha q=>by
  rcases q with rfl|q
  . have:=At.uniq ha hpm;cases this
  . exact absurd ha.lt aj
 have ks:∀{v:Value} {l:List Int},KS W v l->KS W' v l:=λ{v l} hk=>hk.out (λg hg q=>by
  obtain⟨cur,ha⟩:=hk.rowAt hg
  exact cell ha q) k
 refine⟨h.lay.out (cell h.lay) k,?_,λz hz => ?_,?_,h.wf,hp,h.pmb,h.pmk,h.pmr⟩
 . obtain⟨n,g,h1,h2⟩:=h.boxes
   exact⟨n,g,h1.out (λq=>by rcases q with q|q;exact h.pmb q.symm;exact absurd h1.lt aj) k,h2⟩
 . obtain⟨h1,h2,h3⟩:=h.box z hz
   exact⟨At.out h1 (cell h1) k,ks h2,ks h3⟩
 . refine qR _ _ _ h.kinds ⟨k.1,λb hb hn => ?_⟩
   have hb':b=Y.km:=Classical.byContradiction hn;subst hb';exact k.2 _ hb (λq=>by rcases q with q|q;exact h.pmk q.symm;omega)
end
def oV(cs:Array Value)(l:List Fw.Ld):Prop:=l.length*7<=cs.size/\∀i (h:i<l.length) j,j<7->cs[i*7+j]? = (eH l[i])[j]?
theorem oV.step{cs:Array Value}{l:List Fw.Ld}(h:oV cs l){k:Nat}(hk:k<l.length)(x0 x1:Int) :
  oV ((cs.setIfInBounds (k*7+5) (.int .i64 x0)).setIfInBounds (k*7+6) (.int .i64 x1)) (l.set k { l[k]with a0:=x0,a1:=x1 }):=by
 refine⟨by simpa using h.1,λi hi j hj => ?_⟩;have hi':i<l.length:=by simpa using hi
 have hs:=h.1;simp only[Array.getElem?_setIfInBounds,Array.size_setIfInBounds,List.getElem_set];by_cases e:k=i
 . subst e
   rw[if_pos rfl];have h0:=h.2 k hi' j hj;by_cases e6:k*7+6=k*7+j
   . obtain rfl:j=6:=by omega
     rw[if_pos rfl,if_pos aj];rfl
   . rw[if_neg e6]
     by_cases e5:k*7+5=k*7+j
     . obtain rfl:j=5:=by omega
       rw[if_pos rfl,if_pos aj];rfl
     . rw[if_neg e5,h0]
       rcases(show j=0\/j=1\/j=2\/j=3\/j=4 by omega)with rfl|rfl|rfl|rfl|rfl<;>rfl
 . rw[if_neg e,if_neg aj,if_neg aj]
   exact h.2 i hi' j hj
def Oi(f:Fw.Ld->Fw.Ld)(l:List Fw.Ld)(k:Nat):List Fw.Ld:=(l.take k).map f++l.drop k
theorem VF(f:Fw.Ld->Fw.Ld)(l:List Fw.Ld):Oi f l 0=l:=by simp[Oi]
theorem aao(f:Fw.Ld->Fw.Ld)(l:List Fw.Ld):Oi f l l.length=l.map f:=by simp[Oi]
theorem DX(f:Fw.Ld->Fw.Ld)(l:List Fw.Ld)(k:Nat):(Oi f l k).length=l.length:=by simp[Oi];omega
theorem aap(f:Fw.Ld->Fw.Ld)(l:List Fw.Ld){k:Nat}(hk:k<l.length):(Oi f l k)[k]'(by rw[DX];exact hk)=l[k]:=by
 simp only[Oi];rw[List.getElem_append_right jM];simp only[List.length_map,List.length_take,List.getElem_drop];congr 1;omega
theorem VG(f:Fw.Ld->Fw.Ld)(l:List Fw.Ld){k:Nat}(hk:k<l.length):(Oi f l k).set k (f l[k])=Oi f l (k+1):=by
 apply List.ext_getElem
 . simp[Oi];omega
 . intro i h1 h2
   simp only[Oi,List.getElem_set,List.getElem_append,List.length_map,List.length_take,List.getElem_map,List.getElem_take,List.getElem_drop];by_cases e:k=i
   . subst e;rw[if_pos rfl,dif_pos aj]
   . rw[if_neg e]
     by_cases hl:i<k
     . rw[dif_pos aj,dif_pos aj]
     . rw[dif_neg aj,dif_neg aj]
       congr 1;omega
end Go.Proofs.YtmidaiklolmkcaaGreat.Fix
