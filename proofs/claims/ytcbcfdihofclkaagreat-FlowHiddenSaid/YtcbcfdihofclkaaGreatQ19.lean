/- Proved here: what functions of the program do, in plain numbers (part 19); no conditions but those in sight. -/
import Derived.Test.YtcbcfdihofclkaaGreatQK
import Derived.Test.YtcbcfdihofclkaaGreatQ17
import Derived.Test.YtcbcfdihofclkaaGreatQ18
set_option linter.unusedVariables false
set_option linter.unusedSimpArgs false
set_option linter.unusedSectionVars false
set_option maxRecDepth 100000
namespace Go.Proofs.YtcbcfdihofclkaaGreat.Fix
open Go.ChangeShapes Go.WideShapes Go.ChangeAt Go.RowKit
theorem YW{T:TypeId}{n:Nat}(hi:∀W,(isAgg T).run Tryz.prog W=.ok true W)(hz:∀W,(sizeOf T).run Tryz.prog W=.ok n W){W:World}{R q:Nat}{vs:Array Value}(hs:vs.size=n)(h:∀j,j<n->W.cell? ⟨R,q+j,none⟩=vs[j]?) :
  (Instr.loadAt T (.pointer (some ⟨R,q,none⟩))).run Tryz.prog W=.ok (.agg vs) W:=by
 have hl:=run_loadCells_list (P:=Tryz.prog) W ⟨R,q,none⟩ vs.toList (λj v hj=>by
  have hj':j<n:=by have:=(List.getElem?_eq_some_iff.1 hj).1;simpa[hs]using this
  rw[addr_add,h j hj'];rw[Array.getElem?_toList]at hj
  exact hj)
 rw[Array.length_toList,hs]at hl;simp only[Instr.loadAt,Instr.sureAddr,loadVar,Sem.run_bind,Sem.run_pure,hi W,hz W,hl,Result.andThen_ok,if_true]
def splice(cs:Array Value)(q:Nat)(vs:Array Value):Array Value:=(cs.toList.take q++vs.toList++cs.toList.drop (q+vs.size)).toArray
theorem je{cs vs:Array Value}{q:Nat}(h:q+vs.size<=cs.size):(splice cs q vs).size=cs.size:=by
 simp[splice];omega
theorem nW{cs vs:Array Value}{q j:Nat}(h:q+vs.size<=cs.size)(hj:j<vs.size):(splice cs q vs)[q+j]? = vs[j]? := by
 unfold splice;rw[List.getElem?_toArray,List.append_assoc,List.getElem?_append_right jH,List.getElem?_append_left jH];have e:q+j-(cs.toList.take q).length=j:=by simp;omega
 rw[e,Array.getElem?_toList]
theorem iP{cs vs:Array Value}{q k:Nat}(h:q+vs.size<=cs.size)(hk:k<q\/q+vs.size<=k):(splice cs q vs)[k]? = cs[k]? := by
 unfold splice;rw[List.getElem?_toArray];rcases hk with hk|hk
 . rw[List.append_assoc,List.getElem?_append_left jH,List.getElem?_take,if_pos hk,Array.getElem?_toList]
 . rw[List.getElem?_append_right jH,List.getElem?_drop,Array.getElem?_toList]
   congr 1;simp;omega
theorem UW{T:TypeId}{n:Nat}(hz:∀W,(sizeOf T).run Tryz.prog W=.ok n W){W:World}{R q:Nat}{cs vs:Array Value}{T':TypeId}(hA:At W R (.cells cs T'))(hs:vs.size=n)(hf:q+n<=cs.size)(h1:∀v∈vs.toList,v.oneCell'=true) :
  (Instr.storeAt T (.pointer (some ⟨R,q,none⟩)) (.agg vs)).run Tryz.prog W=.ok () (W.setRow R (splice cs q vs)):=by
 have hl:=run_storeCells_at (P:=Tryz.prog) R q T' vs.toList 0 cs W hA jH h1;simp only[Nat.add_zero,Array.length_toList]at hl;have hv:(storeVar T ⟨R,q,none⟩ (.agg vs)).run Tryz.prog W=.ok () (W.setRow R (splice cs q vs)):=by
  simp[storeVar,hz W,Value.cells,hs];simpa[splice,hs]using hl
 simp only[Instr.storeAt,Instr.sureAddr,Sem.run_bind,Sem.run_pure,Result.andThen_ok,hv]
section
variable {ops:Array Oper} {rest:List Oper} {o:Oper} {a:Act} {w w':World} {Q:Exit->Act->World->Prop}
theorem nC{T:TypeId}{n:Nat}(hi:∀W,(isAgg T).run Tryz.prog W=.ok true W)(hz:∀W,(sizeOf T).run Tryz.prog W=.ok n W)(p:Operand)(ho:o.op=.load T p){R q:Nat}(hp:a.eval p=.pointer (some ⟨R,q,none⟩)){vs:Array Value}(hs:vs.size=n)(h:∀j,j<n->w.cell? ⟨R,q+j,none⟩=vs[j]?):(execOp a.eval o).run Tryz.prog w=.ok (.value (.agg vs)) w:=by
 unfold execOp;simp only[ho,hp,Sem.run_bind,YW hi hz hs h,Result.andThen_ok,Sem.run_pure]
theorem eZ{T:TypeId}{n:Nat}(hz:∀W,(sizeOf T).run Tryz.prog W=.ok n W)(p x:Operand)(ho:o.op=.store T p x){R q:Nat}(hp:a.eval p=.pointer (some ⟨R,q,none⟩)){cs vs:Array Value}{T':TypeId}(hx:a.eval x=.agg vs)(hA:At w R (.cells cs T'))(hs:vs.size=n)(hf:q+n<=cs.size)(h1:∀v∈vs.toList,v.oneCell'=true):(execOp a.eval o).run Tryz.prog w=.ok .skip (w.setRow R (splice cs q vs)):=by
 unfold execOp;simp only[ho,hp,hx,Sem.run_bind,UW hz hA hs hf h1,Result.andThen_ok,Sem.run_pure]
theorem eP{T:TypeId}{n:Nat}(hi:∀W,(isAgg T).run Tryz.prog W=.ok true W)(hz:∀W,(sizeOf T).run Tryz.prog W=.ok n W)(hw:Region.wanted o (yielded ops a.tmps)=true)(p:Operand)(ho:o.op=.load T p){R q:Nat}(hp:a.eval p=.pointer (some ⟨R,q,none⟩)){vs:Array Value}(hs:vs.size=n)(h:∀j,j<n->w.cell? ⟨R,q+j,none⟩=vs[j]?)
 (hk:wpList Tryz.prog ops Q rest (a.put o.dst (.agg vs)) w):wpList Tryz.prog ops Q (o::rest) a w:=dY hw (nC hi hz p ho hp hs h) hk
theorem jk{T:TypeId}{n:Nat}(hz:∀W,(sizeOf T).run Tryz.prog W=.ok n W)(hw:Region.wanted o (yielded ops a.tmps)=true)(p x:Operand)(ho:o.op=.store T p x){R q:Nat}(hp:a.eval p=.pointer (some ⟨R,q,none⟩)){cs vs:Array Value}{T':TypeId}(hx:a.eval x=.agg vs)(hA:At w R (.cells cs T'))(hs:vs.size=n)(hf:q+n<=cs.size)(h1:∀v∈vs.toList,v.oneCell'=true)
 (hk:wpList Tryz.prog ops Q rest (a.put o.dst undef) (w.setRow R (splice cs q vs))):wpList Tryz.prog ops Q (o::rest) a w:=oD hw (eZ hz p x ho hp hx hA hs hf h1) hk
end
theorem UY(W:World):(isAgg 283).run Tryz.prog W=.ok true W:=by kernel_rfl
theorem NJ(W:World):(sizeOf 283).run Tryz.prog W=.ok 17 W:=by kernel_rfl
theorem zH(W:World):(isAgg 114).run Tryz.prog W=.ok true W:=by kernel_rfl
theorem nU(W:World):(sizeOf 114).run Tryz.prog W=.ok 7 W:=by kernel_rfl
theorem UZ(W:World):(isAgg 281).run Tryz.prog W=.ok true W:=by kernel_rfl
theorem zI(W:World):(sizeOf 281).run Tryz.prog W=.ok 5 W:=by kernel_rfl
theorem abJ(W:World):(sizeOf 108).run Tryz.prog W=.ok 2 W:=by kernel_rfl
theorem rW(x:Im):(nJ x).size=17:=rfl
theorem dw(x:Fw.Ld):(eF x).size=7:=rfl
theorem iC(x:Fe.It):(wz x).size=5:=rfl
theorem o8(x:Fw.Ld):∀v∈(eF x).toList,v.oneCell'=true:=by simp[eF,Value.oneCell']
theorem Cc(x:Fe.It):∀v∈(wz x).toList,v.oneCell'=true:=by simp[wz,Value.oneCell']
def fu(cs:Array Value)(q:Nat)(xs:List Im):Prop:=q+xs.length*17<=cs.size/\∀i (h:i<xs.length) j,j<17->cs[q+i*17+j]? = (nJ xs[i])[j]?
def jV(q m:Nat)(cs cs':Array Value):Prop:=cs'.size=cs.size/\∀k,k<q\/q+m*17<=k->cs'[k]? = cs[k]?
theorem jV.refl(q m:Nat)(cs:Array Value):jV q m cs cs:=⟨rfl,λ_ _=>rfl⟩
theorem jV.trans{q m:Nat}{cs cs' cs'':Array Value}(h:jV q m cs cs')(k:jV q m cs' cs''):jV q m cs cs'':=⟨k.1.trans h.1,λi hi=>(k.2 i hi).trans (h.2 i hi)⟩
theorem fu.put{cs vs:Array Value}{q i o:Nat}{xs:List Im}(h:fu cs q xs)(hi:i<xs.length)(y:Im)(ho:o+vs.size<=17)(h1:∀j,j<vs.size->(nJ y)[o+j]? = vs[j]?)(h2:∀j,j<17->(j<o\/o+vs.size<=j)->(nJ y)[j]? = (nJ xs[i])[j]?) :
  fu (splice cs (q+i*17+o) vs) q (xs.set i y)/\jV q xs.length cs (splice cs (q+i*17+o) vs):=by
 have hb:i*17+17<=xs.length*17:=by omega
 have hf:q+i*17+o+vs.size<=cs.size:=by have:=h.1;omega
 refine⟨⟨by rw[je hf,List.length_set];exact h.1,λk hk j hj => ?_⟩,je hf,λk hk=>iP hf ak⟩;have hk2:k<xs.length:=by simpa using hk
 by_cases e:k=i
 . subst e
   rw[List.getElem_set_self];by_cases hin:o<=j/\j<o+vs.size
   . obtain⟨d,rfl⟩:∃d,j=o+d:=⟨j-o,by omega⟩
     rw[show q+k*17+(o+d)=q+k*17+o+d by omega,nW hf ak,h1 d ak]
   . rw[iP hf ak,h2 j hj ak]
     exact h.2 k hk2 j hj
 . rw[List.getElem_set_ne (λq=>e q.symm),iP hf ak]
   exact h.2 k hk2 j hj
theorem fu.PK{cs:Array Value}{q i:Nat}{xs:List Im}(h:fu cs q xs)(hi:i<xs.length)(l:Fw.Ld):fu (splice cs (q+i*17+5) (eF l)) q (xs.set i { xs[i]with ld:=l })/\jV q xs.length cs (splice cs (q+i*17+5) (eF l)):=by
 refine h.put (o:=5) (vs:=eF l) hi _ (by simp[dw]) (λj hj => ?_) (λj hj hk => ?_)
 . rw[dw]at hj
   exact Z2r
 . rw[dw]at hk
   rcases(by omega:j=0\/j=1\/j=2\/j=3\/j=4\/j=12\/j=13\/j=14\/j=15\/j=16)with rfl|rfl|rfl|rfl|rfl|rfl|rfl|rfl|rfl|rfl<;>rfl
theorem fu.aaZ{cs:Array Value}{q i:Nat}{xs:List Im}(h:fu cs q xs)(hi:i<xs.length)(t:Fe.It):fu (splice cs (q+i*17+0) (wz t)) q (xs.set i { xs[i]with it:=t })/\jV q xs.length cs (splice cs (q+i*17+0) (wz t)):=by
 refine h.put (o:=0) (vs:=wz t) hi _ (by simp[iC]) (λj hj => ?_) (λj hj hk => ?_)
 . rw[iC]at hj
   exact Z3e
 . rw[iC]at hk
   rcases(by omega:j=5\/j=6\/j=7\/j=8\/j=9\/j=10\/j=11\/j=12\/j=13\/j=14\/j=15\/j=16)with rfl|rfl|rfl|rfl|rfl|rfl|rfl|rfl|rfl|rfl|rfl|rfl<;>rfl
theorem fu.putAt{cs:Array Value}{q i:Nat}{xs:List Im}(h:fu cs q xs)(hi:i<xs.length)(a b:Int):fu (splice cs (q+i*17+10) #[.int .i64 a,.int .i64 b]) q (xs.set i { xs[i]with ld:={ xs[i].ld with a0:=a,a1:=b } })/\jV q xs.length cs (splice cs (q+i*17+10) #[.int .i64 a,.int .i64 b]):=by
 refine h.put (o:=10) (vs:=#[.int .i64 a,.int .i64 b]) hi _ eY (λj hj => ?_) (λj hj hk => ?_)
 . have hj:j<2:=hj
   rcases(by omega:j=0\/j=1)with rfl|rfl<;>rfl
 . have hk:j<10\/12<=j:=hk
   rcases(by omega:j=0\/j=1\/j=2\/j=3\/j=4\/j=5\/j=6\/j=7\/j=8\/j=9\/j=12\/j=13\/j=14\/j=15\/j=16)with rfl|rfl|rfl|rfl|rfl|rfl|rfl|rfl|rfl|rfl|rfl|rfl|rfl|rfl|rfl<;>rfl
def qU(W:World)(R q:Nat)(x:Im):Prop:=∀j,j<17->W.cell? ⟨R,q+j,none⟩=(nJ x)[j]?
theorem qU.keep{W W':World}{B R q:Nat}{x:Im}(h:qU W R q x)(hb:Below B W W')(hl:R<B):qU W' R q x:=λj hj=>(hb.cell (p:=⟨R,q+j,none⟩) hl).trans (h j hj)
theorem qU.out{M:Nat->Prop}{W W':World}{R q:Nat}{x:Im}(h:qU W R q x)(k:Out M W W')(hl:R<W.heap.size)(hm:¬ M R):qU W' R q x:=λj hj=>(Out.cell k (q+j) hl hm).trans (h j hj)
theorem fu.at_{W:World}{R q i:Nat}{cs:Array Value}{xs:List Im}(h:fu cs q xs)(hA:At W R (.cells cs 283))(hi:i<xs.length):qU W R (q+i*17) xs[i]:=λj hj=>by rw[hA.cell];exact h.2 i hi j hj
def Iq(W:World)(A:Option Addr)(xs:List Im):Prop:=xs≠[]->∃R q,A=some ⟨R,q,none⟩/\R<W.heap.size/\∀i (h:i<xs.length),qU W R (q+i*17) xs[i]
theorem Iq.after{W W':World}{A:Option Addr}{xs:List Im}(h:Iq W A xs)(hb:Below W.heap.size W W'):Iq W' A xs:=λhn=>by
 obtain⟨R,q,e,hl,hc⟩:=h hn;exact⟨R,q,e,aR hl hb.size,λi hi=>(hc i hi).keep hb hl⟩
theorem Iq.out{M:Nat->Prop}{W W':World}{A:Option Addr}{xs:List Im}(h:Iq W A xs)(k:Out M W W')(hm:∀R q,A=some ⟨R,q,none⟩->¬ M R):Iq W' A xs:=λhn=>by
 obtain⟨R,q,e,hl,hc⟩:=h hn;exact⟨R,q,e,aR hl k.size,λi hi=>(hc i hi).out k hl (hm R q e)⟩
theorem Iq.at_{W:World}{A:Option Addr}{xs:List Im}(h:Iq W A xs){i:Nat}(hi:i<xs.length):∃R q,A=some ⟨R,q,none⟩/\R<W.heap.size/\qU W R (q+i*17) xs[i]:=by
 obtain⟨R,q,e,hl,hc⟩:=h (λe=>by rw[e]at hi;simp at hi);exact⟨R,q,e,hl,hc i hi⟩
theorem fu.ims{W:World}{R q:Nat}{cs:Array Value}{xs:List Im}(h:fu cs q xs)(hA:At W R (.cells cs 283)):Iq W (some ⟨R,q,none⟩) xs:=λ_=>⟨R,q,rfl,hA.lt,λi hi=>h.at_ hA hi⟩
theorem mF{ops:Array Oper}{rest:List Oper}{o:Oper}{a:Act}{w w':World}{Q:Exit->Act->World->Prop}(hw:Region.wanted o (yielded ops a.tmps)=true)(l c:Operand)(t:TypeId)(ho:o.op=.makeSlice t l c){v:Value}(hrun:(Instr.makeSlice t (a.eval l) (a.eval c)).run Tryz.prog w=.ok v w')
  (h:wpList Tryz.prog ops Q rest (a.put o.dst v) w'):wpList Tryz.prog ops Q (o::rest) a w :=
 dY hw (by unfold execOp;simp only[ho,Sem.run_bind,hrun,Result.andThen_ok,Sem.run_pure]) h
theorem abK:(Tryz.prog.info? 281).map (λi=>(i.zero,i.size,i.bytes))=some (some (.agg #[.int .i64 0,.int .i64 0,.int .i64 0,.int .i64 0,.int .i64 0]),5,40):=by kernel_rfl
theorem abL:(Tryz.prog.info? 283).map (λi=>(i.zero,i.size,i.bytes))=some (some (.agg #[.int .i64 0,.int .i64 0,.int .i64 0,.int .i64 0,.int .i64 0,.int .i64 0,.int .i64 0,.int .i64 0,.int .i64 0,.int .i64 0,.int .i64 0,.int .i64 0,.pointer none,.int .i64 0,.int .i64 0,.int .i64 0,.int .i64 0]),17,136):=by kernel_rfl
theorem NK:(Tryz.prog.info? 114).map (λi=>(i.zero,i.size,i.bytes))=some (some (.agg #[.int .i64 0,.int .i64 0,.int .i64 0,.int .i64 0,.int .i64 0,.int .i64 0,.int .i64 0]),7,56):=by kernel_rfl
theorem PL(w:World)(n:Nat)(hn:n<=100000):∃cs:Array Value,(Instr.makeSlice 352 (.int .i64 (n:Int)) (.int .i64 (n:Int))).run Tryz.prog w=.ok (.slice (some ⟨w.heap.size,0,none⟩) n n) (w.alloc (.cells cs 281))/\cs.size=n*5:=by
 obtain⟨i0,hi0,hz0,hz1,hz2⟩:=info_parts abK;have hrun:=run_make (P:=Tryz.prog) w 352 281 i0 _ Tryz.underlying352 hi0 hz0 .i64 .i64 n n ak (Int.le_refl _) Qr ak;exact Z43
theorem YX(w:World)(n:Nat)(hn:n<=100000):∃cs:Array Value,(Instr.makeSlice 279 (.int .i64 (n:Int)) (.int .i64 (n:Int))).run Tryz.prog w=.ok (.slice (some ⟨w.heap.size,0,none⟩) n n) (w.alloc (.cells cs 283))/\cs.size=n*17:=by
 obtain⟨i0,hi0,hz0,hz1,hz2⟩:=info_parts abL;have hrun:=run_make (P:=Tryz.prog) w 279 283 i0 _ Tryz.underlying279 hi0 hz0 .i64 .i64 n n ak (Int.le_refl _) Qr ak;exact Z43
theorem YZ(w:World)(n:Nat)(hn:n<=100000):∃cs:Array Value,(Instr.makeSlice 196 (.int .i64 (n:Int)) (.int .i64 (n:Int))).run Tryz.prog w=.ok (.slice (some ⟨w.heap.size,0,none⟩) n n) (w.alloc (.cells cs 114))/\cs.size=n*7:=by
 obtain⟨i0,hi0,hz0,hz1,hz2⟩:=info_parts NK;have hrun:=run_make (P:=Tryz.prog) w 196 114 i0 _ Tryz.underlying196 hi0 hz0 .i64 .i64 n n ak (Int.le_refl _) Qr ak;exact Z43
def imz:Array Value:=#[.int .i64 0,.int .i64 0,.int .i64 0,.int .i64 0,.int .i64 0,.int .i64 0,.int .i64 0,.int .i64 0,.int .i64 0,.int .i64 0,.int .i64 0,.int .i64 0,.pointer none,.int .i64 0,.int .i64 0,.int .i64 0,.int .i64 0]
theorem U0(W:World):(Instr.alloc 283 true (.tuple #[])).run Tryz.prog W=.ok (.pointer (some ⟨W.heap.size,0,none⟩)) (W.alloc (.cells imz 283)):=by kernel_rfl
section
variable {ops:Array Oper} {rest:List Oper} {o:Oper} {a:Act} {w w':World} {Q:Exit->Act->World->Prop}
theorem bV(hw:Region.wanted o (yielded ops a.tmps)=true)(ho:o.op=.alloc 283)(h:wpList Tryz.prog ops Q rest (a.put o.dst (.pointer (some ⟨w.heap.size,0,none⟩))) (w.alloc (.cells imz 283))):wpList Tryz.prog ops Q (o::rest) a w :=
 dY hw (by unfold execOp;simp only[ho,Sem.run_bind,U0,Result.andThen_ok,Sem.run_pure]) h
theorem Rc{W:World}{b:Nat}{x:Im}(h:At W b (.cells imz 283)):(Instr.storeAt 283 (.pointer (some ⟨b,0,none⟩)) (.agg (nJ x))).run Tryz.prog W=.ok () (W.setRow b (nJ x)):=by
 have hsz:(Tryz.prog.info? 283).map (·.size)=some (nJ x).size:=by rw[rW];exact KF
 simp only[Instr.storeAt,Instr.sureAddr,Sem.run_bind,Sem.run_pure,Result.andThen_ok,run_storeVar_row W b 283 283 imz (nJ x) h hsz rfl (by simp[nJ,Value.oneCell'])]
theorem bO(hw:Region.wanted o (yielded ops a.tmps)=true)(p y:Operand)(ho:o.op=.store 283 p y){b:Nat}(hp:a.eval p=.pointer (some ⟨b,0,none⟩)){x:Im}(hy:a.eval y=.agg (nJ x))(hs:At w b (.cells imz 283))
  (h:wpList Tryz.prog ops Q rest (a.put o.dst undef) (w.setRow b (nJ x))):wpList Tryz.prog ops Q (o::rest) a w :=
 oD hw (by unfold execOp;simp only[ho,hp,hy,Sem.run_bind,Rc hs,Result.andThen_ok,Sem.run_pure]) h
theorem dn(hw:Region.wanted o (yielded ops a.tmps)=true)(p:Operand)(ho:o.op=.load 283 p){R q:Nat}(hp:a.eval p=.pointer (some ⟨R,q,none⟩)){x:Im}(hs:qU w R q x)(h:wpList Tryz.prog ops Q rest (a.put o.dst (.agg (nJ x))) w):wpList Tryz.prog ops Q (o::rest) a w :=
 eP UY NJ hw p ho hp (rW x) hs h
theorem dX(hw:Region.wanted o (yielded ops a.tmps)=true)(p:Operand)(ho:o.op=.load 283 p){b:Nat}(hp:a.eval p=.pointer (some ⟨b,0,none⟩)){x:Im}(hs:At w b (.cells (nJ x) 283))(h:wpList Tryz.prog ops Q rest (a.put o.dst (.agg (nJ x))) w):wpList Tryz.prog ops Q (o::rest) a w :=
 dY hw (vD p ho hp hs) h
end
theorem cO{N:Nat}{w a:World}(h:Below N w a){b:Nat}(hb:N<=b)(cs:Array Value):Below N w (a.setRow b cs) :=
 ⟨h.os,h.tape,h.output,by simpa[World.setRow]using h.size,λc hc=>by
  have:=h.block c hc;unfold World.setRow;simp only[Array.getElem?_modify];rw[if_neg ak]
  exact this⟩
theorem oJ(y:Int)(w:World):Calls Tryz.prog 234 #[.int .i64 y] w λe w'=>e=.returned (.func (.func 278) #[] #[.pointer (some ⟨w.heap.size,0,none⟩)])/\w'=w.alloc (.cells #[.int .i64 y] 3):=by
 have Jy:∀(fn:Fn) (first cap:Array Value) (w:World),(Instr.makeFunc fn first cap).run Tryz.prog w=.ok (.func fn first cap) w:=λ_ _ _ _=>rfl;go_enter Tryz.func234,Tryz.ntmps234
 go_wp2;exact Eu
theorem KN(y:Int)(w:World):Calls Tryz.prog 230 #[.int .i64 y] w λe w'=>e=.returned (.func (.func 271) #[] #[.pointer (some ⟨w.heap.size,0,none⟩)])/\w'=w.alloc (.cells #[.int .i64 y] 3):=by
 have Jy:∀(fn:Fn) (first cap:Array Value) (w:World),(Instr.makeFunc fn first cap).run Tryz.prog w=.ok (.func fn first cap) w:=λ_ _ _ _=>rfl;go_enter Tryz.func230,Tryz.ntmps230
 go_wp2;exact Eu
set_option maxHeartbeats 4000000 in
theorem U3(caps:Array Value)(v:Nat->Int)(A:Option Addr)(xs:List Im)(c:Nat)(w:World)(hx:Iq w A xs)(hl:xs.length<=10000)
  (hcall:∀i (h:i<xs.length) X,Below w.heap.size w X->Calls Tryz.prog 278 (#[.agg (nJ xs[i])]++caps) X λe X'=>e=.returned (.int .i64 (v i))/\Below X.heap.size X X') :
  Calls Tryz.prog 229 #[.slice A xs.length c,.func (.func 278) #[] caps] w λe w'=>(∃b,e=.returned (.slice (some ⟨b,0,none⟩) xs.length xs.length)/\w.heap.size<=b/\At w' b (.cells (aK v xs.length xs.length) 3))/\Below w.heap.size w w':=by
 obtain⟨i0,hi0,hz0,hz1,hz2⟩:=info_parts intZero;obtain⟨m,hm⟩:∃m,xs.length=m:=⟨_,rfl⟩;rw[hm]at hl ⊢;have HM:=Lib.hid hm;have HX:=Lib.hid hx;have HC:=Lib.hid hcall;clear hx hcall hm;go_enter Tryz.func229,Tryz.ntmps229
 go_wp2_with (at_make;refine wpList_make_row _ rfl _ _ 30 rfl 3 i0 (.int .i64 0) Tryz.underlying30 hi0 hz0 hz1 rfl .i64 .i64 m rfl rfl Qr ak ?_)
 obtain⟨b,hsz⟩:∃b,w.heap.size=b:=⟨_,rfl⟩;have hB1:Below w.heap.size w (w.alloc (.cells (aK v m 0) 3)):=Below.alloc' (Below.refl _ _) _;have A1:At (w.alloc (.cells (aK v m 0) 3)) b (.cells (aK v m 0) 3):=At.new' _ hsz.symm;rw[hsz,jM v];generalize w.alloc (.cells (aK v m 0) 3)=W2 at *
 go_loopw [6,13] (λ_ vi wr=>∃k:Nat,k<=m/\vi=.int .i64 k/\At wr b (.cells (aK v m k) 3)/\Below w.heap.size w wr) (λ_ vi _=>m-(intOf vi).toNat)
 case atStart=>exact⟨0,by omega,rfl,A1,hB1⟩
 case round =>
  clear A1 hB1;obtain⟨k,hk,rfl,A1,hB⟩:=hrel;by_cases hlt:k<m
  . have hltz:(k:Int)<(m:Int):=by omega
    have hkx:k<xs.length:=by rw[HM.out];exact hlt
    obtain⟨R,q,rfl,lR,hI⟩:=(HX.out.after hB).at_ hkx;have key:=HC.out k hkx;generalize xs[k]=x at *
    go_upto_region 5 with(first|(refine dn aU _ rfl rfl (by assumption) ?_)|(refine dX aU _ rfl rfl (by assumption) ?_)|(refine bV aU rfl ?_)|(refine bO aU _ _ rfl rfl rfl za ?_))
    obtain⟨nb,hnb⟩:∃nb,wr.heap.size=nb:=⟨_,rfl⟩;generalize hW:World.setRow _ _ _=W3;have A2:At W3 nb (.cells (nJ x) 283):=hW▸hnb▸At.setRow (At.new _ _) _;have A3:At W3 b (.cells (aK v m k) 3):=hW▸At.mY (A1.alloc _) (by have:=A1.lt;omega) _;have hB3:Below w.heap.size w W3:=hW▸cO (Below.alloc' hB _) hB.size _;rw[hnb];clear hW A1 hI lR hB;have hk3:=key W3 hB3;have Xx:=Lib.hid A3
    go_upto_region 6 with(first|(go_at_call 278;(with_reducible refine hk3.mono ?_);rintro e w4 ⟨rfl,hb4⟩;have A4:=Xx.out.keep hb4;have lb4:=A4.lt;have zb4:=A4.thaw k;have cb4:=A4.cell k;rw[cK _ hlt]at cb4)|(refine dn aU _ rfl rfl (by assumption) ?_)|(refine dX aU _ rfl rfl (by assumption) ?_)|(refine bV aU rfl ?_)|(refine bO aU _ _ rfl rfl rfl za ?_))
    exact Z1e
  . exact Z3o
set_option maxHeartbeats 4000000 in
theorem abM(caps:Array Value)(v:Nat->Int)(A:Option Addr)(xs:List Im)(c:Nat)(w:World)(hx:Iq w A xs)(hl:xs.length<=10000)
  (hcall:∀i (h:i<xs.length) X,Below w.heap.size w X->Calls Tryz.prog 271 (#[.agg (nJ xs[i])]++caps) X λe X'=>e=.returned (.int .i64 (v i))/\Below X.heap.size X X') :
  Calls Tryz.prog 229 #[.slice A xs.length c,.func (.func 271) #[] caps] w λe w'=>(∃b,e=.returned (.slice (some ⟨b,0,none⟩) xs.length xs.length)/\w.heap.size<=b/\At w' b (.cells (aK v xs.length xs.length) 3))/\Below w.heap.size w w':=by
 obtain⟨i0,hi0,hz0,hz1,hz2⟩:=info_parts intZero;obtain⟨m,hm⟩:∃m,xs.length=m:=⟨_,rfl⟩;rw[hm]at hl ⊢;have HM:=Lib.hid hm;have HX:=Lib.hid hx;have HC:=Lib.hid hcall;clear hx hcall hm;go_enter Tryz.func229,Tryz.ntmps229
 go_wp2_with (at_make;refine wpList_make_row _ rfl _ _ 30 rfl 3 i0 (.int .i64 0) Tryz.underlying30 hi0 hz0 hz1 rfl .i64 .i64 m rfl rfl Qr ak ?_)
 obtain⟨b,hsz⟩:∃b,w.heap.size=b:=⟨_,rfl⟩;have hB1:Below w.heap.size w (w.alloc (.cells (aK v m 0) 3)):=Below.alloc' (Below.refl _ _) _;have A1:At (w.alloc (.cells (aK v m 0) 3)) b (.cells (aK v m 0) 3):=At.new' _ hsz.symm;rw[hsz,jM v];generalize w.alloc (.cells (aK v m 0) 3)=W2 at *
 go_loopw [6,13] (λ_ vi wr=>∃k:Nat,k<=m/\vi=.int .i64 k/\At wr b (.cells (aK v m k) 3)/\Below w.heap.size w wr) (λ_ vi _=>m-(intOf vi).toNat)
 case atStart=>exact⟨0,by omega,rfl,A1,hB1⟩
 case round =>
  clear A1 hB1;obtain⟨k,hk,rfl,A1,hB⟩:=hrel;by_cases hlt:k<m
  . have hltz:(k:Int)<(m:Int):=by omega
    have hkx:k<xs.length:=by rw[HM.out];exact hlt
    obtain⟨R,q,rfl,lR,hI⟩:=(HX.out.after hB).at_ hkx;have key:=HC.out k hkx;generalize xs[k]=x at *
    go_upto_region 5 with(first|(refine dn aU _ rfl rfl (by assumption) ?_)|(refine dX aU _ rfl rfl (by assumption) ?_)|(refine bV aU rfl ?_)|(refine bO aU _ _ rfl rfl rfl za ?_))
    obtain⟨nb,hnb⟩:∃nb,wr.heap.size=nb:=⟨_,rfl⟩;generalize hW:World.setRow _ _ _=W3;have A2:At W3 nb (.cells (nJ x) 283):=hW▸hnb▸At.setRow (At.new _ _) _;have A3:At W3 b (.cells (aK v m k) 3):=hW▸At.mY (A1.alloc _) (by have:=A1.lt;omega) _;have hB3:Below w.heap.size w W3:=hW▸cO (Below.alloc' hB _) hB.size _;rw[hnb];clear hW A1 hI lR hB;have hk3:=key W3 hB3;have Xx:=Lib.hid A3
    go_upto_region 6 with(first|(go_at_call 271;(with_reducible refine hk3.mono ?_);rintro e w4 ⟨rfl,hb4⟩;have A4:=Xx.out.keep hb4;have lb4:=A4.lt;have zb4:=A4.thaw k;have cb4:=A4.cell k;rw[cK _ hlt]at cb4)|(refine dn aU _ rfl rfl (by assumption) ?_)|(refine dX aU _ rfl rfl (by assumption) ?_)|(refine bV aU rfl ?_)|(refine bO aU _ _ rfl rfl rfl za ?_))
    exact Z1e
  . exact Z3o
set_option maxHeartbeats 4000000 in
theorem abN(caps:Array Value)(v:Nat->Int)(A:Option Addr)(xs:List Im)(c:Nat)(w:World)(hx:Iq w A xs)(hl:xs.length<=10000)
  (hcall:∀i (h:i<xs.length) X,Below w.heap.size w X->Calls Tryz.prog 277 (#[.agg (nJ xs[i])]++caps) X λe X'=>e=.returned (.int .i64 (v i))/\Below X.heap.size X X') :
  Calls Tryz.prog 229 #[.slice A xs.length c,.func (.func 277) #[] caps] w λe w'=>(∃b,e=.returned (.slice (some ⟨b,0,none⟩) xs.length xs.length)/\w.heap.size<=b/\At w' b (.cells (aK v xs.length xs.length) 3))/\Below w.heap.size w w':=by
 obtain⟨i0,hi0,hz0,hz1,hz2⟩:=info_parts intZero;obtain⟨m,hm⟩:∃m,xs.length=m:=⟨_,rfl⟩;rw[hm]at hl ⊢;have HM:=Lib.hid hm;have HX:=Lib.hid hx;have HC:=Lib.hid hcall;clear hx hcall hm;go_enter Tryz.func229,Tryz.ntmps229
 go_wp2_with (at_make;refine wpList_make_row _ rfl _ _ 30 rfl 3 i0 (.int .i64 0) Tryz.underlying30 hi0 hz0 hz1 rfl .i64 .i64 m rfl rfl Qr ak ?_)
 obtain⟨b,hsz⟩:∃b,w.heap.size=b:=⟨_,rfl⟩;have hB1:Below w.heap.size w (w.alloc (.cells (aK v m 0) 3)):=Below.alloc' (Below.refl _ _) _;have A1:At (w.alloc (.cells (aK v m 0) 3)) b (.cells (aK v m 0) 3):=At.new' _ hsz.symm;rw[hsz,jM v];generalize w.alloc (.cells (aK v m 0) 3)=W2 at *
 go_loopw [6,13] (λ_ vi wr=>∃k:Nat,k<=m/\vi=.int .i64 k/\At wr b (.cells (aK v m k) 3)/\Below w.heap.size w wr) (λ_ vi _=>m-(intOf vi).toNat)
 case atStart=>exact⟨0,by omega,rfl,A1,hB1⟩
 case round =>
  clear A1 hB1;obtain⟨k,hk,rfl,A1,hB⟩:=hrel;by_cases hlt:k<m
  . have hltz:(k:Int)<(m:Int):=by omega
    have hkx:k<xs.length:=by rw[HM.out];exact hlt
    obtain⟨R,q,rfl,lR,hI⟩:=(HX.out.after hB).at_ hkx;have key:=HC.out k hkx;generalize xs[k]=x at *
    go_upto_region 5 with(first|(refine dn aU _ rfl rfl (by assumption) ?_)|(refine dX aU _ rfl rfl (by assumption) ?_)|(refine bV aU rfl ?_)|(refine bO aU _ _ rfl rfl rfl za ?_))
    obtain⟨nb,hnb⟩:∃nb,wr.heap.size=nb:=⟨_,rfl⟩;generalize hW:World.setRow _ _ _=W3;have A2:At W3 nb (.cells (nJ x) 283):=hW▸hnb▸At.setRow (At.new _ _) _;have A3:At W3 b (.cells (aK v m k) 3):=hW▸At.mY (A1.alloc _) (by have:=A1.lt;omega) _;have hB3:Below w.heap.size w W3:=hW▸cO (Below.alloc' hB _) hB.size _;rw[hnb];clear hW A1 hI lR hB;have hk3:=key W3 hB3;have Xx:=Lib.hid A3
    go_upto_region 6 with(first|(go_at_call 277;(with_reducible refine hk3.mono ?_);rintro e w4 ⟨rfl,hb4⟩;have A4:=Xx.out.keep hb4;have lb4:=A4.lt;have zb4:=A4.thaw k;have cb4:=A4.cell k;rw[cK _ hlt]at cb4)|(refine dn aU _ rfl rfl (by assumption) ?_)|(refine dX aU _ rfl rfl (by assumption) ?_)|(refine bV aU rfl ?_)|(refine bO aU _ _ rfl rfl rfl za ?_))
    exact Z1e
  . exact Z3o
def oK(xs:List Im):List Int:=xs.map Ai
def uj(xs:List Im):List Int:=xs.map Ah
def Rf(l:List Int)(k:Nat):Int:=(l.take k).foldl max 0
theorem Rh{l:List Int}{k:Nat}(h:k<l.length):Rf l (k+1)=max (Rf l k) l[k]:=by
 unfold Rf;rw[List.take_succ_eq_append_getElem h,List.foldl_append];rfl
theorem abO(A:Option Addr)(xs:List Im)(c B:Nat)(w:World)(hx:Iq w A xs)(hl:xs.length<=10000)(hB:w.cell? ⟨B,0,none⟩=some (.int .i64 0))(hBl:B<w.heap.size) :
  Calls Tryz.prog 229 #[.slice A xs.length c,.func (.func 278) #[] #[.pointer (some ⟨B,0,none⟩)]] w λe w'=>(∃b,e=.returned (.slice (some ⟨b,0,none⟩) xs.length xs.length)/\w.heap.size<=b/\At w' b (.cells (aK (λi=>(uj xs).getD i 0) xs.length xs.length) 3))/\Below w.heap.size w w' :=
 U3 #[.pointer (some ⟨B,0,none⟩)] (λi=>(uj xs).getD i 0) A xs c w hx hl λi hi X hb=>by
  have h1:X.cell? ⟨B,0,none⟩=some (.int .i64 0):=(hb.cell (p:=⟨B,0,none⟩) hBl).trans hB;have e:(uj xs).getD i 0=Ah xs[i]:=by unfold uj;rw[List.getD,List.getElem?_map,List.getElem?_eq_getElem hi];rfl
  rw[e];exact PE xs[i] B X h1
theorem U4(A:Option Addr)(xs:List Im)(c B:Nat)(w:World)(hx:Iq w A xs)(hl:xs.length<=10000)(hB:w.cell? ⟨B,0,none⟩=some (.int .i64 1))(hBl:B<w.heap.size) :
  Calls Tryz.prog 229 #[.slice A xs.length c,.func (.func 278) #[] #[.pointer (some ⟨B,0,none⟩)]] w λe w'=>(∃b,e=.returned (.slice (some ⟨b,0,none⟩) xs.length xs.length)/\w.heap.size<=b/\At w' b (.cells (aK (λi=>(oK xs).getD i 0) xs.length xs.length) 3))/\Below w.heap.size w w' :=
 U3 #[.pointer (some ⟨B,0,none⟩)] (λi=>(oK xs).getD i 0) A xs c w hx hl λi hi X hb=>by
  have h1:X.cell? ⟨B,0,none⟩=some (.int .i64 1):=(hb.cell (p:=⟨B,0,none⟩) hBl).trans hB;have e:(oK xs).getD i 0=Ai xs[i]:=by unfold oK;rw[List.getD,List.getElem?_map,List.getElem?_eq_getElem hi];rfl
  rw[e];exact PG xs[i] B X h1
set_option maxHeartbeats 4000000 in
theorem U5(A:Option Addr)(xs:List Im)(c:Nat)(w:World)(hx:Iq w A xs)(hl:xs.length<=10000):Calls Tryz.prog 275 #[.slice A xs.length c] w λe w'=>e=.returned (.int .i64 ((oK xs).foldl max 0))/\Below w.heap.size w w':=by
 have hb1:Below w.heap.size w (w.alloc (.cells #[.int .i64 1] 3)):=Below.alloc' (Below.refl _ _) _;have hA1:At (w.alloc (.cells #[.int .i64 1] 3)) w.heap.size (.cells #[.int .i64 1] 3):=At.new _ _;have key:=U4 A xs c w.heap.size _ (hx.after hb1) hl (hA1.cell 0) hA1.lt;obtain⟨l,hL⟩:∃l,oK xs=l:=⟨_,rfl⟩;have hll:l.length=xs.length:=by rw[<-hL];simp[oK]
 rw[hL]at key ⊢;obtain⟨m,hm⟩:∃m,xs.length=m:=⟨_,rfl⟩;rw[hm]at hl key hll ⊢;have Ri:=Lib.hid hll;clear hx hL hm hll;go_enter Tryz.func275,Tryz.ntmps275
 go_wp2_with (first|(go_at_call 234;(with_reducible refine(oJ 1 _).mono ?_);rintro e w1 ⟨rfl,rfl⟩)|(go_at_call 229;(with_reducible refine key.mono ?_);rintro e w2 ⟨⟨b,rfl,hbl,hA⟩,hb2⟩))
 have hB:Below w.heap.size w w2:=hb1.trans (hb2.mono hb1.size);clear key hb1 hb2 hA1
 go_loop [3,10] (λav iv=>∃k:Nat,k<=m/\iv=.int .i64 k/\av=.int .i64 (Rf l k)) (λ_ iv=>m-(intOf iv).toNat)
 case atStart=>exact⟨0,by omega,rfl,rfl⟩
 case round =>
  obtain⟨k,hk,rfl,rfl⟩:=hrel;by_cases hlt:k<m
  . have hltz:(k:Int)<(m:Int):=by omega
    have hkl:k<l.length:=by rw[Ri.out];exact hlt
    have hc:=hA.cell k;rw[cK _ hlt,if_pos hlt,List.getD,List.getElem?_eq_getElem hkl]at hc;simp only[Option.getD_some]at hc;have HT:=Lib.hid (Rh hkl);have lb:=hA.lt;generalize Rf l k=a at *;generalize l[k]=x at *;go_wp2
    go_round
    case rel=>exact⟨k+1,by omega,by go_num,by rw[HT.out]⟩
    case measure=>simp[intOf];omega
  . obtain rfl:k=m:=by omega
    go_wp2
    go_ret
    exact⟨bI (by unfold Rf;rw[List.take_of_length_le (by rw[Ri.out];exact ah _)]),hB⟩
def pQ(r:Int)(ex:Nat->Int):Nat->Int
 | 0=>r
 | k+1=>Fw.wr (pQ r ex k-ex k)
def Tg(cs:Array Value)(it:Nat->Fe.It)(k:Nat):Prop:=∀i,i<k->∀j,j<5->cs[i*5+j]? = (wz (it i))[j]?
theorem Tg.items{W:World}{b n:Nat}{cs:Array Value}{it:Nat->Fe.It}(h:Tg cs it n)(hA:At W b (.cells cs 281)):Items W (some ⟨b,0,none⟩) it n:=λh0 =>
 ⟨b,0,rfl,hA.lt,λk hk=>by
  have q:=λj hj=>(hA.cell (k*5+j)).trans (h k hk j hj);refine⟨?_,?_,?_,?_,?_⟩
  . have:=q 0 ak;simpa[wz]using this
  . have:=q 1 ak;simpa[wz]using this
  . have:=q 2 ak;simpa[wz]using this
  . have:=q 3 ak;simpa[wz]using this
  . have:=q 4 ak;simpa[wz]using this⟩
set_option maxHeartbeats 8000000 in
theorem U6(A:Option Addr)(xs:List Im)(c:Nat)(r0 r1 gap:Int)(it:Nat->Fe.It)(ex:Nat->Int)(st:Nat->Re.St)(w:World)(hx:Iq w A xs)(hl:xs.length<=64)(hit:∀i (h:i<xs.length),it i=xs[i].it)(hex:∀i (h:i<xs.length),ex i=UN xs[i] (st i))(hbx:∀i (h:i<xs.length),∃fl ap ib,aF w xs[i].bx (st i) fl ap ib) :
  Calls Tryz.prog 274 #[.slice A xs.length c,.int .i64 0,.agg #[.int .i64 r0,.int .i64 r1],.int .i64 gap] w λe w' =>
   (∃b,e=.returned (.slice (some ⟨b,0,none⟩) xs.length xs.length)/\w.heap.size<=b/\Ints w' (some ⟨b,0,none⟩) (mD it xs.length (pQ (Fw.wr (r0-Fw.wr (gap*Fw.wr ((xs.length:Int)-1)))) ex xs.length)))/\Below w.heap.size w w':=by
 obtain⟨m,hm⟩:∃m,xs.length=m:=⟨_,rfl⟩;rw[hm]at hl ⊢;have HM:=Lib.hid hm;have HX:=Lib.hid hx;have HIT:=Lib.hid hit;have HEX:=Lib.hid hex;have qw:=Lib.hid hbx;clear hx hit hex hbx hm;rw[<-qZ ((m:Int)-1)];obtain⟨q1,hq1⟩:∃q,IntKind.i64.wrap ((m:Int)-1)=q:=⟨_,rfl⟩;rw[hq1,<-qZ (gap*q1)];obtain⟨q2,hq2⟩:∃q,IntKind.i64.wrap (gap*q1)=q:=⟨_,rfl⟩;rw[hq2,<-qZ (r0-q2)];obtain⟨r,hr⟩:∃q,IntKind.i64.wrap (r0-q2)=q:=⟨_,rfl⟩;rw[hr];obtain⟨ws,hws⟩:∃W,w.alloc (.cells #[.int .i64 r0,.int .i64 r1] 108)=W:=⟨_,rfl⟩;obtain⟨cs0,hmk,xC⟩:=PL ws m ak;have U7:=Lib.hid hmk;clear hmk;go_enter Tryz.func274,Tryz.ntmps274
 go_upto_region 1 with(fail)
 have hb1:Below w.heap.size w ws:=hws▸Below.alloc' (Below.refl _ _) _;have A0:At ws w.heap.size (.cells #[.int .i64 r0,.int .i64 r1] 108):=hws▸At.new _ _;clear hws
 go_upto_region 2 with(refine mF aU _ _ 352 rfl U7.out ?_)
 obtain⟨b,hb⟩:∃b,ws.heap.size=b:=⟨_,rfl⟩;rw[hb];have A1:At (ws.alloc (.cells cs0 281)) b (.cells cs0 281):=At.new' _ hb.symm;have A2:=A0.alloc (.cells cs0 281);have hB2:Below w.heap.size w (ws.alloc (.cells cs0 281)):=Below.alloc' hb1 _;have hwb:w.heap.size<b:=by have:=A0.lt;omega
 generalize ws.alloc (.cells cs0 281)=W2 at *;obtain⟨l0,c00,Y0⟩:=At.two A2;clear A0 hb1 hb U7
 go_upto_region 3 with(fail)
 clear hq1 hq2 hr l0 c00 Y0
 go_upto_region 4 with(fail)
 go_loopw [10,27] (λlv iv wr=>∃(k:Nat) (cs:Array Value),k<=m/\iv=.int .i64 k/\lv=.int .i64 (pQ r ex k)/\At wr b (.cells cs 281)/\cs.size=m*5/\Tg cs it k/\Below w.heap.size w wr) (λ_ iv _=>m-(intOf iv).toNat)
 case atStart=>exact⟨0,cs0,bJ _,rfl,rfl,A1,xC,λi hi=>absurd hi (Nat.not_lt_zero _),hB2⟩
 case round =>
  clear A1 A2 hB2 xC;obtain⟨k,cs,hk,rfl,rfl,A1,hcs,hF,hB⟩:=hrel;by_cases hlt:k<m
  . have hltz:(k:Int)<(m:Int):=by omega
    have hkx:k<xs.length:=by rw[HM.out];exact hlt
    obtain⟨R,q,rfl,lR,hI⟩:=(HX.out.after hB).at_ hkx;obtain⟨fl,ap,ib,hbx⟩:=qw.out k hkx;have hiq:=Lib.hid (HIT.out k hkx);have heq:=Lib.hid (HEX.out k hkx);have hls:=Lib.hid (show pQ r ex (k+1)=Fw.wr (pQ r ex k-ex k)from rfl);generalize xs[k]=x at *;generalize pQ r ex k=lf at *;have U8:=Lib.hid hbx;clear hbx
    go_upto_region 6 with(first|(refine dn aU _ rfl rfl (by assumption) ?_)|(refine dX aU _ rfl rfl (by assumption) ?_)|(refine bV aU rfl ?_)|(refine bO aU _ _ rfl rfl rfl za ?_))
    obtain⟨nb,hnb⟩:∃nb,wr.heap.size=nb:=⟨_,rfl⟩;generalize hW:World.setRow _ _ _=W3;have A2:At W3 nb (.cells (nJ x) 283):=hW▸hnb▸At.setRow (At.new _ _) _;have A3:At W3 b (.cells cs 281):=hW▸At.mY (A1.alloc _) (by have:=A1.lt;omega) _;have hB3:Below w.heap.size w W3:=hW▸cO (Below.alloc' hB _) hB.size _;have Ir:aF W3 x.bx (st k) fl ap ib:=U8.out.keep hB3;rw[hnb];have hne:nb≠b:=by have:=A1.lt;omega
    clear hW A1 hI lR hB;have Jr:=Lib.hid Ir;clear Ir;have l2:=A2.lt
    have hld:∀j,j<5->W3.cell? ⟨nb,0+j,none⟩=(wz x.it)[j]? := λj hj=>by
     rw[A2.cell,Nat.zero_add];exact Z3e
    have hfit:k*5+5<=cs.size:=by omega
    have HLD:=Lib.hid hld;clear hld
    go_upto_region 7 with(first|(refine eP UZ zI aU _ rfl rfl (iC x.it) HLD.out ?_)|(refine jk zI aU _ _ rfl rfl rfl A3 (iC x.it) (by first|exact hfit|(rw[Nat.zero_add];exact hfit)) (Cc x.it) ?_))
    obtain⟨e0,he0⟩:∃e0,ex k=e0:=⟨_,rfl⟩;obtain⟨lf2,XQ⟩:∃l,IntKind.i64.wrap (lf-e0)=l:=⟨_,rfl⟩;have hlk:Hid (pQ r ex (k+1)=lf2):=Lib.hid (by rw[hls.out,he0,<-qZ,XQ]);generalize hW:World.setRow _ _ _=W4;have A4:At W4 b (.cells (splice cs (k*5) (wz x.it)) 281):=hW▸At.setRow A3 _;have A5:At W4 nb (.cells (nJ x) 283):=hW▸At.mY A2 hne _;have hB4:Below w.heap.size w W4:=hW▸cO hB3 (uH hwb) _;have key:=Pz x (st k) fl ap ib W4 (U8.out.keep hB4);exact Zw
  . exact Z1u
set_option maxHeartbeats 8000000 in
theorem U9(A:Option Addr)(xs:List Im)(c:Nat)(r0 r1 gap:Int)(it:Nat->Fe.It)(ex:Nat->Int)(st:Nat->Re.St)(w:World)(hx:Iq w A xs)(hl:xs.length<=64)(hit:∀i (h:i<xs.length),it i=xs[i].it)(hex:∀i (h:i<xs.length),ex i=ext1 xs[i] (st i))(hbx:∀i (h:i<xs.length),∃fl ap ib,aF w xs[i].bx (st i) fl ap ib) :
  Calls Tryz.prog 274 #[.slice A xs.length c,.int .i64 1,.agg #[.int .i64 r0,.int .i64 r1],.int .i64 gap] w λe w' =>
   (∃b,e=.returned (.slice (some ⟨b,0,none⟩) xs.length xs.length)/\w.heap.size<=b/\Ints w' (some ⟨b,0,none⟩) (mD it xs.length (pQ (Fw.wr (r1-Fw.wr (gap*Fw.wr ((xs.length:Int)-1)))) ex xs.length)))/\Below w.heap.size w w':=by
 obtain⟨m,hm⟩:∃m,xs.length=m:=⟨_,rfl⟩;rw[hm]at hl ⊢;have HM:=Lib.hid hm;have HX:=Lib.hid hx;have HIT:=Lib.hid hit;have HEX:=Lib.hid hex;have qw:=Lib.hid hbx;clear hx hit hex hbx hm;rw[<-qZ ((m:Int)-1)];obtain⟨q1,hq1⟩:∃q,IntKind.i64.wrap ((m:Int)-1)=q:=⟨_,rfl⟩;rw[hq1,<-qZ (gap*q1)];obtain⟨q2,hq2⟩:∃q,IntKind.i64.wrap (gap*q1)=q:=⟨_,rfl⟩;rw[hq2,<-qZ (r1-q2)];obtain⟨r,hr⟩:∃q,IntKind.i64.wrap (r1-q2)=q:=⟨_,rfl⟩;rw[hr];obtain⟨ws,hws⟩:∃W,w.alloc (.cells #[.int .i64 r0,.int .i64 r1] 108)=W:=⟨_,rfl⟩;obtain⟨cs0,hmk,xC⟩:=PL ws m ak;have U7:=Lib.hid hmk;clear hmk;go_enter Tryz.func274,Tryz.ntmps274
 go_upto_region 1 with(fail)
 have hb1:Below w.heap.size w ws:=hws▸Below.alloc' (Below.refl _ _) _;have A0:At ws w.heap.size (.cells #[.int .i64 r0,.int .i64 r1] 108):=hws▸At.new _ _;clear hws
 go_upto_region 2 with(refine mF aU _ _ 352 rfl U7.out ?_)
 obtain⟨b,hb⟩:∃b,ws.heap.size=b:=⟨_,rfl⟩;rw[hb];have A1:At (ws.alloc (.cells cs0 281)) b (.cells cs0 281):=At.new' _ hb.symm;have A2:=A0.alloc (.cells cs0 281);have hB2:Below w.heap.size w (ws.alloc (.cells cs0 281)):=Below.alloc' hb1 _;have hwb:w.heap.size<b:=by have:=A0.lt;omega
 generalize ws.alloc (.cells cs0 281)=W2 at *;obtain⟨l0,c00,Y0⟩:=At.two A2;clear A0 hb1 hb U7
 go_upto_region 3 with(fail)
 clear hq1 hq2 hr l0 c00 Y0
 go_upto_region 4 with(fail)
 go_loopw [10,27] (λlv iv wr=>∃(k:Nat) (cs:Array Value),k<=m/\iv=.int .i64 k/\lv=.int .i64 (pQ r ex k)/\At wr b (.cells cs 281)/\cs.size=m*5/\Tg cs it k/\Below w.heap.size w wr) (λ_ iv _=>m-(intOf iv).toNat)
 case atStart=>exact⟨0,cs0,bJ _,rfl,rfl,A1,xC,λi hi=>absurd hi (Nat.not_lt_zero _),hB2⟩
 case round =>
  clear A1 A2 hB2 xC;obtain⟨k,cs,hk,rfl,rfl,A1,hcs,hF,hB⟩:=hrel;by_cases hlt:k<m
  . have hltz:(k:Int)<(m:Int):=by omega
    have hkx:k<xs.length:=by rw[HM.out];exact hlt
    obtain⟨R,q,rfl,lR,hI⟩:=(HX.out.after hB).at_ hkx;obtain⟨fl,ap,ib,hbx⟩:=qw.out k hkx;have hiq:=Lib.hid (HIT.out k hkx);have heq:=Lib.hid (HEX.out k hkx);have hls:=Lib.hid (show pQ r ex (k+1)=Fw.wr (pQ r ex k-ex k)from rfl);generalize xs[k]=x at *;generalize pQ r ex k=lf at *;have U8:=Lib.hid hbx;clear hbx
    go_upto_region 6 with(first|(refine dn aU _ rfl rfl (by assumption) ?_)|(refine dX aU _ rfl rfl (by assumption) ?_)|(refine bV aU rfl ?_)|(refine bO aU _ _ rfl rfl rfl za ?_))
    obtain⟨nb,hnb⟩:∃nb,wr.heap.size=nb:=⟨_,rfl⟩;generalize hW:World.setRow _ _ _=W3;have A2:At W3 nb (.cells (nJ x) 283):=hW▸hnb▸At.setRow (At.new _ _) _;have A3:At W3 b (.cells cs 281):=hW▸At.mY (A1.alloc _) (by have:=A1.lt;omega) _;have hB3:Below w.heap.size w W3:=hW▸cO (Below.alloc' hB _) hB.size _;have Ir:aF W3 x.bx (st k) fl ap ib:=U8.out.keep hB3;rw[hnb];have hne:nb≠b:=by have:=A1.lt;omega
    clear hW A1 hI lR hB;have Jr:=Lib.hid Ir;clear Ir;have l2:=A2.lt
    have hld:∀j,j<5->W3.cell? ⟨nb,0+j,none⟩=(wz x.it)[j]? := λj hj=>by
     rw[A2.cell,Nat.zero_add];exact Z3e
    have hfit:k*5+5<=cs.size:=by omega
    have HLD:=Lib.hid hld;clear hld
    go_upto_region 7 with(first|(refine eP UZ zI aU _ rfl rfl (iC x.it) HLD.out ?_)|(refine jk zI aU _ _ rfl rfl rfl A3 (iC x.it) (by first|exact hfit|(rw[Nat.zero_add];exact hfit)) (Cc x.it) ?_))
    obtain⟨e0,he0⟩:∃e0,ex k=e0:=⟨_,rfl⟩;obtain⟨lf2,XQ⟩:∃l,IntKind.i64.wrap (lf-e0)=l:=⟨_,rfl⟩;have hlk:Hid (pQ r ex (k+1)=lf2):=Lib.hid (by rw[hls.out,he0,<-qZ,XQ]);generalize hW:World.setRow _ _ _=W4;have A4:At W4 b (.cells (splice cs (k*5) (wz x.it)) 281):=hW▸At.setRow A3 _;have A5:At W4 nb (.cells (nJ x) 283):=hW▸At.mY A2 hne _;have hB4:Below w.heap.size w W4:=hW▸cO hB3 (uH hwb) _;have key:=PD x (st k) fl ap ib W4 (U8.out.keep hB4);exact Zw
  . exact Z1u
end Go.Proofs.YtcbcfdihofclkaaGreat.Fix
