/- What functions of the program do, in plain numbers, part 21; no conditions. -/
import Derived.Test.YtmidaiklolmkcaaGreatM20
set_option linter.unusedVariables false
set_option linter.unusedSimpArgs false
set_option linter.unusedSectionVars false
set_option maxRecDepth 100000
namespace Go.Proofs.YtmidaiklolmkcaaGreat.Fix
open Go.ChangeShapes Go.WideShapes Go.ChangeAt Go.RowKit Go.Deep Go.Joins
structure tZ where
 k:Int
 a:Int
 b:Int
 c:Int
 s:Re.St
def fu(x:tZ):Array Value:=#[.int .i64 x.k,.int .i64 x.a,.int .i64 x.b,.int .i64 x.c]++cells x.s
structure Mi(x:tZ):Prop where
 k:Wf x.k
 a:Wf x.a
 b:Wf x.b
 c:Wf x.c
 s:Fits x.s
theorem Bj(x:tZ):(fu x).size=59:=by simp[fu,bI]
theorem xQ(x:tZ){j:Nat}(h:j<55):(fu x)[4+j]? = some (cell x.s j):=by
 unfold fu;rw[Array.getElem?_append_right eZ,show 4+j-(#[Value.int .i64 x.k,.int .i64 x.a,.int .i64 x.b,.int .i64 x.c]:Array Value).size=j by simp,iC x.s h]
theorem oq(x:tZ){j:Nat}(h:j<4):(fu x)[j]? = (#[Value.int .i64 x.k,.int .i64 x.a,.int .i64 x.b,.int .i64 x.c]:Array Value)[j]? := by
 unfold fu;rw[Array.getElem?_append_left (by simpa using h)]
def GX(W:World)(b o:Nat)(x:tZ):Prop:=∀j,j<59->W.cell? ⟨b,o+j,none⟩=(fu x)[j]?
theorem Xi{W:World}{b o:Nat}{x:tZ}(h:GX W b o x):(Instr.loadAt 65 (.pointer (some ⟨b,o,none⟩))).run Tryz.prog W=.ok (.agg (fu x)) W:=by
 have hl:=run_loadCells_list (P:=Tryz.prog) W ⟨b,o,none⟩ (fu x).toList (λj v hj=>by
  have hj':j<59:=by have:=(List.getElem?_eq_some_iff.1 hj).1;simpa[Bj]using this
  rw[addr_add,h j hj'];rw[Array.getElem?_toList]at hj
  exact hj)
 rw[Array.length_toList,Bj]at hl;have hi:(isAgg 65).run Tryz.prog W=.ok true W:=by kernel_rfl
 have hz:(sizeOf 65).run Tryz.prog W=.ok 59 W:=by kernel_rfl
 simp only[Instr.loadAt,Instr.sureAddr,Sem.run_bind,Sem.run_pure,Result.andThen_ok,loadVar,hi,hz,hl,if_true]
theorem BR{ops:Array Oper}{rest:List Oper}{o:Oper}{a:Act}{w:World}{Q:Exit->Act->World->Prop}(hw:Region.wanted o (yielded ops a.tmps)=true)(y:Operand)(ho:o.op=.load 65 y){b k:Nat}(hy:a.eval y=.pointer (some ⟨b,k,none⟩)){x:tZ}(hs:GX w b k x)
  (h:wpList Tryz.prog ops Q rest (a.put o.dst (.agg (fu x))) w):wpList Tryz.prog ops Q (o::rest) a w :=
 eu hw (by unfold execOp;simp only[ho,hy,Sem.run_bind,Xi hs,Result.andThen_ok,Sem.run_pure]) h
theorem Mj:Tryz.prog.cellsOf 65=59:=by kernel_rfl
def Mk(w:World)(a:Option Addr)(len cap:Nat):Prop :=
 (a=none/\len=0/\cap=0)\/∃x,a=some x/\len<=cap/\cap<=maxLen/\∃l:Nat->tZ,∀i,i<len->Mi (l i)/\∀j,j<59->w.cell? (x.add (i*59+j))=(fu (l i))[j]?
section
variable {H:Type} {enc:TypeId×Value->H} {w:World} {base:Nat} {spare:Nat->Bool} {held:Bool}
theorem Xj{n:Nat}{cs:List Value}{y:DataW H×List MemPlace}(h:DataW.trod enc Tryz.prog w base spare held n 65 cs=some y):∃x:tZ,cs=(fu x).toList/\Mi x:=by
 obtain⟨xs,k,rfl,_,hl,hxl,hf⟩:=DataW.trod_struct Tryz.underlying65 h;rw[Mj]at hl;have ex:∀i,i<5->∃y,xs[i]? = some y:=λi hi=>⟨_,List.getElem?_eq_getElem (by rw[hxl];exact hi)⟩;obtain⟨y0,q0⟩:=ex 0 aH;obtain⟨y1,q1⟩:=ex 1 aH;obtain⟨y2,q2⟩:=ex 2 aH;obtain⟨y3,q3⟩:=ex 3 aH;obtain⟨y4,q4⟩:=ex 4 aH;have g0:DataW.trod enc Tryz.prog w base spare held k 3 ((cs.drop 0).take (Tryz.prog.cellsOf 3))=some y0:=(hf 0 _ rfl).trans q0;have g1:DataW.trod enc Tryz.prog w base spare held k 3 ((cs.drop 1).take (Tryz.prog.cellsOf 3))=some y1:=(hf 1 _ rfl).trans q1;have g2:DataW.trod enc Tryz.prog w base spare held k 3 ((cs.drop 2).take (Tryz.prog.cellsOf 3))=some y2:=(hf 2 _ rfl).trans q2;have g3:DataW.trod enc Tryz.prog w base spare held k 3 ((cs.drop 3).take (Tryz.prog.cellsOf 3))=some y3:=(hf 3 _ rfl).trans q3;have g4:DataW.trod enc Tryz.prog w base spare held k 46 ((cs.drop 4).take (Tryz.prog.cellsOf 46))=some y4:=(hf 4 _ rfl).trans q4;rw[xI]at g0 g1 g2 g3;rw[yG]at g4;obtain⟨a0,e0,_,w0⟩:=DataW.trod_int Tryz.underlying3 g0;obtain⟨a1,e1,_,w1⟩:=DataW.trod_int Tryz.underlying3 g1;obtain⟨a2,e2,_,w2⟩:=DataW.trod_int Tryz.underlying3 g2;obtain⟨a3,e3,_,w3⟩:=DataW.trod_int Tryz.underlying3 g3;have g5:DataW.Trod enc Tryz.prog w base spare held 46 (.agg ((cs.drop 4).take 55).toArray) y4.1 y4.2:=⟨k,g4⟩;obtain⟨s,e4,ws⟩:=Nn g5;injection e4 with e4;have e4':(cs.drop 4).take 55=(cells s).toList:=by rw[<-e4]
 refine⟨⟨a0,a1,a2,a3,s⟩,?_,⟨w0,w1,w2,w3,ws⟩⟩;obtain⟨v0,v1,v2,v3,r,rfl⟩:∃v0 v1 v2 v3 r,cs=v0::v1::v2::v3::r:=by
  clear e0 e1 e2 e3 e4 e4' g0 g1 g2 g3 g4 g5 hf h;rcases cs with _ | ⟨v0,_ | ⟨v1,_ | ⟨v2,_ | ⟨v3,r⟩⟩⟩⟩<;>first|exact⟨_,_,_,_,_,rfl⟩|exact absurd hl eZ
 simp at e0 e1 e2 e3 hl;subst e0 e1 e2 e3;have hr:(List.drop 4 (Value.int .i64 a0 :: .int .i64 a1 :: .int .i64 a2 :: .int .i64 a3::r)).take 55=r:=List.take_of_length_le jM;rw[hr]at e4';simp[fu,e4']
theorem SI{n:Nat}{cs:List Value}{x:DataW H×List MemPlace}(h:DataW.trod enc Tryz.prog w base spare held n 22 cs=some x) :
  ∃a len cap,cs=[.slice a len cap]/\Mk w a len cap:=by
 rcases open_slice Tryz.underlying22 h with⟨rfl,_⟩|⟨a,len,cap,m,k,D,Pl,rfl,hb,hl,hm,hmm,rfl,hx⟩
 . exact⟨none,0,0,rfl,.inl ⟨rfl,rfl,rfl⟩⟩
 . refine⟨some a,len,cap,rfl,.inr ⟨a,rfl,hl,hm,?_⟩⟩
   have each:∀i,i<len->∃q:tZ,Mi q/\∀j,j<59->w.cell? (a.add (i*59+j))=(fu q)[j]? := by
    intro i hi;have him:i<m:=by clear hx;rw[hmm];split<;>omega
    have h12:=hx i him;rw[Mj]at h12;obtain⟨cs',h1,h2⟩:=h12;have hcell:=(World.cells?_some h1).2.2;obtain⟨q,hcs,hq⟩:=Xj h2;refine⟨q,hq,λj hj => ?_⟩;have:=hcell j hj;rw[hcs,Array.getElem?_toList]at this;rw[<-this,add_add]
   have:Inhabited tZ:=⟨⟨0,0,0,0,Re.zero⟩⟩;obtain⟨q,hq⟩:=choose_lt each;exact⟨q,hq⟩
end
theorem Mk.cap{w:World}{a:Option Addr}{len cap:Nat}(h:Mk w a len cap):len<=cap/\len<=9223372036854775807:=by
 rcases h with⟨_,rfl,rfl⟩|⟨_,_,h,h2,_⟩
 . omega
 . simp only[maxLen]at h2;omega
def Xk(w:World)(a:Option Addr)(len:Nat)(l:Nat->tZ):Prop:=0<len->∃b off,a=some ⟨b,off,none⟩/\b<w.heap.size/\∀k,k<len->Mi (l k)/\GX w b (off+k*59) (l k)
theorem Mk.acts{w:World}{a:Option Addr}{len cap:Nat}(h:Mk w a len cap):∃l,Xk w a len l:=by
 rcases h with⟨rfl,rfl,rfl⟩|⟨x,rfl,_,_,l,hc⟩
 . exact⟨λ_=>⟨0,0,0,0,Re.zero⟩,λh=>absurd h aj⟩
 . refine⟨l,λh0 => ?_⟩
   obtain⟨b,off,spot⟩:=x;have c0:=(hc 0 h0).2 0 aj;rw[oq _ aj]at c0;have hspot:spot=none:=by
    have:=World.cell?_spot c0;simpa[Addr.add]using this
   subst hspot;have hb:=World.block_lt_of_cell? _ _ c0;refine⟨b,off,rfl,by unfold Addr.add at hb;simpa using hb,λk hk=>⟨(hc k hk).1,λj hj => ?_⟩⟩;have e:=(hc k hk).2 j hj;simp only[addr_add,<-Nat.add_assoc]at e;exact e
theorem Xk.after{W W':World}{a:Option Addr}{n:Nat}{l:Nat->tZ}(h:Xk W a n l)(hb:Below W.heap.size W W'):Xk W' a n l:=λh0=>by
 obtain⟨b,off,e,hl,hc⟩:=h h0;have hsz:=hb.size;refine⟨b,off,e,by omega,λk hk=>⟨(hc k hk).1,λj hj => ?_⟩⟩;rw[<-(hc k hk).2 j hj];exact hb.cell (p:=⟨b,off+k*59+j,none⟩) hl
def zi(T:Tr.T):Prop:=∀z nd,T z=some nd->Fits nd.sty
theorem Af:Fits Re.zero:=λi _ _=>jD
end Go.Proofs.YtmidaiklolmkcaaGreat.Fix
namespace Go.Proofs.YtmidaiklolmkcaaGreat.Fix
open Go.ChangeShapes Go.WideShapes Go.ChangeAt Go.RowKit Go.Deep Go.Joins Go.Shelf
def eD(T' T:Tr.T):Prop:=∀z nd,T' z=some nd->nd.sty=Re.zero\/∃q,T z=some q/\q.sty=nd.sty
theorem eD.refl(T:Tr.T):eD T T:=λz nd h => .inr ⟨nd,h,rfl⟩
theorem eD.trans{T T' T'':Tr.T}(h:eD T'' T')(k:eD T' T):eD T'' T:=λz nd hz=>by
 rcases h z nd hz with e|⟨q,hq,e⟩
 . exact .inl e
 . rw[<-e];exact k z q hq
theorem eD.set{T:Tr.T}{x:Int}{p nd:Tr.Nd}(hx:T x=some p)(he:nd.sty=p.sty):eD (Tr.set T x nd) T:=λz q hz=>by
 by_cases e:z=x
 . subst e;rw[Tr.aN]at hz;cases hz;exact .inr ⟨p,hx,he.symm⟩
 . rw[Tr.aK _ _ e]at hz;exact .inr ⟨q,hz,rfl⟩
theorem eD.leave(T:Tr.T)(x:Int):eD (Tr.leave T x) T:=by
 unfold Tr.leave;split
 . exact eD.refl _
 . split
   . exact eD.refl _
   . rename_i p hp;exact eD.set hp rfl
theorem eD.enter(T:Tr.T)(x u:Int)(i:Nat):eD (Tr.enter T x u i) T:=by
 unfold Tr.enter;split
 . rename_i p nd hu hx
   have h1:eD (Tr.set T u { p with kids:=Tr.wi p.kids i x }) T:=eD.set hu rfl;intro z q hz;by_cases e:z=x
   . subst e;rw[Tr.aN]at hz;cases hz;exact .inr ⟨nd,hx,rfl⟩
   . rw[Tr.aK _ _ e]at hz;exact h1 z q hz
 . exact eD.refl _
theorem eD.del(T:Tr.T)(l:List Int):eD (Tr.del T l) T:=λz q hz=>by
 unfold Tr.del at hz;split at hz
 . cases hz
 . exact .inr ⟨q,hz,rfl⟩
theorem eD.jE(T:Tr.T)(u a:Int):eD (Tr.jE T u a) T:=by
 unfold Tr.jE;split
 . unfold Tr.pK
   refine(eD.enter _ _ _ _).trans λz q hz => ?_;by_cases e:z=Tr.free T
   . subst e;rw[Tr.aN]at hz;cases hz;exact .inl rfl
   . rw[Tr.aK _ _ e]at hz;exact .inr ⟨q,hz,rfl⟩
 . exact eD.refl _
theorem eD.nT(T:Tr.T)(x:Int):eD (Tr.nT T x) T:=by
 unfold Tr.nT;split
 . exact(eD.del _ _).trans (eD.leave _ _)
 . exact eD.refl _
theorem eD.mD(T:Tr.T)(x u a:Int):eD (Tr.mD T x u a) T:=by
 unfold Tr.mD;split
 . exact(eD.enter _ _ _ _).trans (eD.leave _ _)
 . exact eD.refl _
theorem zi.le{T T':Tr.T}(h:zi T)(k:eD T' T):zi T':=λz nd hz=>by
 rcases k z nd hz with e|⟨q,hq,e⟩
 . rw[e];exact Af
 . rw[<-e];exact h z q hq
theorem zi.jv{T:Tr.T}(h:zi T)(z:Int){s:Re.St}(hs:Fits s):zi (jv T z s):=by
 unfold Fix.jv;split
 . unfold Tr.yE
   split
   . exact h
   . intro y nd hy
     by_cases e:y=z
     . subst e;rw[Tr.aN]at hy;cases hy;exact hs
     . rw[Tr.aK _ _ e]at hy;exact h y nd hy
 . exact h
theorem oF(T:Tr.T)(z:Int)(s:Re.St):Tr.Alike T (jv T z s):=by
 unfold Fix.jv;split
 . exact Tr.QZ T z s
 . exact λ_=>rfl
theorem SK{t s:Tr.T}(H:Tr.WF t)(h:Tr.Alike t s){x:Int}{nd:Tr.Nd}(hx:t x=some nd):Tr.sub s 64 x=Tr.sub t 64 x/\Tr.hgt s 64 x=Tr.hgt t 64 x :=
 ((H.iF hx).congr λy _ nd hy=>by obtain⟨nd',h1,_,h2⟩:=h.some hy;exact⟨nd',h1,h2⟩).2
theorem SL{t s:Tr.T}(H:Tr.WF t)(h:Tr.Alike t s):Tr.ord s=Tr.ord t:=by
 obtain⟨nd,h1,_⟩:=H.root;exact(SK H h h1).1
theorem Inv.set{W W':World}{t n:Nat}{L:Lay}{T:Tr.T}(h:Inv W t L T n){z:Int}{s:Re.St}(hr:fV W' t L (jv T z s) n):Inv W' t L (jv T z s) n :=
 ⟨hr,h.wf.alike (oF T z s),by rw[SL h.wf (oF T z s)];exact h.num⟩
structure Good(W:World)(t:Nat)(L:Lay)(T:Tr.T)(n n0:Nat):Prop where
 inv:Inv W t L T n
 own:∀b,owned t L T b->n0<=b
 fit:zi T
theorem Good.step{W W':World}{t n n' n0:Nat}{L L':Lay}{T T':Tr.T}(h:Good W t L T n n0)(hi:Inv W' t L' T' n')(hg:Grow t L L' T T' W W')(hf:zi T')(h0:n0<=W.heap.size):Good W' t L' T' n' n0/\Below n0 W W' :=
 ⟨⟨hi,λb hb=>(hg.2 b hb).elim (h.own b) λq=>aJ h0 q,hf⟩,hg.1.below h0 λb hb q=>absurd (h.own b q) aj⟩
theorem Good.after{W W':World}{t n n0:Nat}{L:Lay}{T:Tr.T}(h:Good W t L T n n0)(hb:Below W.heap.size W W'):Good W' t L T n n0:=⟨⟨h.inv.rep.after hb,h.inv.wf,h.inv.num⟩,h.own,h.fit⟩
theorem Inv.after{W W':World}{t n:Nat}{L:Lay}{T:Tr.T}(h:Inv W t L T n)(hb:Below W.heap.size W W'):Inv W' t L T n:=⟨h.rep.after hb,h.wf,h.num⟩
theorem Good.new{W W':World}{t:Nat}{L:Lay}(h:Inv W' t L T0 1)(hb:∀b,owned t L T0 b->W.heap.size<=b):Good W' t L T0 1 W.heap.size:=⟨h,hb,λz nd hz=>by
 unfold T0 at hz;split at hz
 . cases hz;exact Af
 . cases hz⟩
noncomputable def SN(T:Tr.T)(x:tZ):Tr.T:=if x.k.tmod 5=2 then Tr.nT T x.a else if x.k.tmod 5=3 then Tr.mD T x.a x.b x.c else if x.k.tmod 5=4 then jv T x.a x.s else Tr.jE T x.a x.b
section
variable {w:World} {t n n0:Nat} {L:Lay} {T:Tr.T}
theorem Ml(h:Good w t L T n n0)(hn:n<4096)(h0:n0<=w.heap.size){u a:Int}(hu:Wf u):Calls Tryz.prog 15 #[.pointer (some ⟨t,0,none⟩),.int .i64 u,.int .i64 a] w λe w'=>e=.returned (.tuple #[.int .i64 (Tr.tF T u a),.int .i64 (Tr.nD T u a)])/\∃L' n',Good w' t L' (Tr.jE T u a) n' n0/\n'<=n+1/\Grow t L L' T (Tr.jE T u a) w w'/\Below n0 w w':=by
 refine(Vf h.inv hn hu).mono ?_;rintro e w' ⟨rfl,L',n',hi,hl,hg⟩;obtain⟨g1,g2⟩:=h.step hi hg (h.fit.le (eD.jE _ _ _)) h0;exact⟨rfl,L',n',g1,hl,hg,g2⟩
theorem SQ(h:Good w t L T n n0)(h0:n0<=w.heap.size){x u a:Int}(hx:Wf x)(hu:Wf u):Calls Tryz.prog 39 #[.pointer (some ⟨t,0,none⟩),.int .i64 x,.int .i64 u,.int .i64 a] w λe w'=>e=.returned (.int .i64 (Tr.jI T x u a))/\∃L',Good w' t L' (Tr.mD T x u a) n n0/\Grow t L L' T (Tr.mD T x u a) w w'/\Below n0 w w':=by
 refine(Rx h.inv hx hu).mono ?_;rintro e w' ⟨rfl,L',hi,hg⟩;obtain⟨g1,g2⟩:=h.step hi hg (h.fit.le (eD.mD _ _ _ _)) h0;exact⟨rfl,L',g1,hg,g2⟩
theorem Mq(h:Good w t L T n n0)(h0:n0<=w.heap.size){x:Int}(hx:Wf x):Calls Tryz.prog 37 #[.pointer (some ⟨t,0,none⟩),.int .i64 x] w λe w'=>e=.returned (.tuple #[.int .i64 (Tr.wK T x),.int .i64 (Tr.qV T x)])/\∃L' n',Good w' t L' (Tr.nT T x) n' n0/\n'<=n/\Grow t L L' T (Tr.nT T x) w w'/\Below n0 w w':=by
 refine(KR h.inv hx).mono ?_;rintro e w' ⟨rfl,L',n',hi,hl,hg⟩;obtain⟨g1,g2⟩:=h.step hi hg (h.fit.le (eD.nT _ _)) h0;exact⟨rfl,L',n',g1,hl,hg,g2⟩
theorem vR(h:Good w t L T n n0)(h0:n0<=w.heap.size){x:Int}(hx:Wf x){s:Re.St}(hs:Fits s):Calls Tryz.prog 13 #[.pointer (some ⟨t,0,none⟩),.int .i64 x,.agg (cells s)] w λe w'=>e=.returned (.int .i64 (qp T x s))/\Good w' t L (jv T x s) n n0/\Grow t L L T (jv T x s) w w'/\Below n0 w w':=by
 refine(Ve h.inv.rep hx s).mono ?_;rintro e w' ⟨rfl,hr,hg⟩;obtain⟨g1,g2⟩:=h.step (h.inv.set hr) hg (h.fit.jv _ hs) h0;exact⟨rfl,g1,hg,g2⟩
theorem Mr(w:World):Calls Tryz.prog 14 #[] w λe w'=>(∃t,e=.returned (.pointer (some ⟨t,0,none⟩))/\∃L,Good w' t L T0 1 w.heap.size)/\Below w.heap.size w w':=by
 refine(Vd w).mono ?_;rintro e w' ⟨⟨t,rfl,L,hr,ho⟩,hb⟩;refine⟨⟨t,rfl,L,Good.new ⟨hr,?_,?_⟩ ho⟩,hb⟩
 . have hT:T0 0=some ⟨-1,[],Re.zero⟩:=rfl
   have hz:∀x nd,T0 x=some nd->x=0/\nd=⟨-1,[],Re.zero⟩:=λx nd h=>by
    unfold T0 at h;split at h
    . cases h;exact⟨by assumption,rfl⟩
    . cases h
   refine⟨⟨_,hT,rfl⟩,λx nd h => ?_,λx nd h h0=>absurd (hz x nd h).1 h0,λu p x h hx => ?_,λu p h => ?_,λx nd h => ?_⟩
   . rw[(hz x nd h).1];omega
   . rw[(hz u p h).2]at hx;cases hx
   . rw[(hz u p h).2];exact List.nodup_nil
   . rw[(hz x nd h).1];exact⟨0,by omega,.root hT⟩
 . decide +kernel
theorem OY(h:Good w t L T n n0):Calls Tryz.prog 8 #[.pointer (some ⟨t,0,none⟩)] w λe w'=>(∃v,e=.returned v/\Kept w' t L T v (Tr.ord T))/\Below w.heap.size w w':=by
 refine(NT h.inv.rep h.inv.wf.rT (by have:=h.inv.wf.jB;omega)).mono ?_;rintro e w' ⟨⟨v,rfl,ho⟩,hb⟩;exact⟨⟨v,rfl,Kept.new h.inv.rep ho aD⟩,hb⟩
def xR(T:Tr.T)(z:Int):List Int:=(T z).elim [] (·.kids)
theorem Xl{T:Tr.T}(H:Tr.WF T)(z:Int) : -1<=Tr.dep T z/\Tr.dep T z<=63:=by
 cases hT:T z with
 | none=>rw[Tr.J5 hT];omega
 | some nd=>obtain⟨d,h1,h2,h3⟩:=H.iZ hT;omega
end
def ahZ:Re.St:=⟨λi=>if i=46 then 3 else 0,λ_=>false⟩
def A1:Tr.T:=Tr.pK T0 1 0 0
def A2:Tr.T:=Tr.pK A1 2 0 1
def A3:Tr.T:=Tr.mq A2 1 2 0
def A4:Tr.T:=Tr.yE A3 1 ahZ
theorem SS{t:Tr.T}{z:Int}(h:(t z).isSome=true):t z≠none:=λe=>by rw[e]at h;cases h
theorem isSome_none{t:Tr.T}{z:Int}(h:(t z).isSome=false):t z=none:=by cases e:t z with
 | none=>rfl
 | some _=>rw[e]at h;cases h
theorem abY:Tr.free T0=1:=Tr.free_eq ⟨by decide,isSome_none (by decide +kernel),λy h0 h1=>by
 obtain rfl:y=0:=by omega
 exact SS (by decide +kernel)⟩
theorem Xm:Tr.nD T0 0 0=0:=by decide +kernel
theorem agp:Tr.tF T0 0 0=1:=by unfold Tr.tF;rw[Xm,if_pos rfl,abY]
theorem agq:Tr.jE T0 0 0=A1:=by unfold Tr.jE;rw[Xm,if_pos rfl,abY];rfl
section
variable {w:World} {t n n0:Nat} {L:Lay}
theorem adN(h:Good w t L T0 n n0)(hn:n<4096)(h0:n0<=w.heap.size):Calls Tryz.prog 15 #[.pointer (some ⟨t,0,none⟩),.int .i64 0,.int .i64 0] w λe w'=>e=.returned (.tuple #[.int .i64 1,.int .i64 0])/\∃L' n',Good w' t L' A1 n' n0/\n'<=n+1/\Below n0 w w':=by
 have:=Ml h hn h0 (u:=0) (a:=0) ((iX _).2 aj);rw[agp,Xm,agq]at this;exact this.mono λe w' ⟨h1,L',n',h2,h3,_,h4⟩=>⟨h1,L',n',h2,h3,h4⟩
end
end Go.Proofs.YtmidaiklolmkcaaGreat.Fix
namespace Go.Proofs.YtmidaiklolmkcaaGreat.Fix
section
variable {T:Tr.T} (H:Tr.WF T) {x u:Int} {nd p:Tr.Nd} (hx:T x=some nd) (h0:x≠0) (hu:T u=some p) (hun:u ∉ Tr.sub T 64 x)
include H hx h0 hu hun
theorem adO(i:Nat){y:Int}{m:Nat}(h:Tr.Dp T y m):y ∉ Tr.sub T 64 x->Tr.Dp (Tr.mq T x u i) y m:=by
 have A:=λy=>H.xG hx h0 hu hun i y
 induction h with
 | root h =>
   intro _;have e:=A 0;rw[h]at e;exact .root e
 | @step z zd n h hz _ ih =>
   intro hn;have hzx:z≠x:=λe=>hn (H.rU hx h0 e);have e:=A z;rw[h]at e;simp only[Option.map_some,if_neg hzx]at e;exact .step e hz (ih (H.Ii hx h hn hz))
end
structure Moved(T T':Tr.T)(x u a f:Int)(pl:Nat):Prop where
 up:rY T' x=u
 at_:∃n:Nat,a=n/\n<(xR T' u).length/\(xR T' u).getD n 0=x
 ok:Tr.jI T' x f pl=0
 back:Tr.mD T' x f pl=T
theorem moved{T:Tr.T}(H:Tr.WF T){x u a:Int}(h:Tr.jI T x u a=0){pl:Nat}(hpl:(xR T (rY T x))[pl]? = some x):Moved T (Tr.mD T x u a) x u a (rY T x) pl:=by
 have hR:Tr.mD T x u a=Tr.mq T x u a.toNat:=by unfold Tr.mD;rw[h,if_pos rfl]
 have W:=(H.mD x u a).1;obtain⟨nd,p,hx,hu,h0,hun,ha,hal,hd⟩:=Tr.Gl h;rw[hR]at W ⊢;have A:=λy=>H.xG hx h0 hu hun a.toNat y;obtain⟨q,hq,hqm⟩:=H.up x nd hx h0;have eup:rY T x=nd.up:=by unfold rY;rw[hx]
 rw[eup]at hpl ⊢;have ekq:xR T nd.up=q.kids:=by unfold xR;rw[hq];rfl
 rw[ekq]at hpl;have hxu:x≠u:=λe=>hun (H.rU hx h0 e.symm);have hxn:x≠nd.up:=λe=>H.qh hx h0 (H.rU hx h0 e.symm);have hku:(if u=nd.up then Tr.wo p.kids x else p.kids)=Tr.wo p.kids x:=by
  by_cases e:u=nd.up
  . rw[if_pos e]
  . rw[if_neg e,Tr.uW (λhm=>e (H.J3 hx h0 hu hm))]
 have Au:Tr.mq T x u a.toNat u=some { p with kids:=Tr.wi (Tr.wo p.kids x) a.toNat x }:=by
  rw[A,hu];simp only[Option.map_some,if_neg (Ne.symm hxu),if_true,hku]
 have Ax:Tr.mq T x u a.toNat x=some { nd with up:=u }:=by
  rw[A,hx];simp only[Option.map_some,if_true,if_neg hxu,if_neg hxn]
 have hlen:=Tr.mZ (Tr.wo p.kids x) a.toNat x;have hn1:nd.up ∉ Tr.sub (Tr.mq T x u a.toNat) 64 x:=by rw[(H.Ij hx h0 hu hun a.toNat).1];exact H.qh hx h0
 have ajs:pl<q.kids.length:=(List.getElem?_eq_some_iff.1 hpl).1;have hwq:=Tr.Gj (H.nodup _ _ hq) hqm;have hz:Tr.jI (Tr.mq T x u a.toNat) x nd.up pl=0:=by
  obtain⟨d,hd1,hd2,hd3⟩:=H.iZ hq;have TA:Tr.Dp T x (d+1):=.step hx h0 hd2;obtain⟨z,hz1,hz2⟩:=H.PS (H.iF hx) TA;have hb:=H.Y4 hz2;have hdp:=adO H hx h0 hu hun a.toNat hd2 (H.qh hx h0);have hde:=W.Ik hdp;obtain⟨p',hp'⟩:=hdp.live;have hkp:Tr.wo p'.kids x=Tr.wo q.kids x:=by
   have e:=A nd.up;rw[hq,hp']at e;simp only[Option.map_some,if_true,if_neg (Ne.symm hxn)]at e;injection e with e;rw[e];simp only;have hno:x ∉ Tr.wo q.kids x:=λhm=>(Tr.xF.1 hm).2 rfl;by_cases e2:nd.up=u
   . rw[if_pos e2,Tr.abz hno]
   . rw[if_neg e2,Tr.uW hno]
  unfold Tr.jI;rw[Ax,hp'];simp only;rw[if_neg h0,if_neg hn1,hkp,if_neg aj,hde,(H.Ij hx h0 hu hun a.toNat).2,if_neg aj]
 refine⟨by unfold rY;rw[Ax],?_,hz,?_⟩
 . have ek:xR (Tr.mq T x u a.toNat) u=Tr.wi (Tr.wo p.kids x) a.toNat x:=by unfold xR;rw[Au];rfl
   refine⟨a.toNat,by omega,by rw[ek,hlen];omega,?_⟩;rw[ek];have hl:((Tr.wo p.kids x).take a.toNat).length=a.toNat:=by rw[List.length_take];omega
   unfold Tr.wi;rw[List.getD,List.getElem?_append_right aj,hl];simp
 . unfold Tr.mD
   rw[hz,if_pos rfl];have e:=H.UA hx h0 hu hun hq hpl W
   rwa [show((pl:Int).toNat)=pl by omega]
end Go.Proofs.YtmidaiklolmkcaaGreat.Fix
namespace Go.Proofs.YtmidaiklolmkcaaGreat.Fix
open Go.ChangeShapes Go.WideShapes Go.ChangeAt Go.RowKit
def MU:Re.St:=⟨λi=>if i=53 then 30 else if i=54 then 20 else if i=31 then 1 else if i=32 then 2 else if i=33 then 3 else if i=34 then 4 else 0,λ_=>false⟩
def Ey:Tr.T:=Tr.yE A1 1 MU
def ldt(x:Fw.Ld):List Int:=[x.id,Fx.cut x.a0,Fx.cut x.a1,Fx.cut x.s0,Fx.cut x.s1]
theorem adP:(qB Ey 100 50).map ldt=[[0,0,0,100,24],[1,0,0,100,24]]:=by decide +kernel
theorem GM.ge{W:World}{b n:Nat}{g:Lit->Option Value}(h:GM 3 W b n g){l:List Int}(hn:l.Nodup)(hl:∀z∈l,Wf z/\(g (.int .i64 z)).isSome=true):l.length<=n:=by
 obtain⟨D,h1,h2,h3⟩:=h;obtain⟨es,rfl⟩:=(h1.tidy mU).isMap
 have hk:∀z∈l,Lit.int .i64 z∈es.map (·.1):=λz hz=>by
  obtain⟨hw,hs⟩:=hl z hz;have hh:=(h3 (.int .i64 z) (mU.key (mJ hw))).2;rw[hs,Maps.has_eq,List.any_eq_true]at hh;obtain⟨p,hp,hq⟩:=hh;rw[<-WideAt.sameKey_eq hq];exact List.mem_map_of_mem hp
 have hlen:∀(l:List Int) (ks:List Lit),l.Nodup->(∀z∈l,Lit.int .i64 z∈ks)->l.length<=ks.length:=by
  intro l
  induction l with
  | nil=>intro ks _ _;exact fC _
  | cons z l ih =>
    intro ks hn hm;obtain⟨a,c,rfl⟩:=List.append_of_mem (hm z eZ)
    have h1:=ih (a++c) (List.nodup_cons.1 hn).2 λy hy=>by
     have h2:=hm y (List.mem_cons_of_mem _ hy);simp only[List.mem_append,List.mem_cons]at h2 ⊢;rcases h2 with h2|h2|h2
     . exact .inl h2
     . injection h2 with _ h2
       subst h2;exact absurd hy (List.nodup_cons.1 hn).1
     . exact .inr h2
    simp only[List.length_append,List.length_cons]at h1 ⊢;omega
 have h4:=hlen l _ hn hk;rw[List.length_map]at h4;rw[<-h2,Maps.size_eq];exact h4
theorem Ez(g:Lit->Option Value)(x:Fw.Ld)(l:List Fw.Ld):jA g (x::l)=jA (xM g (.int .i64 x.id) (rcv x)) l:=rfl
theorem adQ{a b:Int}(h:a≠b):Lit.int .i64 a≠Lit.int .i64 b:=λq=>h (by injection q)
theorem wD(l:List Fw.Ld):∀(g:Lit->Option Value) (z:Int),z ∉ l.map (·.id)->jA g l (.int .i64 z)=g (.int .i64 z):=by
 induction l with
 | nil=>intro g z h;rfl
 | cons x l ih =>
   intro g z h;simp only[List.map_cons,List.mem_cons,not_or]at h;rw[Ez,ih _ z h.2,oM (adQ h.1)]
theorem sM(l:List Fw.Ld):∀(g:Lit->Option Value) (x:Fw.Ld),(l.map (·.id)).Nodup->x∈l->jA g l (.int .i64 x.id)=some (rcv x):=by
 induction l with
 | nil=>intro g x _ h;simp at h
 | cons y l ih =>
   intro g x hn h;simp only[List.map_cons,List.nodup_cons]at hn;rw[Ez];rcases List.mem_cons.1 h with rfl|h
   . rw[wD l _ _ hn.1,mY]
   . exact ih _ x hn.2 h
theorem adR:∃x0 x1:Fw.Ld,qB Ey 100 50=[x0,x1]/\x0.id=0/\x1.id=1/\rcv x0=.agg #[.int .i64 0,.int .i64 0,.int .i64 100,.int .i64 24]/\rcv x1=.agg #[.int .i64 0,.int .i64 0,.int .i64 100,.int .i64 24]:=by
 have h:=adP;generalize qB Ey 100 50=l at h;rcases l with _ | ⟨x0,_ | ⟨x1,_ | ⟨x2,l⟩⟩⟩
 . simp at h
 . simp at h
 . simp only[List.map_cons,List.map_nil,ldt,List.cons.injEq,and_true]at h
   obtain⟨⟨h1,h2,h3,h4,h5⟩,k1,k2,k3,k4,k5⟩:=h;exact⟨x0,x1,rfl,h1,k1,by unfold rcv;rw[h2,h3,h4,h5],by unfold rcv;rw[k2,k3,k4,k5]⟩
 . simp at h
theorem adS:Fw.cst (kg Ey) 64 0+oW (kg Ey) 64 0<1000:=by decide +kernel
theorem agr:(tl (kg Ey) 100 50 64 (sK Ey 100 50)).length<1000:=by decide +kernel
theorem Xn:qp A1 1 MU=0:=by decide +kernel
theorem aa5:jv A1 1 MU=Ey:=by unfold jv;rw[Xn,if_pos rfl];rfl
theorem adT:Fits MU:=λi h _=>by
 have:∀i:Fin 55,(Lit.int .i64 (MU.c i)).wf=true:=by decide +kernel
 exact this ⟨i,h⟩
theorem Qx(z:Int)(nd:Tr.Nd)(h:Ey z=some nd):nd.kids.length<=64/\0<=nd.sty.c 0/\nd.sty.c 0<=3:=by
 by_cases h0:z=0
 . subst h0
   have e:Ey 0=some ⟨-1,[1],Re.zero⟩:=rfl;rw[e]at h;injection h with h;subst h;exact⟨by decide,by decide,by decide⟩
 . by_cases h1:z=1
   . subst h1
     have e:Ey 1=some ⟨0,[],MU⟩:=rfl;rw[e]at h;injection h with h;subst h;exact⟨by decide,by decide,by decide⟩
   . exfalso
     have e:Ey z=none:=by
      have e1:Ey=Tr.set A1 1 ⟨0,[],MU⟩:=rfl;rw[e1,Tr.aK _ _ h1];have e2:=Tr.Dh (t:=T0) (x:=1) (u:=0) (i:=0) (p:=⟨-1,[],Re.zero⟩) rfl rfl z;show Tr.pK T0 1 0 0 z=none;rw[e2,if_neg h1,if_neg h0];unfold T0;rw[if_neg h0]
     rw[e]at h;cases h
theorem Xo:nC Ey [1]=[1]:=by decide +kernel
theorem aa6:uH Ey 1 0=true:=by decide +kernel
theorem aa7:uH Ey 2 1=true:=by decide +kernel
theorem adU:(lD Ey 64 0).length<1000:=by decide +kernel
end Go.Proofs.YtmidaiklolmkcaaGreat.Fix
namespace Go.Proofs.YtmidaiklolmkcaaGreat.Fix
def T2(s:Re.St):Tr.T:=Tr.yE A1 1 s
section
variable {s:Re.St} (h3:s.c 0≠3) (hp2:s.c 1≠2) (hp3:s.c 1≠3)
include h3 hp2 hp3
end
end Go.Proofs.YtmidaiklolmkcaaGreat.Fix
namespace Go.Proofs.YtmidaiklolmkcaaGreat.Fix
open Go.ChangeShapes Go.WideShapes Go.ChangeAt Go.RowKit
def Jm(k n:Int):Bool := !((decide (k=1)&&(decide (1048576<n)||decide (n < -1048576)))||(decide (k=2)&&decide (10000<n)))
def nZ(t:Re.St):Bool:=Re.lens.all λi=>Jm (t.c i) (t.c (i+1))
theorem qO{W:World}{base n:Nat}{v:Value}{xs:List Value}(y0 y1 y2 y3:Int)(hown:W.ownsRow base 37 2 v n xs)(hbase:base<=W.heap.size)(hn:n<=1000) :
  ∃A c w',(Builtin.append_ #[105,105] 105 #[v,.slice (some ⟨W.heap.size,0,none⟩) 2 2]).run Tryz.prog (W.alloc (.cells #[.int .i64 y0,.int .i64 y1,.int .i64 y2,.int .i64 y3] 37))=.ok (.slice A (n+2) c) w'/\w'.ownsRow base 37 2 (.slice A (n+2) c) (n+2) (xs++[.int .i64 y0,.int .i64 y1,.int .i64 y2,.int .i64 y3])/\Below base W w'/\base<=w'.heap.size:=by
 obtain⟨i0,hi0,hz0,hz1,hz2⟩:=info_parts PX;have hA:=At.new W (.cells #[.int .i64 y0,.int .i64 y1,.int .i64 y2,.int .i64 y3] 37)
 obtain⟨v',w',hr,ho,hg,_,_⟩:=run_append_own_at (P:=Tryz.prog) (w:=W.alloc (.cells #[.int .i64 y0,.int .i64 y1,.int .i64 y2,.int .i64 y3] 37)) base 105 105 37 i0 _ 2 16 Tryz.underlying105 hi0 hz0 hz1 hz2 rfl aH v n _ (hown.alloc _) ⟨W.heap.size,0,none⟩ 2 2 [.int .i64 y0,.int .i64 y1,.int .i64 y2,.int .i64 y3] rfl
  (by intro j u hj
      rw[addr_add,Nat.zero_add,hA.cell,<-hj]
      simp)
  JB Py aj jM
 obtain⟨A,c,rfl⟩:=fK ho;have hB:Below base W (W.alloc (.cells #[.int .i64 y0,.int .i64 y1,.int .i64 y2,.int .i64 y3] 37)):=Below.alloc aF hbase _;refine⟨A,c,w',hr,ho,hB.grown hg jM (λg hgg=>(hown.lt g hgg).1),?_⟩;have h1:=hg.size;have h2:W.heap.size<=(W.alloc (.cells #[.int .i64 y0,.int .i64 y1,.int .i64 y2,.int .i64 y3] 37)).heap.size:=by simp
 omega
set_option maxRecDepth 100000 in
set_option maxHeartbeats 4000000 in
theorem OZ(t:Re.St)(w:World):Calls Tryz.prog 18 #[.agg (cells t)] w λe w'=>e=.returned (.bool (nZ t))/\Below w.heap.size w w':=by
 go_enter Tryz.func18,Tryz.ntmps18
 go_upto_region 1 with(fail)
 have hA:At (w.alloc (.cells (cells t) 46)) w.heap.size (.cells (cells t) 46):=At.new _ _;have hB:Below w.heap.size w (w.alloc (.cells (cells t) 46)):=Below.alloc' aF _;generalize w.alloc (.cells (cells t) 46)=W1 at *;generalize UQ:w.heap.size=bx at *;have lb:=hA.lt;have YH:=ah UQ;clear UQ;have d3:=hA.st 3 aH rfl;have d4:=hA.st 4 aH rfl;have d5:=hA.st 5 aH rfl;have d6:=hA.st 6 aH rfl;have d7:=hA.st 7 aH rfl;have d8:=hA.st 8 aH rfl;have d9:=hA.st 9 aH rfl;have d10:=hA.st 10 aH rfl;have d11:=hA.st 11 aH rfl;have d12:=hA.st 12 aH rfl;have d13:=hA.st 13 aH rfl;have d14:=hA.st 14 aH rfl;have d41:=hA.st 41 aH rfl;have d42:=hA.st 42 aH rfl;have n1:(W1.alloc (.cells #[.int .i64 (t.c 3),.int .i64 (t.c 4),.int .i64 (t.c 5),.int .i64 (t.c 6),.int .i64 (t.c 7),.int .i64 (t.c 8),.int .i64 (t.c 9),.int .i64 (t.c 10),.int .i64 (t.c 11),.int .i64 (t.c 12),.int .i64 (t.c 13),.int .i64 (t.c 14),.int .i64 (t.c 41),.int .i64 (t.c 42)] 37)).ownsRow W1.heap.size 37 2 (.slice (some ⟨W1.heap.size,0,none⟩) 7 7) 7 (iW t (lp 0)):=yL aD rfl aH;have hA2:=At.alloc hA (.cells #[.int .i64 (t.c 3),.int .i64 (t.c 4),.int .i64 (t.c 5),.int .i64 (t.c 6),.int .i64 (t.c 7),.int .i64 (t.c 8),.int .i64 (t.c 9),.int .i64 (t.c 10),.int .i64 (t.c 11),.int .i64 (t.c 12),.int .i64 (t.c 13),.int .i64 (t.c 14),.int .i64 (t.c 41),.int .i64 (t.c 42)] 37);have hB2:Below W1.heap.size W1 (W1.alloc (.cells #[.int .i64 (t.c 3),.int .i64 (t.c 4),.int .i64 (t.c 5),.int .i64 (t.c 6),.int .i64 (t.c 7),.int .i64 (t.c 8),.int .i64 (t.c 9),.int .i64 (t.c 10),.int .i64 (t.c 11),.int .i64 (t.c 12),.int .i64 (t.c 13),.int .i64 (t.c 14),.int .i64 (t.c 41),.int .i64 (t.c 42)] 37)):=Below.alloc' aF _;have N1:=ah n1;clear n1
 go_upto_region 2 with(fail)
 generalize hbase:W1.heap.size=base at *;have lbx:=ah (show bx<base from hbase▸lb);generalize World.alloc W1 _=W2 at *;have hsz2:base<=W2.heap.size:=hbase▸hB2.size;clear hbase;clear d3 d4 d5 d6 d7 d8 d9 d10 d11 d12 d13 d14 d41 d42;go_wp2
 go_loopw [3,4] (λv i wr=>∃(k n:Nat) (A:Option Addr) (c:Nat),k<=4/\i=.int .i64 k/\v=.slice A n c/\Hid (n=7+2*k)/\Hid (wr.ownsRow base 37 2 (.slice A n c) n (iW t (lp k)))/\At wr bx (.cells (cells t) 46)/\Below base W1 wr/\base<=wr.heap.size) (λ_ i _=>4-(intOf i).toNat)
 case atStart=>exact⟨0,7,_,_,by omega,rfl,rfl,ah rfl,N1,hA2,hB2,hsz2⟩
 case round =>
  obtain⟨k,n,A,c,hk,rfl,rfl,HN,O1,a,hB3,hsz⟩:=hrel;obtain rfl|rfl|rfl|rfl|rfl:k=0\/k=1\/k=2\/k=3\/k=4:=by omega
  . obtain rfl:n=7:=by have:=HN.out;omega
    obtain⟨A',c',w1,jV,s1,s2,s3⟩:=qO (W:=wr.drew) (t.c 15) (t.c 16) (t.c 23) (t.c 24) O1.out hsz aH;have jW:∀W',Below base wr W'->W'.cell? ⟨bx,15,none⟩=some (.int .i64 (t.c 15))/\W'.cell? ⟨bx,16,none⟩=some (.int .i64 (t.c 16))/\W'.cell? ⟨bx,23,none⟩=some (.int .i64 (t.c 23))/\W'.cell? ⟨bx,24,none⟩=some (.int .i64 (t.c 24)):=λW' h=>⟨(bE a lbx.out h).st 15 aH rfl,(bE a lbx.out h).st 16 aH rfl,(bE a lbx.out h).st 23 aH rfl,(bE a lbx.out h).st 24 aH rfl⟩;have E1:Hid (w1.ownsRow base 37 2 (.slice A' 9 c') 9 (iW t (lp 1))):=ah s1;have B1:Below base wr w1:=(Below.drew (Below.refl base wr)).trans s2;have a1:=ah (show At w1 bx _ from bE a lbx.out B1);have hB4:Below base W1 w1:=hB3.trans B1;have K1:=ah jW;have R1:=ah jV;have HB1:=ah B1;clear s1 s2 jW jV B1 a
    go_upto_region 5 with(fail)
    refine lF (S:=(λW'=>W'.cell? ⟨bx,15,none⟩=some (.int .i64 (t.c 15))/\W'.cell? ⟨bx,16,none⟩=some (.int .i64 (t.c 16))/\W'.cell? ⟨bx,23,none⟩=some (.int .i64 (t.c 23))/\W'.cell? ⟨bx,24,none⟩=some (.int .i64 (t.c 24)))) 11 ?_ ?_
    . exact Z2v
    intro hS0;refine aW 0 ?_;refine aW 1 ?_;refine aW 2 ?_;refine aW 3 ?_;refine aW 4 ?_;refine aW 5 ?_;refine aW 6 ?_;refine aW 7 ?_;refine aW 8 ?_;refine tk1 9 ?_;refine uM ?_ (hS:=by first|(intro hlt;exact absurd hlt aH)|(intro _;exact K1.out _ (Below.alloc (Below.drew aF) hsz _)));refine tk1 10 ?_;refine ak.Step.value (dL (.tmp 25) (.tmp 34) 105 rfl rfl rfl R1.out) ⟨λ_=>K1.out _ HB1.out,?_⟩
    (try simp only[bL,bM,bN,tks])
    refine tk1 11 ?_;refine uM ?_ (hS:=by first|(intro hlt;exact absurd hlt aH)|(intro _;omega));refine ko ?_;go_wp2
    go_roundw
    case rel=>exact⟨1,9,_,_,by omega,by go_num,rfl,ah rfl,E1,a1.out,hB4,s3⟩
    case measure=>simp[intOf]
  . obtain rfl:n=9:=by have:=HN.out;omega
    obtain⟨A',c',w1,jV,s1,s2,s3⟩:=qO (W:=wr.drew) (t.c 17) (t.c 18) (t.c 25) (t.c 26) O1.out hsz aH;have jW:∀W',Below base wr W'->W'.cell? ⟨bx,17,none⟩=some (.int .i64 (t.c 17))/\W'.cell? ⟨bx,18,none⟩=some (.int .i64 (t.c 18))/\W'.cell? ⟨bx,25,none⟩=some (.int .i64 (t.c 25))/\W'.cell? ⟨bx,26,none⟩=some (.int .i64 (t.c 26)):=λW' h=>⟨(bE a lbx.out h).st 17 aH rfl,(bE a lbx.out h).st 18 aH rfl,(bE a lbx.out h).st 25 aH rfl,(bE a lbx.out h).st 26 aH rfl⟩;have E1:Hid (w1.ownsRow base 37 2 (.slice A' 11 c') 11 (iW t (lp 2))):=ah s1;have B1:Below base wr w1:=(Below.drew (Below.refl base wr)).trans s2;have a1:=ah (show At w1 bx _ from bE a lbx.out B1);have hB4:Below base W1 w1:=hB3.trans B1;have K1:=ah jW;have R1:=ah jV;have HB1:=ah B1;clear s1 s2 jW jV B1 a
    go_upto_region 5 with(fail)
    refine lF (S:=(λW'=>W'.cell? ⟨bx,17,none⟩=some (.int .i64 (t.c 17))/\W'.cell? ⟨bx,18,none⟩=some (.int .i64 (t.c 18))/\W'.cell? ⟨bx,25,none⟩=some (.int .i64 (t.c 25))/\W'.cell? ⟨bx,26,none⟩=some (.int .i64 (t.c 26)))) 11 ?_ ?_
    . exact Z2v
    intro hS0;refine aW 0 ?_;refine aW 1 ?_;refine aW 2 ?_;refine aW 3 ?_;refine aW 4 ?_;refine aW 5 ?_;refine aW 6 ?_;refine aW 7 ?_;refine aW 8 ?_;refine tk1 9 ?_;refine uM ?_ (hS:=by first|(intro hlt;exact absurd hlt aH)|(intro _;exact K1.out _ (Below.alloc (Below.drew aF) hsz _)));refine tk1 10 ?_;refine ak.Step.value (dL (.tmp 25) (.tmp 34) 105 rfl rfl rfl R1.out) ⟨λ_=>K1.out _ HB1.out,?_⟩
    (try simp only[bL,bM,bN,tks])
    refine tk1 11 ?_;refine uM ?_ (hS:=by first|(intro hlt;exact absurd hlt aH)|(intro _;omega));refine ko ?_;go_wp2
    go_roundw
    case rel=>exact⟨2,11,_,_,by omega,by go_num,rfl,ah rfl,E1,a1.out,hB4,s3⟩
    case measure=>simp[intOf]
  . obtain rfl:n=11:=by have:=HN.out;omega
    obtain⟨A',c',w1,jV,s1,s2,s3⟩:=qO (W:=wr.drew) (t.c 19) (t.c 20) (t.c 27) (t.c 28) O1.out hsz aH;have jW:∀W',Below base wr W'->W'.cell? ⟨bx,19,none⟩=some (.int .i64 (t.c 19))/\W'.cell? ⟨bx,20,none⟩=some (.int .i64 (t.c 20))/\W'.cell? ⟨bx,27,none⟩=some (.int .i64 (t.c 27))/\W'.cell? ⟨bx,28,none⟩=some (.int .i64 (t.c 28)):=λW' h=>⟨(bE a lbx.out h).st 19 aH rfl,(bE a lbx.out h).st 20 aH rfl,(bE a lbx.out h).st 27 aH rfl,(bE a lbx.out h).st 28 aH rfl⟩;have E1:Hid (w1.ownsRow base 37 2 (.slice A' 13 c') 13 (iW t (lp 3))):=ah s1;have B1:Below base wr w1:=(Below.drew (Below.refl base wr)).trans s2;have a1:=ah (show At w1 bx _ from bE a lbx.out B1);have hB4:Below base W1 w1:=hB3.trans B1;have K1:=ah jW;have R1:=ah jV;have HB1:=ah B1;clear s1 s2 jW jV B1 a
    go_upto_region 5 with(fail)
    refine lF (S:=(λW'=>W'.cell? ⟨bx,19,none⟩=some (.int .i64 (t.c 19))/\W'.cell? ⟨bx,20,none⟩=some (.int .i64 (t.c 20))/\W'.cell? ⟨bx,27,none⟩=some (.int .i64 (t.c 27))/\W'.cell? ⟨bx,28,none⟩=some (.int .i64 (t.c 28)))) 11 ?_ ?_
    . exact Z2v
    intro hS0;refine aW 0 ?_;refine aW 1 ?_;refine aW 2 ?_;refine aW 3 ?_;refine aW 4 ?_;refine aW 5 ?_;refine aW 6 ?_;refine aW 7 ?_;refine aW 8 ?_;refine tk1 9 ?_;refine uM ?_ (hS:=by first|(intro hlt;exact absurd hlt aH)|(intro _;exact K1.out _ (Below.alloc (Below.drew aF) hsz _)));refine tk1 10 ?_;refine ak.Step.value (dL (.tmp 25) (.tmp 34) 105 rfl rfl rfl R1.out) ⟨λ_=>K1.out _ HB1.out,?_⟩
    (try simp only[bL,bM,bN,tks])
    refine tk1 11 ?_;refine uM ?_ (hS:=by first|(intro hlt;exact absurd hlt aH)|(intro _;omega));refine ko ?_;go_wp2
    go_roundw
    case rel=>exact⟨3,13,_,_,by omega,by go_num,rfl,ah rfl,E1,a1.out,hB4,s3⟩
    case measure=>simp[intOf]
  . obtain rfl:n=13:=by have:=HN.out;omega
    obtain⟨A',c',w1,jV,s1,s2,s3⟩:=qO (W:=wr.drew) (t.c 21) (t.c 22) (t.c 29) (t.c 30) O1.out hsz aH;have jW:∀W',Below base wr W'->W'.cell? ⟨bx,21,none⟩=some (.int .i64 (t.c 21))/\W'.cell? ⟨bx,22,none⟩=some (.int .i64 (t.c 22))/\W'.cell? ⟨bx,29,none⟩=some (.int .i64 (t.c 29))/\W'.cell? ⟨bx,30,none⟩=some (.int .i64 (t.c 30)):=λW' h=>⟨(bE a lbx.out h).st 21 aH rfl,(bE a lbx.out h).st 22 aH rfl,(bE a lbx.out h).st 29 aH rfl,(bE a lbx.out h).st 30 aH rfl⟩;have E1:Hid (w1.ownsRow base 37 2 (.slice A' 15 c') 15 (iW t (lp 4))):=ah s1;have B1:Below base wr w1:=(Below.drew (Below.refl base wr)).trans s2;have a1:=ah (show At w1 bx _ from bE a lbx.out B1);have hB4:Below base W1 w1:=hB3.trans B1;have K1:=ah jW;have R1:=ah jV;have HB1:=ah B1;clear s1 s2 jW jV B1 a
    go_upto_region 5 with(fail)
    refine lF (S:=(λW'=>W'.cell? ⟨bx,21,none⟩=some (.int .i64 (t.c 21))/\W'.cell? ⟨bx,22,none⟩=some (.int .i64 (t.c 22))/\W'.cell? ⟨bx,29,none⟩=some (.int .i64 (t.c 29))/\W'.cell? ⟨bx,30,none⟩=some (.int .i64 (t.c 30)))) 11 ?_ ?_
    . exact Z2v
    intro hS0;refine aW 0 ?_;refine aW 1 ?_;refine aW 2 ?_;refine aW 3 ?_;refine aW 4 ?_;refine aW 5 ?_;refine aW 6 ?_;refine aW 7 ?_;refine aW 8 ?_;refine tk1 9 ?_;refine uM ?_ (hS:=by first|(intro hlt;exact absurd hlt aH)|(intro _;exact K1.out _ (Below.alloc (Below.drew aF) hsz _)));refine tk1 10 ?_;refine ak.Step.value (dL (.tmp 25) (.tmp 34) 105 rfl rfl rfl R1.out) ⟨λ_=>K1.out _ HB1.out,?_⟩
    (try simp only[bL,bM,bN,tks])
    refine tk1 11 ?_;refine uM ?_ (hS:=by first|(intro hlt;exact absurd hlt aH)|(intro _;omega));refine ko ?_;go_wp2
    go_roundw
    case rel=>exact⟨4,15,_,_,by omega,by go_num,rfl,ah rfl,E1,a1.out,hB4,s3⟩
    case measure=>simp[intOf]
  . obtain rfl:n=15:=by have:=HN.out;omega
    obtain⟨g,rfl,hg1,hg2,hgc⟩:=zO O1.out aH
    have CL:Hid (∀(k p:Nat),Re.lens[k]? = some p->wr.cell? ⟨g,k*2,none⟩=some (.int .i64 (t.c p))/\wr.cell? ⟨g,k*2+1,none⟩=some (.int .i64 (t.c (p+1)))):=ah λk p hp=>by
     obtain⟨q0,q1⟩:=vo t (l:=Re.lens) hp;exact⟨hgc _ _ q0,hgc _ _ q1⟩
    have HBW:=ah (hB.trans (hB3.mono (uO lbx.out)));clear O1 N1 hgc hA hA2 hB2 hB a hB3 hg1;generalize wr=W5 at *;go_wp2
    go_loopw [5] (λi wr=>∃k:Nat,k<=15/\i=.int .i64 k/\Hid (((Re.lens.take k).all λi=>Jm (t.c i) (t.c (i+1)))=true)/\wr=W5) (λi _=>15-(intOf i).toNat)
    case atStart=>exact⟨0,by omega,rfl,ah rfl,rfl⟩
    case round =>
     obtain⟨k,hk,rfl,HF,rfl⟩:=hrel;by_cases hlt:k<15
     . have hltz:(k:Int)<15:=by omega
       obtain⟨p,hp⟩:∃p,Re.lens[k]? = some p:=⟨_,List.getElem?_eq_getElem (show k<Re.lens.length from hlt)⟩;obtain⟨c0,c1⟩:=CL.out k p hp;have HS:Hid ((Re.lens.take (k+1)).all (λi=>Jm (t.c i) (t.c (i+1)))=Jm (t.c p) (t.c (p+1))):=ah (by rw[List.take_add_one,hp,List.all_append,HF.out];simp)
       have HT:Hid (Jm (t.c p) (t.c (p+1))=false->nZ t=false):=ah λh=>by
        by_cases e:nZ t=true
        . exfalso
          have:=List.all_eq_true.1 e p (List.mem_of_getElem? hp);rw[h]at this;cases this
        . simpa using e
       clear hp;generalize t.c p=x at *;generalize t.c (p+1)=y at *;by_cases h1:x=1
       . subst h1
         by_cases h2:(1048576:Int)<y
         . have HV:=ah (HT.out (by simp[Jm,h2]))
           exact Z2x
         . by_cases h3:y < -1048576
           . have HV:=ah (HT.out (by simp[Jm,h3]))
             exact Z2x
           . have HV:=ah (show Jm 1 y=true by simp[Jm,h2,h3])
             exact Z2o
       . by_cases h4:x=2
         . subst h4
           by_cases h5:(10000:Int)<y
           . have HV:=ah (HT.out (by simp[Jm,h5]))
             exact Z2x
           . have HV:=ah (show Jm 2 y=true by simp[Jm,h5])
             exact Z2o
         . have HV:=ah (show Jm x y=true by simp[Jm,h1,h4])
           exact Z2o
     . obtain rfl:k=15:=by omega
       have HV:Hid (nZ t=true):=ah HF.out;exact Z2x
end Go.Proofs.YtmidaiklolmkcaaGreat.Fix
namespace Go.Proofs.YtmidaiklolmkcaaGreat.Fix
theorem EA{t:Re.St}(h:Re.valid t=true){i:Nat}(hi:i∈Re.sizes):0<=t.c i/\t.c i<=1048576:=by
 have hs:Re.xD t=true:=by
  unfold Re.valid at h;simp only[Bool.and_eq_true]at h;exact h.1.1.1.2
 have:=List.all_eq_true.1 hs i hi;simpa[Re.inn]using this
theorem O4{t:Re.St}(h:Re.valid t=true):0<=t.c 0/\t.c 0<=3:=by
 unfold Re.valid Re.gD at h;simp only[Bool.and_eq_true,Re.inn,decide_eq_true_eq]at h;exact h.1.1.1.1.1.1.1.1.1.1.1
theorem zk{t:Re.St}(h:Re.valid t=true){i:Nat}(hi:i<4):0<=Fw.ed t i/\Fw.ed t i<=2097152:=by
 have h1:=EA h (i:=31+i) (by rcases(by omega:i=0\/i=1\/i=2\/i=3)with rfl|rfl|rfl|rfl<;>decide);have h2:=EA h (i:=35+i) (by rcases(by omega:i=0\/i=1\/i=2\/i=3)with rfl|rfl|rfl|rfl<;>decide);unfold Fw.ed Fw.wr;omega
end Go.Proofs.YtmidaiklolmkcaaGreat.Fix
namespace Go.Proofs.YtmidaiklolmkcaaGreat.Fix
open Go.ChangeShapes Go.WideShapes Go.ChangeAt Go.RowKit
theorem EB{g h:Int->Nat}:∀{l:List Int},(∀k∈l,g k<=h k)->(l.map g).sum<=(l.map h).sum
 | [],_=>aG _
 | k::l,H=>by
   simp only[List.map_cons,List.sum_cons];have h1:=H k eZ;have h2:=EB (l:=l) λk hk=>H k (by simp[hk]);omega
theorem Jo(c:Nat)(g:Int->Nat):∀l:List Int,(l.map λk=>c*g k).sum=c*(l.map g).sum
 | []=>rfl
 | k::l=>by simp only[List.map_cons,List.sum_cons,Jo c g l,Nat.mul_add]
theorem Jp(p q:Int->Bool)(g:Int->Nat):∀l:List Int,((l.filter λk=>p k && !q k).map g).sum+((l.filter λk=>p k&&q k).map g).sum<=(l.map g).sum
 | []=>aG _
 | k::l=>by
   have ih:=Jp p q g l;simp only[List.filter_cons,List.map_cons,List.sum_cons];cases p k<;>cases q k<;>simp<;>omega
theorem sN(g:Int->List Int):∀l:List Int,(l.flatMap g).length=(l.map λk=>(g k).length).sum
 | []=>rfl
 | k::l=>by simp only[List.flatMap_cons,List.length_append,List.map_cons,List.sum_cons,sN g l]
section
variable {T:Tr.T} (H:Tr.WF T)
include H
theorem Cv:∀{f:Nat} {a x:Int},Tr.Fit T f a->x∈lD T f a->Tr.EN T a x:=by
 intro f
 induction f with
 | zero=>intro a x h;exact h.elim
 | succ f ih =>
   intro a x h hx;obtain⟨nd,hT,hk⟩:=h;rcases sI hx with rfl|⟨c,hc,hx⟩
   . exact .refl hT
   . have hm:=nO hT hc
     exact(H.Uv hT hm).trans (ih (hk c hm) hx)
theorem GY:∀{f:Nat} {a:Int},Tr.Fit T f a->(lD T f a).Nodup:=by
 intro f
 induction f with
 | zero=>intro a hf;exact hf.elim
 | succ f ih =>
   intro a hf;obtain⟨nd,h1,hk⟩:=hf;obtain⟨n,_,hd⟩:=H.deep a nd h1;have e:dF T a=nd.kids:=by unfold dF;rw[h1];rfl
   have hn:=H.nodup a nd h1
   have hall:∀k,k∈nC T nd.kids++pY T nd.kids->k∈nd.kids:=λk hk=>by
    rcases List.mem_append.1 hk with h|h
    . exact(List.mem_filter.1 h).1
    . exact(List.mem_filter.1 h).1
   have hnd:(nC T nd.kids++pY T nd.kids).Nodup:=by
    refine List.nodup_append.2 ⟨hn.filter _,hn.filter _,λx hx y hy e => ?_⟩;subst e;have q1:=(List.mem_filter.1 hx).2;have q2:=(List.mem_filter.1 hy).2;simp only[Bool.and_eq_true,Bool.not_eq_true']at q1 q2;rw[q1.2]at q2;exact absurd q2.2 aH
   rw[lD,e,<-List.flatMap_append,List.nodup_cons];refine⟨λhm => ?_,?_⟩
   . obtain⟨k,hkm,hx⟩:=List.mem_flatMap.1 hm
     have:=((Cv H (hk k (hall k hkm)) hx).le (H.rR h1 (hall k hkm) hd) hd).1;omega
   . refine List.pairwise_flatMap.2 ⟨λk hkm=>ih (hk k (hall k hkm)),?_⟩
     have hq:∀l:List Int,(∀k∈l,k∈nd.kids)->l.Nodup->l.Pairwise (λa₁ a₂=>∀x∈lD T f a₁,∀y∈lD T f a₂,x≠y):=by
      intro l
      induction l with
      | nil=>intro _ _;exact .nil
      | cons k l ihl =>
        intro hl hn;refine .cons (λk' hk' x hx y hy e => ?_) (ihl (λj hj=>hl j (List.mem_cons_of_mem _ hj)) (List.nodup_cons.1 hn).2);subst e;have m1:=hl k List.mem_cons_self;have m2:=hl k' (List.mem_cons_of_mem _ hk');have a1:=Cv H (hk k m1) hx;have a2:=Cv H (hk k' m2) hy;obtain⟨ndx,hlx⟩:=a1.live;obtain⟨q,_,TA⟩:=H.deep x ndx hlx;have e:=a1.uniq a2 (H.rR h1 m1 hd) (H.rR h1 m2 hd) TA;exact(List.nodup_cons.1 hn).1 (e▸hk')
     exact hq _ hall hnd
theorem adV{f:Nat}{a:Int}(hf:Tr.Fit T f a):(lD T f a).length<=(Tr.sub T f a).length :=
 (GY H hf).length_le_of_subset λx hx=>(H.gF hf).2 (Cv H hf hx)
variable (hd8:∀x d,Tr.Dp T x d->d<=8)
include hd8
theorem Xp:∀(f:Nat) (z:Int) (d:Nat),Tr.Dp T z d->Fw.cst (kg T) f z<=3^(9-d)*(Tr.sub T (f+1) z).length:=by
 intro f
 induction f with
 | zero =>
   intro z d h;obtain⟨nd,hT⟩:=h.live;rw[Tr.eF hT];have:=Nat.one_le_two_pow (n:=0);have h3:1<=3^(9-d):=Nat.one_le_pow _ _ aH;have h4:1<=(z::nd.kids.flatMap (Tr.sub T 0)).length:=by simp
   exact aJ (by show 1<=1*1;decide) (Nat.mul_le_mul h3 h4)
 | succ f ih =>
   intro z d h;obtain⟨nd,hT⟩:=h.live;have e:dF T z=nd.kids:=by unfold dF;rw[hT];rfl
   have hd:=hd8 z d h;have h1:((nC T nd.kids).map (Fw.cst (kg T) f)).sum<=(nd.kids.map (Fw.cst (kg T) f)).sum:=aJ (Nat.le_add_right _ _) (Jp (λk=>(dw T k).c 0 != 3) (λk=>ny (dw T k)) _ nd.kids)
   have h2:(nd.kids.map (Fw.cst (kg T) f)).sum<=(nd.kids.map λk=>3^(8-d)*(Tr.sub T (f+1) k).length).sum:=EB λk hk=>by
    have:=ih k (d+1) (H.rR hT hk h)
    rwa [show 9-(d+1)=8-d by omega]at this
   rw[Jo (3^(8-d)) (λk=>(Tr.sub T (f+1) k).length)]at h2;have h3:Fw.cst (kg T) (f+1) z=1+3*((nC T nd.kids).map (Fw.cst (kg T) f)).sum:=by
    rw[Fw.cst];show 1+3*((nC T (dF T z)).map _).sum=_;rw[e]
   have h4:(Tr.sub T (f+1+1) z).length=1+(nd.kids.map λk=>(Tr.sub T (f+1) k).length).sum:=by
    rw[Tr.eF hT,List.length_cons,sN];omega
   rw[h3,h4,show 9-d=(8-d)+1 by omega,Nat.pow_succ];generalize (nd.kids.map λk=>(Tr.sub T (f+1) k).length).sum=S at *;have h5:1<=3^(8-d):=Nat.one_le_pow _ _ aH;generalize 3^(8-d)=p at *;have h6:p*3*(1+S)=3*p+3*(p*S):=by
    rw[Nat.mul_add,Nat.mul_one,Nat.mul_right_comm,Nat.mul_comm (p*S) 3,Nat.mul_comm p 3]
   omega
theorem aa8:∀(f:Nat) (z:Int) (d:Nat),Tr.Dp T z d->oW (kg T) f z<=39366*(9-d)*(Tr.sub T (f+1) z).length:=by
 have hc:∀f z d,Tr.Dp T z d->Fw.cst (kg T) f z<=19683*(Tr.sub T (f+1) z).length:=λf z d h =>
  aJ (Xp H hd8 f z d h) (Nat.mul_le_mul_right _ (aJ (Nat.pow_le_pow_right aH (show 9-d<=9 by omega)) aH))
 intro f
 induction f with
 | zero =>
   intro z d h;obtain⟨nd,hT⟩:=h.live;have hd:=hd8 z d h;rw[Tr.eF hT];have h4:1<=(z::nd.kids.flatMap (Tr.sub T 0)).length:=by simp
   have h3:1<=39366*(9-d):=by omega
   exact aJ (by show 1<=1*1;decide) (Nat.mul_le_mul h3 h4)
 | succ f ih =>
   intro z d h;obtain⟨nd,hT⟩:=h.live;have e:dF T z=nd.kids:=by unfold dF;rw[hT];rfl
   have hd:=hd8 z d h;obtain⟨G,hG⟩:∃G:Int->Nat,G=λk=>(19683+39366*(8-d))*(Tr.sub T (f+1) k).length:=⟨_,rfl⟩
   have g1:∀k∈nd.kids,Fw.cst (kg T) f k+oW (kg T) f k<=G k:=λk hk=>by
    have hk:=H.rR hT hk h;have a:=hc f k _ hk;have b:=ih k (d+1) hk;rw[show 9-(d+1)=8-d by omega]at b;rw[hG];show _<=(19683+39366*(8-d))*_;rw[Nat.add_mul];omega
   have h1:((nC T nd.kids).map (oW (kg T) f)).sum<=((nC T nd.kids).map G).sum:=EB λk hk=>by have:=g1 k (List.mem_filter.1 hk).1;omega
   have h2:((pY T nd.kids).map λk=>Fw.cst (kg T) f k+oW (kg T) f k).sum<=((pY T nd.kids).map G).sum:=EB λk hk=>g1 k (List.mem_filter.1 hk).1;have h3:((nC T nd.kids).map G).sum+((pY T nd.kids).map G).sum<=(nd.kids.map G).sum:=Jp (λk=>(dw T k).c 0 != 3) (λk=>ny (dw T k)) G nd.kids;have h4:(Tr.sub T (f+1+1) z).length=1+(nd.kids.map λk=>(Tr.sub T (f+1) k).length).sum:=by
    rw[Tr.eF hT,List.length_cons,sN];omega
   have h5:=hc (f+1) z d h;have h6:oW (kg T) (f+1) z=Fw.cst (kg T) (f+1) z+((nC T nd.kids).map (oW (kg T) f)).sum+((pY T nd.kids).map λk=>Fw.cst (kg T) f k+oW (kg T) f k).sum:=by
    rw[oW];show _+((nC T (dF T z)).map _).sum+((pY T (dF T z)).map _).sum=_;rw[e]
   have hGk:(nd.kids.map G).sum=(19683+39366*(8-d))*(nd.kids.map λk=>(Tr.sub T (f+1) k).length).sum:=by rw[hG];exact Jo _ _ _
   rw[hGk]at h3;rw[h4]at h5 ⊢;rw[h6,show 9-d=(8-d)+1 by omega];clear hG hGk;generalize (nd.kids.map λk=>(Tr.sub T (f+1) k).length).sum=S at *;have h7:39366*(8-d+1)*(1+S)=39366*(8-d)+39366+(39366*(8-d)+39366)*S:=by
    rw[Nat.mul_add,Nat.mul_one,Nat.mul_add,Nat.mul_one]
   have h8:(39366*(8-d)+39366)*S=(19683+39366*(8-d))*S+19683*S:=by
    rw[<-Nat.add_mul];congr 1;omega
   omega
end
theorem Db(B:Int->Fw.Bx)(f:Nat)(z r0 r1 t0 t1:Int):(Fw.lay B f z r0 r1 t0 t1).id=z:=rfl
theorem Xq(T:Tr.T)(ww wh:Int):∀(f:Nat) (x:Fw.Ld),(tl (kg T) ww wh f x).map (·.id)=lD T (f+1) x.id:=by
 intro f
 induction f with
 | zero =>
   intro x;have e:∀l:List Int,l.flatMap (lD T 0)=[]:=λl=>List.flatMap_eq_nil_iff.2 λ_ _=>rfl;rw[lD,e,e];rfl
 | succ f ih =>
   intro x;have hc:=Fw.Md (kg T) (f+1) x.id x.i0 x.i1 (λh=>by omega);rw[tl,lD,List.map_cons,List.map_append,List.map_flatMap,List.map_flatMap];congr 1;congr 1
   . rw[<-show(kg T x.id).fl=nC T (dF T x.id)from rfl,<-hc,List.flatMap_map]
     exact congrArg (λg=>List.flatMap g _) (funext λk=>ih _)
   . exact congrArg (λg=>List.flatMap g _) (funext λk=>ih _)
structure xS(T:Tr.T)(n:Nat):Prop where
 wf:Tr.WF T
 num:(Tr.ord T).length=n
 few:n<=64
 deep:∀x d,Tr.Dp T x d->d<=8
 val:∀z nd,T z=some nd->Re.valid nd.sty=true
theorem xS.Xr{T:Tr.T}{n:Nat}(h:xS T n):Tr.Fit T 65 0/\Tr.sub T 65 0=Tr.ord T:=by
 have:=Tr.Fit.mono h.wf.rT 65 aH;exact⟨this.1,this.2.1⟩
theorem SV(B:Int->Fw.Bx){w:World}{t n n0:Nat}{L:Lay}{T:Tr.T}(g:Good w t L T n n0)(M:xS T n)(hBT:∀z,Dsh T z->B z=kg T z)(ww wh:Int)
  (h1:Fw.cst B 64 0+oW B 64 0<maxLen) (h2:((tl B (max ww 0) (max wh 0) 64 (Bh B (max ww 0) (max wh 0))).map (·.id)).Nodup) (h3:∀z∈(tl B (max ww 0) (max wh 0) 64 (Bh B (max ww 0) (max wh 0))).map (·.id),0<=z/\z<4096) :
  Calls Tryz.prog 7 #[.pointer (some ⟨t,0,none⟩),.int .i64 ww,.int .i64 wh] w λe w'=>(∃b,e=.returned (.map (some b))/\w.heap.size<=b/\GM 3 w' b (qN T B (max ww 0) (max wh 0)).length (xk T B (max ww 0) (max wh 0)))/\Below w.heap.size w w':=by
 have b3:(lD T 64 0).length<=64:=by
  have:=adV M.wf M.wf.rT;have hn:=M.num;unfold Tr.ord at hn;rw[hn]at this;exact aJ this M.few
 have hk:∀z nd,T z=some nd->nd.kids.length<=64:=λz nd h=>by
  have:=M.wf.qK h;rw[M.num]at this;exact aJ this M.few
 have hl:=Tr.yD h2 h3;rw[List.length_map]at hl;have k:=GV B g.inv.rep M.wf hk (λz nd h=>O4 (M.val z nd h)) hBT ww wh h1 JK JK;refine k.mono ?_;rintro e w' ⟨⟨b,nr,rfl,hb,hG,hle⟩,hB⟩;refine⟨⟨b,rfl,hb,?_⟩,hB⟩
 have hsub:∀z∈(qN T B (max ww 0) (max wh 0)).map (·.id),z∈(tl B (max ww 0) (max wh 0) 64 (Bh B (max ww 0) (max wh 0))).map (·.id):=λz hz=>by
  unfold qN at hz;split at hz
  . exact hz
  . simp at hz
 have hnd:((qN T B (max ww 0) (max wh 0)).map (·.id)).Nodup:=by
  unfold qN;split
  . exact h2
  . exact .nil
 have hge:(qN T B (max ww 0) (max wh 0)).length<=nr:=by
  have:=hG.ge (l:=(qN T B (max ww 0) (max wh 0)).map (·.id)) hnd λz hz=>by
   refine⟨(iX _).2 (by have:=h3 z (hsub z hz);omega),?_⟩;obtain⟨x,hx,rfl⟩:=List.mem_map.1 hz;unfold xk;rw[sM _ _ x hnd hx];rfl
  rwa [List.length_map]at this
 rwa [show(qN T B (max ww 0) (max wh 0)).length=nr by omega]
theorem xS.bd{T:Tr.T}{n:Nat}(M:xS T n):Fw.cst (kg T) 64 0+oW (kg T) 64 0<maxLen:=by
 obtain⟨rd,hrd,hru⟩:=M.wf.root;have h0:Tr.Dp T 0 0:=.root hrd;have ajt:(Tr.sub T 65 0).length<=64:=by rw[M.Xr.2,M.num];exact M.few
 have b1:=Xp M.wf M.deep 64 0 0 h0;have b2:=aa8 M.wf M.deep 64 0 0 h0;rw[show 3^(9-0)=19683 from rfl]at b1;have e65:Tr.sub T (64+1) 0=Tr.sub T 65 0:=rfl;rw[e65]at b1 b2;generalize (Tr.sub T 65 0).length=q at *;generalize Fw.cst (kg T) 64 0=x at *;generalize oW (kg T) 64 0=y at *;unfold maxLen;omega
theorem xS.zl{T:Tr.T}{n:Nat}(M:xS T n)(ww wh:Int):((tl (kg T) ww wh 64 (sK T ww wh)).map (·.id)).Nodup/\∀z∈(tl (kg T) ww wh 64 (sK T ww wh)).map (·.id),0<=z/\z<4096:=by
 have e:=Xq T ww wh 64 (sK T ww wh);rw[show(sK T ww wh).id=0 from rfl]at e;rw[e];refine⟨GY M.wf M.Xr.1,λz hz => ?_⟩;obtain⟨nd,h⟩:=sJ M.Xr.1 hz;exact M.wf.range z nd h
theorem Ms{w:World}{t n n0:Nat}{L:Lay}{T:Tr.T}(g:Good w t L T n n0)(M:xS T n)(ww wh:Int) :
  Calls Tryz.prog 7 #[.pointer (some ⟨t,0,none⟩),.int .i64 ww,.int .i64 wh] w λe w'=>(∃b,e=.returned (.map (some b))/\w.heap.size<=b/\GM 3 w' b (qB T (max ww 0) (max wh 0)).length (pF T (max ww 0) (max wh 0)))/\Below w.heap.size w w' :=
 SV (kg T) g M (λ_ _=>rfl) ww wh M.bd (M.zl _ _).1 (M.zl _ _).2
theorem O5(l:List Fw.Ld):∀(g:Lit->Option Value) (k:Lit),(∀v,g k=some v->∃x,v=rcv x)->∀v,jA g l k=some v->∃x,v=rcv x:=by
 induction l with
 | nil=>intro g k h v hv;exact h v hv
 | cons x l ih =>
   intro g k h v hv;refine ih (xM g (.int .i64 x.id) (rcv x)) k (λu hu => ?_) v hv;by_cases e:k=.int .i64 x.id
   . rw[e,mY]at hu
     injection hu with hu;exact⟨x,hu.symm⟩
   . rw[oM e]at hu
     exact h u hu
theorem O6(T:Tr.T)(B:Int->Fw.Bx)(ww wh:Int)(k:Lit):xk T B ww wh k=none\/∃x,xk T B ww wh k=some (rcv x):=by
 cases h:xk T B ww wh k with
 | none=>exact .inl rfl
 | some v =>
   obtain⟨x,rfl⟩:=O5 _ (λ_=>none) k (λv h=>by cases h) v h;exact .inr ⟨x,rfl⟩
def BS(t:Int):Prop := -1<=t/\t<=9223372036854775807
theorem pG(s:Re.St)(y:Nat)(n base:Int):0<=Fw.lim s y n base/\Fw.lim s y n base<=1099511627776:=by
 unfold Fw.lim Fx.limit;generalize Fx.len _ _ base (-1099511627776)=lo;generalize Fx.len _ _ base 1099511627776=hi;unfold Fx.mx Fx.clamp Fx.cut
 repeat' split
 all_goals omega
theorem jo{s:Re.St}(hv:Re.valid s=true)(y:Nat):0<=Fw.iB s y/\Fw.iB s y<=4194304/\Fw.iB s y=Fw.ed s (Fw.sd y 0)+Fw.ed s (Fw.sd y 1):=by
 have h1:=zk hv (i:=Fw.sd y 0) (by unfold Fw.sd;(repeat' split)<;>omega);have h2:=zk hv (i:=Fw.sd y 1) (by unfold Fw.sd;(repeat' split)<;>omega);unfold Fw.iB Fw.wr;omega
theorem cO{x:Int}(h : -9223372036854775808<=x/\x<=9223372036854775807):Fw.wr x=x:=by unfold Fw.wr;omega
theorem EC{s:Re.St}(hv:Re.valid s=true)(y:Nat){n:Int}(h:0<=n/\n<=4611686018427387904):BS (Fw.wr (n+Fw.iB s y)):=by
 have:=jo hv y;rw[cO aj];unfold BS;omega
theorem Qy{s:Re.St}(hv:Re.valid s=true)(y:Nat)(r0 r:Int){t:Int}(ht:BS t)(h:t ≠ -1):0<=Fw.jk s y r0 r t/\Fw.jk s y r0 r t+Fw.iB s y<=9223372036854775807:=by
 have:=jo hv y;unfold BS at ht;unfold Fw.jk;rw[if_pos h,cO aj];omega
theorem ED(s:Re.St)(y:Nat)(r0 r:Int):(0<=Fw.jk s y r0 r (-1)/\Fw.jk s y r0 r (-1)<=1099511627776)\/(y≠0/\Fw.jk s y r0 r (-1) = -1):=by
 unfold Fw.jk;rw[if_neg aH];split
 . exact .inl (pG _ _ _ _)
 . split
   . exact .inl (pG _ _ _ _)
   . rename_i h;exact .inr ⟨h,rfl⟩
def Big(B:Int->Fw.Bx)(x:Fw.Ld):Prop:=(Fw.iB (B x.id).sty 0<=x.s0/\x.s0<=9223372036854775807)/\(Fw.iB (B x.id).sty 1<=x.s1/\x.s1<=9223372036854775807)
section
variable {B:Int->Fw.Bx} (hv:∀z,Re.valid (B z).sty=true)
include hv
theorem Big.iU(cont:Int->Int->Int->List Fw.Ld×Int)(z r0 r1:Int){t0 t1:Int}(h0:BS t0)(h1:BS t1):Big B (Fw.iU B cont z r0 r1 t0 t1):=by
 have e0:=jo (hv z) 0;have e1:=jo (hv z) 1;refine⟨?_,?_⟩
 . show Fw.iB (B z).sty 0<=Fw.wr (Fw.jk (B z).sty 0 r0 r0 t0+Fw.iB (B z).sty 0)/\Fw.wr (Fw.jk (B z).sty 0 r0 r0 t0+Fw.iB (B z).sty 0)<=9223372036854775807
   by_cases h:t0 = -1
   . rw[h]
     rcases ED (B z).sty 0 r0 r0 with q|⟨q,_⟩
     . rw[cO aj];omega
     . exact absurd rfl q
   . have q:=Qy (hv z) 0 r0 r0 h0 h
     rw[cO aj];omega
 . show Fw.iB (B z).sty 1<=Fw.wr ((if Fw.jk (B z).sty 1 r0 r1 t1 = -1 then Fw.lim (B z).sty 1 (cont z (Fw.jk (B z).sty 0 r0 r0 t0) (Fw.jk (B z).sty 1 r0 r1 t1)).2 r1 else Fw.jk (B z).sty 1 r0 r1 t1)+Fw.iB (B z).sty 1)/\Fw.wr ((if Fw.jk (B z).sty 1 r0 r1 t1 = -1 then Fw.lim (B z).sty 1 (cont z (Fw.jk (B z).sty 0 r0 r0 t0) (Fw.jk (B z).sty 1 r0 r1 t1)).2 r1 else Fw.jk (B z).sty 1 r0 r1 t1)+Fw.iB (B z).sty 1)<=9223372036854775807
   have hl:=pG (B z).sty 1 (cont z (Fw.jk (B z).sty 0 r0 r0 t0) (Fw.jk (B z).sty 1 r0 r1 t1)).2 r1;generalize Fw.lim (B z).sty 1 (cont z (Fw.jk (B z).sty 0 r0 r0 t0) (Fw.jk (B z).sty 1 r0 r1 t1)).2 r1=l at *;by_cases h:t1 = -1
   . rw[h]
     rcases ED (B z).sty 1 r0 r1 with q|⟨_,q⟩
     . rw[if_neg aj,cO aj];omega
     . rw[q,if_pos rfl,cO aj];omega
   . have q:=Qy (hv z) 1 r0 r1 h1 h
     rw[if_neg aj,cO aj];omega
theorem nP:BS (-1):=by unfold BS;omega
theorem Big.tok{x:Fw.Ld}(h:Big B x):BS x.s0/\BS x.s1:=by
 have e0:=jo (hv x.id) 0;have e1:=jo (hv x.id) 1;obtain⟨a,b⟩:=h;unfold BS;omega
omit hv in
theorem zm(l:Nat->Fe.It)(n:Nat)(x:Int)(i:Nat):0<=(Fw.sizes l n x).getD i 0/\(Fw.sizes l n x).getD i 0<=1048576:=by
 unfold Fw.sizes;rw[List.getD,List.getElem?_map];cases h:(List.range n)[i]? with
 | none=>simp
 | some k =>
   simp only[Option.map_some,Option.getD_some];rw[<-Fe.Ni];exact Fe.jQ _ _
theorem SX{lay:Int->Int->Int->Int->Int->Fw.Ld}(hl:∀k r0 r1 t0 t1,BS t0->BS t1->Big B (lay k r0 r1 t0 t1))(f:Nat)(z i0 i1:Int):∀x∈(Fw.lH B lay f z i0 i1).1,Big B x:=by
 intro x hx;unfold Fw.lH at hx;simp only at hx;obtain⟨i,hi,rfl⟩:=List.mem_mapIdx.1 hx;rw[List.getElem_map];exact hl _ _ _ _ _ (nP hv) (nP hv)
theorem Xt{lay:Int->Int->Int->Int->Int->Fw.Ld}(hl:∀k r0 r1 t0 t1,BS t0->BS t1->Big B (lay k r0 r1 t0 t1))(z i0 i1 high:Int)(ks:List Int):∀x∈(Fw.eX B lay z i0 i1 high ks).1,Big B x:=by
 intro x hx;unfold Fw.eX at hx;simp only at hx;obtain⟨i,hi,rfl⟩:=List.mem_mapIdx.1 hx
 have hxs:∀y∈ks.mapIdx λi k=>lay k i0 i1 (Fw.wr ((Fw.iY B i0 i0 ((B z).sty.c 46) 0 (Fw.jG B i0) ks).getD i 0+Fw.iB (B k).sty 0)) (-1),Big B y:=λy hy=>by
  obtain⟨j,hj,rfl⟩:=List.mem_mapIdx.1 hy;refine hl _ _ _ _ _ (EC (hv _) 0 ?_) (nP hv);have:=zm (λi=>Fw.jG B i0 (ks.getD i 0)) ks.length (Fw.left B i0 i0 ((B z).sty.c 46) 0 ks) j;unfold Fw.iY;omega
 generalize (ks.mapIdx λi k=>lay k i0 i1 (Fw.wr ((Fw.iY B i0 i0 ((B z).sty.c 46) 0 (Fw.jG B i0) ks).getD i 0+Fw.iB (B k).sty 0)) (-1))=xs at *
 have hall:∀y∈(if (B z).sty.c 44=0 then xs.map λx=>if Fw.zJ (B x.id).sty 1 i1=true then x else lay x.id i0 i1 x.s0 (Fw.wr (Fw.lim (B x.id).sty 1 (max (Fw.wr ((if high = -1 then (xs.map (Fw.jr B i0 1)).foldl max 0 else high)-Fw.wJ B i0 1 x.id)) 0) i1+Fw.iB (B x.id).sty 1))else xs),Big B y:=λy hy=>by
  split at hy
  . obtain⟨u,hu,rfl⟩:=List.mem_map.1 hy
    split
    . exact hxs u hu
    . refine hl _ _ _ _ _ ((hxs u hu).tok hv).1 (EC (hv _) 1 ?_)
      have:=pG (B u.id).sty 1 (max (Fw.wr ((if high = -1 then (xs.map (Fw.jr B i0 1)).foldl max 0 else high)-Fw.wJ B i0 1 u.id)) 0) i1;omega
  . exact hxs y hy
 have h:=hall _ (List.getElem_mem hi);exact h
theorem SY{lay:Int->Int->Int->Int->Int->Fw.Ld}(hl:∀k r0 r1 t0 t1,BS t0->BS t1->Big B (lay k r0 r1 t0 t1))(z i0 i1 high:Int)(fl:List Int):∀(ps:List (Nat×Nat)) (fst:Bool) (y:Int),∀x∈(Fw.aY B lay z i0 i1 high fl fst y ps).1,Big B x:=by
 intro ps
 induction ps with
 | nil=>intro fst y x hx;simp[Fw.aY]at hx
 | cons p ps ih =>
   intro fst y x hx;simp only[Fw.aY]at hx;rcases List.mem_append.1 hx with h|h
   . obtain⟨u,hu,rfl⟩:=List.mem_map.1 h
     exact Xt hv hl z i0 i1 high _ u hu
   . exact ih _ _ x h
theorem O7{lay:Int->Int->Int->Int->Int->Fw.Ld}(hl:∀k r0 r1 t0 t1,BS t0->BS t1->Big B (lay k r0 r1 t0 t1))(z i0 i1:Int):∀x∈(Fw.iE B lay z i0 i1).1,Big B x:=by
 intro x hx;unfold Fw.iE at hx;simp only at hx;obtain⟨i,hi,rfl⟩:=List.mem_mapIdx.1 hx
 have hc:∀k,BS (Fw.fq B z i0 k):=λk=>by
  unfold Fw.fq;split
  . unfold Fw.JR
    have:=pG (B k).sty 0 ((B k).sty.c 53) i0;exact EC (hv k) 0 aj
  . exact nP hv
 rw[List.getElem_mapIdx];refine hl _ _ _ _ _ (hc _) (EC (hv _) 1 ?_);split
 . unfold Fw.iY
   have:=zm (λi=>(λk=>Fw.EX (B k).sty 1 (Fw.wr ((lay k i0 i1 (Fw.fq B z i0 k) (-1)).s1-Fw.iB (B k).sty 1)) i1) ((B z).fl.getD i 0)) (B z).fl.length (Fw.left B i0 i1 ((B z).sty.c 46) 1 (B z).fl) i;omega
 . rw[List.getD,List.getElem?_map]
   cases h:(B z).fl[i]? with
   | none=>simp
   | some k =>
     simp only[Option.map_some,Option.getD_some];have:=Fe.jQ (Fw.EX (B k).sty 1 (Fw.wr ((lay k i0 i1 (Fw.fq B z i0 k) (-1)).s1-Fw.iB (B k).sty 1)) i1) (Fw.EX (B k).sty 1 (Fw.wr ((lay k i0 i1 (Fw.fq B z i0 k) (-1)).s1-Fw.iB (B k).sty 1)) i1).b;omega
omit hv in
theorem Big.mv{i0 i1:Int}{x:Fw.Ld}(h:Big B x):Big B (Fw.mv B i0 i1 x):=by
 unfold Fw.mv;split
 . exact h
 . exact h
theorem Mt(f:Nat)(z i0 i1:Int):∀x∈(Fw.cont B f z i0 i1).1,Big B x:=by
 intro x hx;cases f with
 | zero=>simp[Fw.cont]at hx
 | succ f =>
   simp only[Fw.cont]at hx;split at hx
   . simp at hx
   . obtain⟨u,hu,rfl⟩:=List.mem_map.1 hx
     refine Big.mv ?_;have hl:∀k r0 r1 t0 t1,BS t0->BS t1->Big B (Fw.iU B (Fw.cont B f) k r0 r1 t0 t1):=λk r0 r1 t0 t1 a b=>Big.iU hv _ k r0 r1 a b;unfold Fw.kind at hu;split at hu
     . exact SY hv hl _ _ _ _ _ _ _ _ u hu
     . split at hu
       . exact O7 hv hl _ _ _ u hu
       . exact SX hv hl _ _ _ _ u hu
theorem Mv(ww wh:Int)(f:Nat)(k:Int)(x:Fw.Ld):Big B (rG B ww wh f k x):=by
 have hsp:∀y ry r0,BS (Em (B k).sty y ry r0):=λy ry r0=>by
  unfold Em;split
  . exact nP hv
  . unfold BS Fw.wr
    omega
 have hap:∀r0,BS (OI (B k).sty r0):=λr0=>by
  unfold OI;split
  . unfold Fw.JR
    have:=pG (B k).sty 0 ((B k).sty.c 53) r0;exact EC (hv k) 0 aj
  . exact hsp _ _ _
 exact Big.iU hv _ k _ _ (hap _) (hsp _ _ _)
theorem adW(ww wh:Int):∀(f:Nat) (x:Fw.Ld),Big B x->∀y∈tl B ww wh f x,Big B y:=by
 intro f
 induction f with
 | zero=>intro x h y hy;rw[tl,List.mem_singleton]at hy;subst hy;exact h
 | succ f ih =>
   intro x h y hy;rw[tl]at hy;rcases List.mem_cons.1 hy with rfl|hy
   . exact h
   rcases List.mem_append.1 hy with hy|hy
   . obtain⟨k,hk,hy⟩:=List.mem_flatMap.1 hy
     have h2:Big B (Qt (B x.id).sty k):=Mt hv (f+1) x.id x.i0 x.i1 k hk;exact ih _ h2 y hy
   . obtain⟨k,hk,hy⟩:=List.mem_flatMap.1 hy
     exact ih _ (Mv hv ww wh f k x) y hy
end
theorem Xu{T:Tr.T}(H:Tr.WF T):∀(f:Nat) (a z:Int),Tr.Fit T f a->z∈lD T f a->∀d e:Nat,Tr.Dp T a d->Tr.Dp T z e->uH T (d+1) a=true->uH T (e+1) z=true:=by
 intro f
 induction f with
 | zero=>intro a z h;exact h.elim
 | succ f ih =>
   intro a z hf hz d e hd he hs;obtain⟨nd,hT,hk⟩:=hf;rcases sI hz with rfl|⟨c,hc,hz⟩
   . rw[<-hd.Y3 he];exact hs
   . have hm:=nO hT hc
     have hcd:=H.rR hT hm hd;refine ih c z (hk c hm) hz (d+1) e hcd he ?_;obtain⟨_,kd,hkd,hup⟩:=H.kid a nd c hT hm;have h3:(dw T c).c 0≠3:=by
      rcases hc with h|h
      . exact Z2n
      . exact Z2n
     have es:dw T c=kd.sty:=by unfold dw;rw[hkd];rfl
     rw[es]at h3;rw[uH,hkd];show((kd.sty.c 0 != 3)&&uH T (d+1) kd.up)=true;rw[hup,hs];simpa using h3
theorem adX{T:Tr.T}(H:Tr.WF T){z:Int}{d:Nat}(hd:Tr.Dp T z d):uH T (d+1) z=true->uH T 1 0=true/\z∈lD T 64 0:=by
 induction hd with
 | root h=>intro hs;exact⟨hs,Ev H.rT⟩
 | @step x nd n h h0 hp ih =>
   intro hs;rw[uH,h]at hs;have hs:((nd.sty.c 0 != 3)&&uH T (n+1) nd.up)=true:=hs;rw[Bool.and_eq_true]at hs;obtain⟨h1,h2⟩:=ih hs.2;refine⟨h1,Ew H.rT h2 ?_⟩;obtain⟨p,hp2,hm⟩:=H.up x nd h h0;have ek:dF T nd.up=p.kids:=by unfold dF;rw[hp2];rfl
   have es:dw T x=nd.sty:=by unfold dw;rw[h];rfl
   rw[ek];cases ho:ny nd.sty
   . exact .inl (List.mem_filter.2 ⟨hm,by rw[es,ho,hs.1];rfl⟩)
   . exact .inr (List.mem_filter.2 ⟨hm,by rw[es,ho,hs.1];rfl⟩)
theorem aa9{T:Tr.T}(H:Tr.WF T){z:Int}{d:Nat}(hd:Tr.Dp T z d):uH T (d+1) z=true↔uH T 1 0=true/\z∈lD T 64 0 :=
 ⟨adX H hd,λ⟨h1,h2⟩=>by
  obtain⟨rd,hrd,_⟩:=H.root
  exact Xu H 64 0 z H.rT h2 0 d (.root hrd) hd h1⟩
theorem Xv{T:Tr.T}:∀{f:Nat} {a:Int},Tr.Fit T f a->lD T (f+1) a=lD T f a:=by
 intro f
 induction f with
 | zero=>intro a h;exact h.elim
 | succ f ih =>
   intro a hf;obtain⟨nd,hT,hk⟩:=hf;have q:∀l:List Int,(∀k∈l,k∈nd.kids)->l.flatMap (lD T (f+1))=l.flatMap (lD T f):=by
    intro l
    induction l with
    | nil=>intro _;rfl
    | cons k l ihl =>
      intro hl;rw[List.flatMap_cons,List.flatMap_cons,ih (hk k (hl k eZ)),ihl λj hj=>hl j (by simp[hj])]
   rw[lD,q _ λk hk=>nO hT (.inl hk),q _ λk hk=>nO hT (.inr hk)]
   conv=>rhs;rw[lD]
theorem xS.told{T:Tr.T}{n:Nat}(M:xS T n)(ww wh:Int){z:Int}{d:Nat}(hd:Tr.Dp T z d) :
  (uH T (d+1) z=false/\pF T ww wh (.int .i64 z)=none)\/(uH T (d+1) z=true/\∃x∈qB T ww wh,x.id=z/\Big (kg T) x/\pF T ww wh (.int .i64 z)=some (rcv x)):=by
 have hval:∀z,Re.valid (kg T z).sty=true:=λz=>by
  show Re.valid (dw T z)=true;unfold dw;cases h:T z with
  | none=>exact(by decide +kernel:Re.valid Re.zero=true)
  | some nd=>exact M.val z nd h
 have hi:=aa9 M.wf hd;have El:=Xq T ww wh 64 (sK T ww wh);rw[show(sK T ww wh).id=0 from rfl,Xv M.wf.rT]at El;have hn:=(M.zl ww wh).1;by_cases hr:uH T 1 0=true
 . have hL:qB T ww wh=tl (kg T) ww wh 64 (sK T ww wh):=by unfold qB;rw[if_pos hr]
   by_cases hm:z∈lD T 64 0
   . right
     refine⟨hi.2 ⟨hr,hm⟩,?_⟩;rw[<-El]at hm;obtain⟨x,hx,hz⟩:=List.mem_map.1 hm;refine⟨x,by rw[hL];exact hx,hz,?_,?_⟩
     . exact adW hval ww wh 64 _ (Big.iU hval _ 0 ww wh (nP hval) (nP hval)) x hx
     . unfold pF
       rw[hL,<-hz];exact sM _ _ x hn hx
   . left
     refine⟨by
      cases h:uH T (d+1) z with
      | false=>rfl
      | true=>exact absurd (hi.1 h).2 hm,?_⟩
     unfold pF;rw[hL,wD _ _ z (by rw[El];exact hm)]
 . left
   have hL:qB T ww wh=[]:=by unfold qB;rw[if_neg hr]
   refine⟨by
    cases h:uH T (d+1) z with
    | false=>rfl
    | true=>exact absurd (hi.1 h).1 hr,?_⟩
   unfold pF;rw[hL];rfl
end Go.Proofs.YtmidaiklolmkcaaGreat.Fix
namespace Go.Proofs.YtmidaiklolmkcaaGreat.Fix
open Go.ChangeShapes Go.WideShapes Go.ChangeAt Go.RowKit Go.Deep Go.Joins Go.Shelf
theorem Good.low{W:World}{t n n0 n1:Nat}{L:Lay}{T:Tr.T}(h:Good W t L T n n0)(hl:n1<=n0):Good W t L T n n1:=⟨h.inv,λb hb=>aJ hl (h.own b hb),h.fit⟩
section
variable {w:World} {t n n0:Nat} {L:Lay} {T:Tr.T}
end
theorem Kept.cells{W:World}{t:Nat}{L:Lay}{T:Tr.T}{v:Value}{l:List Int}(h:Kept W t L T v l)(h0:0<l.length):∃g c,v=.slice (some ⟨g,0,none⟩) l.length c/\g<W.heap.size/\∀k,k<l.length->W.cell? ⟨g,k,none⟩=some (.int .i64 (l.getD k 0)):=by
 rcases h.row.cases with⟨_,rfl⟩|⟨g,c,rfl,hr⟩
 . simp at h0
 . obtain⟨b,o,e,hc⟩:=hr.ints.2 h0
   injection e with e;injection e with e1 e2 _;subst e1 e2;exact⟨g,c,rfl,hr.lt,λk hk=>by rw[<-hc k hk,Nat.zero_add]⟩
section
variable {ops:Array Oper} {rest:List Oper} {o:Oper} {a:Act} {w:World} {Q:Exit->Act->World->Prop} {s t:Re.St}
end
def fZ(u:Int)(v:Value)(s:Re.St):Array Value:=#[.bool true,.int .i64 u,v]++cells s
def jH:Array Value:=#[.bool false,.int .i64 0,.slice none 0 0]++cells Re.zero
theorem Bl(u:Int)(v:Value)(s:Re.St):(fZ u v s).size=58:=by simp[fZ,bI]
theorem oG:jH.size=58:=by simp[jH,bI]
theorem EF(u:Int)(v:Value)(s:Re.St){j:Nat}(h:j<55):(fZ u v s)[3+j]? = some (cell s j):=by
 unfold fZ;rw[Array.getElem?_append_right eZ,show 3+j-(#[Value.bool true,Value.int .i64 u,v]:Array Value).size=j by simp,iC s h]
theorem oH(u:Int)(v:Value)(s:Re.St){j:Nat}(h:j<3):(fZ u v s)[j]? = (#[Value.bool true,Value.int .i64 u,v]:Array Value)[j]? := by
 unfold fZ;rw[Array.getElem?_append_left (by simpa using h)]
theorem CF(u:Int)(W:World):(Instr.build 101 #[(0,.bool true),(1,.int .i64 u)]).run Tryz.prog W=.ok (.agg (fZ u (.slice none 0 0) Re.zero)) W:=by kernel_rfl
theorem vS(W:World):(Instr.build 101 #[]).run Tryz.prog W=.ok (.agg jH) W:=by kernel_rfl
theorem Mw(A:Option Addr)(n c:Nat)(W:World):(Instr.build 104 #[(0,.slice A n c)]).run Tryz.prog W=.ok (.agg #[.slice A n c]) W:=by kernel_rfl
theorem Mx(W:World):(Instr.buildSlice 102 1 #[(0,.agg (fZ (-1) (.slice none 0 0) Re.zero))]).run Tryz.prog W=.ok (.slice (some ⟨W.heap.size,0,none⟩) 1 1) (W.alloc (.cells (fZ (-1) (.slice none 0 0) Re.zero) 101)):=by kernel_rfl
theorem Bn(W:World):(Instr.buildSlice 102 1 #[(0,.agg jH)]).run Tryz.prog W=.ok (.slice (some ⟨W.heap.size,0,none⟩) 1 1) (W.alloc (.cells jH 101)):=by kernel_rfl
theorem wpList_buildSlice{ops:Array Oper}{rest:List Oper}{o:Oper}{a:Act}{w w':World}{Q:Exit->Act->World->Prop}(hw:Region.wanted o (yielded ops a.tmps)=true)(t:TypeId)(n:Nat)(ps:Array (Nat×Operand))(ho:o.op=.buildSlice t n ps){v:Value}(qs:Array (Nat×Value))(hq:(ps.map λp=>(p.1,a.eval p.2))=qs)
  (hrun:(Instr.buildSlice t n qs).run Tryz.prog w=.ok v w') (h:wpList Tryz.prog ops Q rest (a.put o.dst v) w'):wpList Tryz.prog ops Q (o::rest) a w :=
 eu hw (by unfold execOp;simp only[ho,hq,Sem.run_bind,hrun,Result.andThen_ok,Sem.run_pure]) h
structure Place(cur:Array Value)(i:Nat)(v:Value)(o:Option Tr.Nd):Prop where
 live:cur[i*58]? = some (.bool o.isSome)
 up:∀nd,o=some nd->cur[i*58+1]? = some (.int .i64 nd.up)
 kids:∀nd,o=some nd->cur[i*58+2]? = some v
 sty:∀nd,o=some nd->∀j,j<55->cur[i*58+3+j]? = some (cell nd.sty j)
structure Doc(W:World)(r g c m:Nat)(K:Int->Value)(T:Tr.T):Prop where
 at_:At W r (.cells #[.slice (some ⟨g,0,none⟩) m c] 104)
 cur:∃cur:Array Value,At W g (.cells cur 101)/\cur.size=c*58/\∀i:Nat,i<m->Place cur i (K i) (T i)
 cap:m<=c
 lim:c<=maxLen
 row:∀z nd,T z=some nd->KS W (K z) nd.kids
 range:∀z nd,T z=some nd->0<=z/\z<m
 small:m<=4096
def jC(r g:Nat)(K:Int->Value)(T:Tr.T)(b:Nat):Prop:=b=r\/b=g\/∃z nd,T z=some nd/\(K z).ownBlock=some b
section
variable {W W':World} {r g c m:Nat} {K:Int->Value} {T:Tr.T}
theorem Doc.out{M:Nat->Prop}(h:Doc W r g c m K T)(hm:∀b,jC r g K T b->¬ M b)(k:Out M W W'):Doc W' r g c m K T where
 at_:=h.at_.out (hm r (.inl rfl)) k
 cur:=by obtain⟨cur,h1,h2⟩:=h.cur;exact⟨cur,h1.out (hm g (.inr (.inl rfl))) k,h2⟩
 cap:=h.cap
 lim:=h.lim
 row:=λz nd hz=>(h.row z nd hz).out (λb hb=>hm b (.inr (.inr ⟨z,nd,hz,hb⟩))) k
 range:=h.range
 small:=h.small
theorem Doc.after(h:Doc W r g c m K T)(hb:Below W.heap.size W W'):Doc W' r g c m K T:=h.out (M:=λ_=>False) (λ_ _ q=>q) (Out.of_below hb)
theorem Doc.lt(h:Doc W r g c m K T){b:Nat}(hb:jC r g K T b):b<W.heap.size:=by
 rcases hb with rfl|rfl|⟨z,nd,hz,hb⟩
 . exact h.at_.lt
 . obtain⟨cur,h1,_⟩:=h.cur;exact h1.lt
 . exact(h.row z nd hz).lt hb
theorem Doc.cT(h:Doc W r g c m K T):W.cell? ⟨r,0,none⟩=some (.slice (some ⟨g,0,none⟩) m c):=by rw[h.at_.cell];rfl
theorem Doc.ags(h:Doc W r g c m K T){i:Nat}(hi:i<m):W.cell? ⟨g,i*58,none⟩=some (.bool (T i).isSome):=by
 obtain⟨cur,h1,_,h3⟩:=h.cur;rw[h1.cell,(h3 i hi).live]
theorem Doc.cUp(h:Doc W r g c m K T){i:Nat}{nd:Tr.Nd}(hn:T i=some nd):W.cell? ⟨g,i*58+1,none⟩=some (.int .i64 nd.up):=by
 obtain⟨cur,h1,_,h3⟩:=h.cur;rw[h1.cell,(h3 i (by have:=h.range _ _ hn;omega)).up nd hn]
theorem Doc.lZ(h:Doc W r g c m K T){i:Nat}{nd:Tr.Nd}(hn:T i=some nd):W.cell? ⟨g,i*58+2,none⟩=some (K i):=by
 obtain⟨cur,h1,_,h3⟩:=h.cur;rw[h1.cell,(h3 i (by have:=h.range _ _ hn;omega)).kids nd hn]
theorem Doc.sty(h:Doc W r g c m K T){i:Nat}{nd:Tr.Nd}(hn:T i=some nd):uz W g (i*58+3) nd.sty:=λj hj=>by
 obtain⟨cur,h1,_,h3⟩:=h.cur;rw[h1.cell,(h3 i (by have:=h.range _ _ hn;omega)).sty nd hn j hj]
theorem Doc.wf(h:Doc W r g c m K T){z:Int}{nd:Tr.Nd}(hz:T z=some nd):Wf z:=by have:=h.range z nd hz;have:=h.small;rw[iX];omega
theorem Doc.nat(h:Doc W r g c m K T){z:Int}{nd:Tr.Nd}(hz:T z=some nd):∃i:Nat,z=i/\i<m:=⟨z.toNat,by have:=h.range z nd hz;omega,by have:=h.range z nd hz;omega⟩
theorem Doc.rg(h:Doc W r g c m K T):r≠g:=λe=>by
 obtain⟨cur,h1,_⟩:=h.cur;have:=h.at_.uniq (e▸h1);injection this with _ e2;exact absurd e2 aH
theorem jf(h:Doc W r g c m K T)(z:Int):Calls Tryz.prog 43 #[.pointer (some ⟨r,0,none⟩),.int .i64 z] W λe w'=>e=.returned (.bool (T z).isSome)/\W=w':=by
 have c0:=h.cT;by_cases h0:0<=z
 . by_cases h1:z<(m:Int)
   . obtain⟨i,rfl⟩:∃i:Nat,z=i:=⟨z.toNat,by omega⟩
     have cl:=h.ags (i:=i) aj;have him:i<m:=by omega
     clear h;generalize (T (i:Int)).isSome=b at *;go_enter Tryz.func43,Tryz.ntmps43
     go_wp2;exact EL
   . have hn:(T z).isSome=false:=by
      cases e:T z with
      | none=>rfl
      | some nd=>have:=h.range z nd e;omega
     rw[hn];clear h hn;go_enter Tryz.func43,Tryz.ntmps43
     go_wp2;exact EL
 . have hn:(T z).isSome=false:=by
    cases e:T z with
    | none=>rfl
    | some nd=>have:=h.range z nd e;omega
   rw[hn];clear h hn c0;go_enter Tryz.func43,Tryz.ntmps43
   go_wp2;exact EL
theorem kW{T:Tr.T}{z:Int}{nd:Tr.Nd}(h:T z=some nd):(T z).isSome=true:=by rw[h];rfl
theorem kX{T:Tr.T}{z:Int}(h:T z=none):(T z).isSome=false:=by rw[h];rfl
theorem qP(h:Doc W r g c m K T)(hr:∀nd,T 0=some nd->nd.up = -1){z:Int}{d:Nat}(hd:Tr.Dp T z d)(ach:d<=1000):Calls Tryz.prog 21 #[.pointer (some ⟨r,0,none⟩),.int .i64 z] W λe w'=>e=.returned (.int .i64 (d:Int))/\w'=W:=by
 have hm:T (-1)=none:=by
  cases e:T (-1)with
  | none=>rfl
  | some nd=>have:=(h.range _ nd e).1;omega
 have HR:=ah h;have Px:=ah hr;have HD:=ah hd;clear h hr hd;go_enter Tryz.func21,Tryz.ntmps21
 go_wp2
 go_loop [1,5] (λi p=>(∃(y:Int) (q:Nat) (k:Int),i=.int .i64 y/\p=.int .i64 k/\q<=d/\k=(d:Int)-q-1/\Tr.Dp T y q)\/(i=.int .i64 (-1)/\p=.int .i64 (d:Int))) (λ_ p=>(d-intOf p).toNat)
 case atStart=>exact .inl ⟨z,d,-1,rfl,rfl,aG _,by omega,HD.out⟩
 case round =>
  rcases hrel with⟨y,q,k,rfl,rfl,hmd,hk,hD⟩|⟨rfl,rfl⟩
  . obtain⟨nd,hT⟩:=hD.live
    obtain⟨i,rfl,him⟩:=HR.out.nat hT;have key:=jf HR.out (i:Int);rw[kW hT]at key;have c0:=HR.out.cT;have c1:=HR.out.cUp hT;have hw:IntKind.i64.wrap (k+1)=k+1:=by rw[IntWalk.i64_in _ aj]
    have HK:=ah hk;have Tn:=ah hD;clear hk hD
    go_wp2_with (go_at_call 43;(with_reducible refine key.mono ?_);rintro e w' ⟨rfl,rfl⟩)
    go_round
    case rel =>
     have hk:=HK.out;generalize hii:(i:Int)=ii at *;exact Z35
    case measure=>have hk:=HK.out;simp[intOf];omega
  . have key:=jf HR.out (-1)
    rw[kX hm]at key
    go_wp2_with (go_at_call 43;(with_reducible refine key.mono ?_);rintro e w' ⟨rfl,rfl⟩)
    exact EL
theorem uf(h:Doc W r g c m K T)(H:Tr.WF T)(z:Int):Calls Tryz.prog 21 #[.pointer (some ⟨r,0,none⟩),.int .i64 z] W λe w'=>e=.returned (.int .i64 (Tr.dep T z))/\w'=W:=by
 cases hT:T z with
 | none =>
   rw[Tr.J5 hT];have key:=jf h z;rw[kX hT]at key;clear h;go_enter Tryz.func21,Tryz.ntmps21
   go_wp2;refine wp_loop_rounds 1 ?_;rw[rounds_succ]
   go_wp2_with (go_at_call 43;(with_reducible refine key.mono ?_);rintro e w' ⟨rfl,rfl⟩)
   exact EL
 | some nd =>
   obtain⟨d,h1,h2,h3⟩:=H.iZ hT;rw[h3];exact qP h (λ_ q=>H.tC q) h2 aj
end
end Go.Proofs.YtmidaiklolmkcaaGreat.Fix
