/- Proved here: what functions of the program do, in plain numbers (part 36); no conditions but those in sight. -/
import Derived.Deep.Slices
import Derived.Laws.StructEq
import Derived.Test.YtcbcfdihofclkaaGreatQK
import Derived.Test.YtcbcfdihofclkaaGreatQ04
import Derived.Test.YtcbcfdihofclkaaGreatQ05
import Derived.Test.YtcbcfdihofclkaaGreatQ14
import Derived.Test.YtcbcfdihofclkaaGreatQ34
import Derived.Test.YtcbcfdihofclkaaGreatQ35
set_option linter.unusedVariables false
set_option linter.unusedSimpArgs false
set_option linter.unusedSectionVars false
set_option maxRecDepth 100000
namespace Go.Proofs.YtcbcfdihofclkaaGreat.Fix
open Go.ChangeShapes Go.WideShapes Go.ChangeAt Go.RowKit Go.Deep Go.Joins
structure tN where
 k:Int
 a:Int
 b:Int
 c:Int
 s:Re.St
def eU(x:tN):Array Value:=#[.int .i64 x.k,.int .i64 x.a,.int .i64 x.b,.int .i64 x.c]++cells x.s
structure LM(x:tN):Prop where
 k:Wf x.k
 a:Wf x.a
 b:Wf x.b
 c:Wf x.c
 s:Fits x.s
theorem Az(x:tN):(eU x).size=59:=by simp[eU,bC]
theorem xE(x:tN){j:Nat}(h:j<55):(eU x)[4+j]? = some (cell x.s j):=by
 unfold eU;rw[Array.getElem?_append_right eY,show 4+j-(#[Value.int .i64 x.k,.int .i64 x.a,.int .i64 x.b,.int .i64 x.c]:Array Value).size=j by simp,iB x.s h]
theorem nY(x:tN){j:Nat}(h:j<4):(eU x)[j]? = (#[Value.int .i64 x.k,.int .i64 x.a,.int .i64 x.b,.int .i64 x.c]:Array Value)[j]? := by
 unfold eU;rw[Array.getElem?_append_left (by simpa using h)]
def Gw(W:World)(b o:Nat)(x:tN):Prop:=∀j,j<59->W.cell? ⟨b,o+j,none⟩=(eU x)[j]?
theorem WE{W:World}{b o:Nat}{x:tN}(h:Gw W b o x):(Instr.loadAt 104 (.pointer (some ⟨b,o,none⟩))).run Tryz.prog W=.ok (.agg (eU x)) W:=by
 have hl:=run_loadCells_list (P:=Tryz.prog) W ⟨b,o,none⟩ (eU x).toList (λj v hj=>by
  have hj':j<59:=by have:=(List.getElem?_eq_some_iff.1 hj).1;simpa[Az]using this
  rw[addr_add,h j hj'];rw[Array.getElem?_toList]at hj
  exact hj)
 rw[Array.length_toList,Az]at hl;have hi:(isAgg 104).run Tryz.prog W=.ok true W:=by kernel_rfl
 have hz:(sizeOf 104).run Tryz.prog W=.ok 59 W:=by kernel_rfl
 simp only[Instr.loadAt,Instr.sureAddr,Sem.run_bind,Sem.run_pure,Result.andThen_ok,loadVar,hi,hz,hl,if_true]
theorem BG{ops:Array Oper}{rest:List Oper}{o:Oper}{a:Act}{w:World}{Q:Exit->Act->World->Prop}(hw:Region.wanted o (yielded ops a.tmps)=true)(y:Operand)(ho:o.op=.load 104 y){b k:Nat}(hy:a.eval y=.pointer (some ⟨b,k,none⟩)){x:tN}(hs:Gw w b k x)
  (h:wpList Tryz.prog ops Q rest (a.put o.dst (.agg (eU x))) w):wpList Tryz.prog ops Q (o::rest) a w :=
 dY hw (by unfold execOp;simp only[ho,hy,Sem.run_bind,WE hs,Result.andThen_ok,Sem.run_pure]) h
theorem LP:Tryz.prog.cellsOf 104=59:=by kernel_rfl
def ze(w:World)(a:Option Addr)(len cap:Nat):Prop :=
 (a=none/\len=0/\cap=0)\/∃x,a=some x/\len<=cap/\cap<=maxLen/\∃l:Nat->tN,∀i,i<len->LM (l i)/\∀j,j<59->w.cell? (x.add (i*59+j))=(eU (l i))[j]?
section
variable {H:Type} {enc:TypeId×Value->H} {w:World} {base:Nat} {spare:Nat->Bool} {held:Bool}
theorem WG{n:Nat}{cs:List Value}{y:DataW H×List MemPlace}(h:DataW.trod enc Tryz.prog w base spare held n 104 cs=some y):∃x:tN,cs=(eU x).toList/\LM x:=by
 obtain⟨xs,k,rfl,_,hl,hxl,hf⟩:=DataW.trod_struct Tryz.underlying104 h;rw[LP]at hl;have ex:∀i,i<5->∃y,xs[i]? = some y:=λi hi=>⟨_,List.getElem?_eq_getElem (by rw[hxl];exact hi)⟩;obtain⟨y0,q0⟩:=ex 0 aG;obtain⟨y1,q1⟩:=ex 1 aG;obtain⟨y2,q2⟩:=ex 2 aG;obtain⟨y3,q3⟩:=ex 3 aG;obtain⟨y4,q4⟩:=ex 4 aG;have g0:DataW.trod enc Tryz.prog w base spare held k 3 ((cs.drop 0).take (Tryz.prog.cellsOf 3))=some y0:=(hf 0 _ rfl).trans q0;have g1:DataW.trod enc Tryz.prog w base spare held k 3 ((cs.drop 1).take (Tryz.prog.cellsOf 3))=some y1:=(hf 1 _ rfl).trans q1;have g2:DataW.trod enc Tryz.prog w base spare held k 3 ((cs.drop 2).take (Tryz.prog.cellsOf 3))=some y2:=(hf 2 _ rfl).trans q2;have g3:DataW.trod enc Tryz.prog w base spare held k 3 ((cs.drop 3).take (Tryz.prog.cellsOf 3))=some y3:=(hf 3 _ rfl).trans q3;have g4:DataW.trod enc Tryz.prog w base spare held k 51 ((cs.drop 4).take (Tryz.prog.cellsOf 51))=some y4:=(hf 4 _ rfl).trans q4;rw[xk]at g0 g1 g2 g3;rw[yh]at g4;obtain⟨a0,e0,_,w0⟩:=DataW.trod_int Tryz.underlying3 g0;obtain⟨a1,e1,_,w1⟩:=DataW.trod_int Tryz.underlying3 g1;obtain⟨a2,e2,_,w2⟩:=DataW.trod_int Tryz.underlying3 g2;obtain⟨a3,e3,_,w3⟩:=DataW.trod_int Tryz.underlying3 g3;have g5:DataW.Trod enc Tryz.prog w base spare held 51 (.agg ((cs.drop 4).take 55).toArray) y4.1 y4.2:=⟨k,g4⟩;obtain⟨s,e4,ws⟩:=Cn g5;injection e4 with e4;have e4':(cs.drop 4).take 55=(cells s).toList:=by rw[<-e4]
 refine⟨⟨a0,a1,a2,a3,s⟩,?_,⟨w0,w1,w2,w3,ws⟩⟩;obtain⟨v0,v1,v2,v3,r,rfl⟩:∃v0 v1 v2 v3 r,cs=v0::v1::v2::v3::r:=by
  clear e0 e1 e2 e3 e4 e4' g0 g1 g2 g3 g4 g5 hf h;rcases cs with _ | ⟨v0,_ | ⟨v1,_ | ⟨v2,_ | ⟨v3,r⟩⟩⟩⟩<;>first|exact⟨_,_,_,_,_,rfl⟩|exact absurd hl eY
 simp at e0 e1 e2 e3 hl;subst e0 e1 e2 e3;have hr:(List.drop 4 (Value.int .i64 a0 :: .int .i64 a1 :: .int .i64 a2 :: .int .i64 a3::r)).take 55=r:=List.take_of_length_le jH;rw[hr]at e4';simp[eU,e4']
theorem Qq{n:Nat}{cs:List Value}{x:DataW H×List MemPlace}(h:DataW.trod enc Tryz.prog w base spare held n 22 cs=some x) :
  ∃a len cap,cs=[.slice a len cap]/\ze w a len cap:=by
 rcases open_slice Tryz.underlying22 h with⟨rfl,_⟩|⟨a,len,cap,m,k,D,Pl,rfl,hb,hl,hm,hmm,rfl,hx⟩
 . exact⟨none,0,0,rfl,.inl ⟨rfl,rfl,rfl⟩⟩
 . refine⟨some a,len,cap,rfl,.inr ⟨a,rfl,hl,hm,?_⟩⟩
   have each:∀i,i<len->∃q:tN,LM q/\∀j,j<59->w.cell? (a.add (i*59+j))=(eU q)[j]? := by
    intro i hi;have him:i<m:=by clear hx;rw[hmm];split<;>omega
    have h12:=hx i him;rw[LP]at h12;obtain⟨cs',h1,h2⟩:=h12;have hcell:=(World.cells?_some h1).2.2;obtain⟨q,hcs,hq⟩:=WG h2;refine⟨q,hq,λj hj => ?_⟩;have:=hcell j hj;rw[hcs,Array.getElem?_toList]at this;rw[<-this,add_add]
   have:Inhabited tN:=⟨⟨0,0,0,0,Re.zero⟩⟩;obtain⟨q,hq⟩:=choose_lt each;exact⟨q,hq⟩
end
theorem ze.cap{w:World}{a:Option Addr}{len cap:Nat}(h:ze w a len cap):len<=cap/\len<=9223372036854775807:=by
 rcases h with⟨_,rfl,rfl⟩|⟨_,_,h,h2,_⟩
 . omega
 . simp only[maxLen]at h2;omega
def WH(w:World)(a:Option Addr)(len:Nat)(l:Nat->tN):Prop:=0<len->∃b off,a=some ⟨b,off,none⟩/\b<w.heap.size/\∀k,k<len->LM (l k)/\Gw w b (off+k*59) (l k)
theorem ze.acts{w:World}{a:Option Addr}{len cap:Nat}(h:ze w a len cap):∃l,WH w a len l:=by
 rcases h with⟨rfl,rfl,rfl⟩|⟨x,rfl,_,_,l,hc⟩
 . exact⟨λ_=>⟨0,0,0,0,Re.zero⟩,λh=>absurd h ak⟩
 . refine⟨l,λh0 => ?_⟩
   obtain⟨b,off,spot⟩:=x;have c0:=(hc 0 h0).2 0 ak;rw[nY _ ak]at c0;have hspot:spot=none:=by
    have:=World.cell?_spot c0;simpa[Addr.add]using this
   subst hspot;have hb:=World.block_lt_of_cell? _ _ c0;refine⟨b,off,rfl,by unfold Addr.add at hb;simpa using hb,λk hk=>⟨(hc k hk).1,λj hj => ?_⟩⟩;have e:=(hc k hk).2 j hj;simp only[addr_add,<-Nat.add_assoc]at e;exact e
theorem WH.after{W W':World}{a:Option Addr}{n:Nat}{l:Nat->tN}(h:WH W a n l)(hb:Below W.heap.size W W'):WH W' a n l:=λh0=>by
 obtain⟨b,off,e,hl,hc⟩:=h h0;have hsz:=hb.size;refine⟨b,off,e,by omega,λk hk=>⟨(hc k hk).1,λj hj => ?_⟩⟩;rw[<-(hc k hk).2 j hj];exact hb.cell (p:=⟨b,off+k*59+j,none⟩) hl
def AA(T:Tr.T):Prop:=∀z nd,T z=some nd->Fits nd.sty
theorem Gx:Fits Re.zero:=λi _ _=>fV
end Go.Proofs.YtcbcfdihofclkaaGreat.Fix
namespace Go.Proofs.YtcbcfdihofclkaaGreat.Fix
open Go.ChangeShapes Go.WideShapes Go.ChangeAt Go.RowKit Go.Deep Go.Joins Go.Shelf
def dP(T' T:Tr.T):Prop:=∀z nd,T' z=some nd->nd.sty=Re.zero\/∃q,T z=some q/\q.sty=nd.sty
theorem dP.refl(T:Tr.T):dP T T:=λz nd h => .inr ⟨nd,h,rfl⟩
theorem dP.trans{T T' T'':Tr.T}(h:dP T'' T')(k:dP T' T):dP T'' T:=λz nd hz=>by
 rcases h z nd hz with e|⟨q,hq,e⟩
 . exact .inl e
 . rw[<-e];exact k z q hq
theorem dP.set{T:Tr.T}{x:Int}{p nd:Tr.Nd}(hx:T x=some p)(he:nd.sty=p.sty):dP (Tr.set T x nd) T:=λz q hz=>by
 by_cases e:z=x
 . subst e;rw[Tr.aJ]at hz;cases hz;exact .inr ⟨p,hx,he.symm⟩
 . rw[Tr.aD _ _ e]at hz;exact .inr ⟨q,hz,rfl⟩
theorem dP.leave(T:Tr.T)(x:Int):dP (Tr.leave T x) T:=by
 unfold Tr.leave;split
 . exact dP.refl _
 . split
   . exact dP.refl _
   . rename_i p hp;exact dP.set hp rfl
theorem dP.enter(T:Tr.T)(x u:Int)(i:Nat):dP (Tr.enter T x u i) T:=by
 unfold Tr.enter;split
 . rename_i p nd hu hx
   have h1:dP (Tr.set T u { p with kids:=Tr.wi p.kids i x }) T:=dP.set hu rfl;intro z q hz;by_cases e:z=x
   . subst e;rw[Tr.aJ]at hz;cases hz;exact .inr ⟨nd,hx,rfl⟩
   . rw[Tr.aD _ _ e]at hz;exact h1 z q hz
 . exact dP.refl _
theorem dP.del(T:Tr.T)(l:List Int):dP (Tr.del T l) T:=λz q hz=>by
 unfold Tr.del at hz;split at hz
 . cases hz
 . exact .inr ⟨q,hz,rfl⟩
theorem dP.bU(T:Tr.T)(u a:Int):dP (Tr.bU T u a) T:=by
 unfold Tr.bU;split
 . unfold Tr.nZ
   refine(dP.enter _ _ _ _).trans λz q hz => ?_;by_cases e:z=Tr.free T
   . subst e;rw[Tr.aJ]at hz;cases hz;exact .inl rfl
   . rw[Tr.aD _ _ e]at hz;exact .inr ⟨q,hz,rfl⟩
 . exact dP.refl _
theorem dP.nK(T:Tr.T)(x:Int):dP (Tr.nK T x) T:=by
 unfold Tr.nK;split
 . exact(dP.del _ _).trans (dP.leave _ _)
 . exact dP.refl _
theorem dP.lJ(T:Tr.T)(x u a:Int):dP (Tr.lJ T x u a) T:=by
 unfold Tr.lJ;split
 . exact(dP.enter _ _ _ _).trans (dP.leave _ _)
 . exact dP.refl _
theorem AA.le{T T':Tr.T}(h:AA T)(k:dP T' T):AA T':=λz nd hz=>by
 rcases k z nd hz with e|⟨q,hq,e⟩
 . rw[e];exact Gx
 . rw[<-e];exact h z q hq
theorem AA.dG{T:Tr.T}(h:AA T)(z:Int){s:Re.St}(hs:Fits s):AA (dG T z s):=by
 unfold Fix.dG;split
 . unfold Tr.wD
   split
   . exact h
   . intro y nd hy
     by_cases e:y=z
     . subst e;rw[Tr.aJ]at hy;cases hy;exact hs
     . rw[Tr.aD _ _ e]at hy;exact h y nd hy
 . exact h
theorem mP(T:Tr.T)(z:Int)(s:Re.St):Tr.Alike T (dG T z s):=by
 unfold Fix.dG;split
 . exact Tr.Qz T z s
 . exact λ_=>rfl
theorem R8{t s:Tr.T}(H:Tr.WF t)(h:Tr.Alike t s){x:Int}{nd:Tr.Nd}(hx:t x=some nd):Tr.sub s 64 x=Tr.sub t 64 x/\Tr.hgt s 64 x=Tr.hgt t 64 x :=
 ((H.iU hx).congr λy _ nd hy=>by obtain⟨nd',h1,_,h2⟩:=h.some hy;exact⟨nd',h1,h2⟩).2
theorem zU{t s:Tr.T}(H:Tr.WF t)(h:Tr.Alike t s):Tr.ord s=Tr.ord t:=by
 obtain⟨nd,h1,_⟩:=H.root;exact(R8 H h h1).1
theorem Inv.set{W W':World}{t n:Nat}{L:Lay}{T:Tr.T}(h:Inv W t L T n){z:Int}{s:Re.St}(hr:fQ W' t L (dG T z s) n):Inv W' t L (dG T z s) n :=
 ⟨hr,h.wf.alike (mP T z s),by rw[zU h.wf (mP T z s)];exact h.num⟩
structure Good(W:World)(t:Nat)(L:Lay)(T:Tr.T)(n n0:Nat):Prop where
 inv:Inv W t L T n
 own:∀b,owned t L T b->n0<=b
 fit:AA T
theorem Good.step{W W':World}{t n n' n0:Nat}{L L':Lay}{T T':Tr.T}(h:Good W t L T n n0)(hi:Inv W' t L' T' n')(hg:Grow t L L' T T' W W')(hf:AA T')(h0:n0<=W.heap.size):Good W' t L' T' n' n0/\Below n0 W W' :=
 ⟨⟨hi,λb hb=>(hg.2 b hb).elim (h.own b) λq=>aC h0 q,hf⟩,hg.1.below h0 λb hb q=>absurd (h.own b q) ak⟩
theorem Good.after{W W':World}{t n n0:Nat}{L:Lay}{T:Tr.T}(h:Good W t L T n n0)(hb:Below W.heap.size W W'):Good W' t L T n n0:=⟨⟨h.inv.rep.after hb,h.inv.wf,h.inv.num⟩,h.own,h.fit⟩
theorem Inv.after{W W':World}{t n:Nat}{L:Lay}{T:Tr.T}(h:Inv W t L T n)(hb:Below W.heap.size W W'):Inv W' t L T n:=⟨h.rep.after hb,h.wf,h.num⟩
theorem Good.new{W W':World}{t:Nat}{L:Lay}(h:Inv W' t L T0 1)(hb:∀b,owned t L T0 b->W.heap.size<=b):Good W' t L T0 1 W.heap.size:=⟨h,hb,λz nd hz=>by
 unfold T0 at hz;split at hz
 . cases hz;exact Gx
 . cases hz⟩
noncomputable def R9(T:Tr.T)(x:tN):Tr.T:=if x.k.tmod 5=2 then Tr.nK T x.a else if x.k.tmod 5=3 then Tr.lJ T x.a x.b x.c else if x.k.tmod 5=4 then dG T x.a x.s else Tr.bU T x.a x.b
section
variable {w:World} {t n n0:Nat} {L:Lay} {T:Tr.T}
theorem sG(h:Good w t L T n n0)(hn:n<4096)(h0:n0<=w.heap.size){u a:Int}(hu:Wf u):Calls Tryz.prog 23 #[.pointer (some ⟨t,0,none⟩),.int .i64 u,.int .i64 a] w λe w'=>e=.returned (.tuple #[.int .i64 (Tr.og T u a),.int .i64 (Tr.iW T u a)])/\∃L' n',Good w' t L' (Tr.bU T u a) n' n0/\n'<=n+1/\Grow t L L' T (Tr.bU T u a) w w'/\Below n0 w w':=by
 refine(UD h.inv hn hu).mono ?_;rintro e w' ⟨rfl,L',n',hi,hl,hg⟩;obtain⟨g1,g2⟩:=h.step hi hg (h.fit.le (dP.bU _ _ _)) h0;exact⟨rfl,L',n',g1,hl,hg,g2⟩
theorem Sb(h:Good w t L T n n0)(h0:n0<=w.heap.size){x u a:Int}(hx:Wf x)(hu:Wf u):Calls Tryz.prog 113 #[.pointer (some ⟨t,0,none⟩),.int .i64 x,.int .i64 u,.int .i64 a] w λe w'=>e=.returned (.int .i64 (Tr.jC T x u a))/\∃L',Good w' t L' (Tr.lJ T x u a) n n0/\Grow t L L' T (Tr.lJ T x u a) w w'/\Below n0 w w':=by
 refine(Q0 h.inv hx hu).mono ?_;rintro e w' ⟨rfl,L',hi,hg⟩;obtain⟨g1,g2⟩:=h.step hi hg (h.fit.le (dP.lJ _ _ _ _)) h0;exact⟨rfl,L',g1,hg,g2⟩
theorem LQ(h:Good w t L T n n0)(h0:n0<=w.heap.size){x:Int}(hx:Wf x):Calls Tryz.prog 111 #[.pointer (some ⟨t,0,none⟩),.int .i64 x] w λe w'=>e=.returned (.tuple #[.int .i64 (Tr.wE T x),.int .i64 (Tr.qN T x)])/\∃L' n',Good w' t L' (Tr.nK T x) n' n0/\n'<=n/\Grow t L L' T (Tr.nK T x) w w'/\Below n0 w w':=by
 refine(Kq h.inv hx).mono ?_;rintro e w' ⟨rfl,L',n',hi,hl,hg⟩;obtain⟨g1,g2⟩:=h.step hi hg (h.fit.le (dP.nK _ _)) h0;exact⟨rfl,L',n',g1,hl,hg,g2⟩
theorem sH(h:Good w t L T n n0)(h0:n0<=w.heap.size){x:Int}(hx:Wf x){s:Re.St}(hs:Fits s):Calls Tryz.prog 24 #[.pointer (some ⟨t,0,none⟩),.int .i64 x,.agg (cells s)] w λe w'=>e=.returned (.int .i64 (oI T x s))/\Good w' t L (dG T x s) n n0/\Grow t L L T (dG T x s) w w'/\Below n0 w w':=by
 refine(UC h.inv.rep hx s).mono ?_;rintro e w' ⟨rfl,hr,hg⟩;obtain⟨g1,g2⟩:=h.step (h.inv.set hr) hg (h.fit.dG _ hs) h0;exact⟨rfl,g1,hg,g2⟩
theorem LV(w:World):Calls Tryz.prog 53 #[] w λe w'=>(∃t,e=.returned (.pointer (some ⟨t,0,none⟩))/\∃L,Good w' t L T0 1 w.heap.size)/\Below w.heap.size w w':=by
 refine(UA w).mono ?_;rintro e w' ⟨⟨t,rfl,L,hr,ho⟩,hb⟩;refine⟨⟨t,rfl,L,Good.new ⟨hr,?_,?_⟩ ho⟩,hb⟩
 . have hT:T0 0=some ⟨-1,[],Re.zero⟩:=rfl
   have hz:∀x nd,T0 x=some nd->x=0/\nd=⟨-1,[],Re.zero⟩:=λx nd h=>by
    unfold T0 at h;split at h
    . cases h;exact⟨by assumption,rfl⟩
    . cases h
   refine⟨⟨_,hT,rfl⟩,λx nd h => ?_,λx nd h h0=>absurd (hz x nd h).1 h0,λu p x h hx => ?_,λu p h => ?_,λx nd h => ?_⟩
   . rw[(hz x nd h).1];omega
   . rw[(hz u p h).2]at hx;cases hx
   . rw[(hz u p h).2];exact List.nodup_nil
   . rw[(hz x nd h).1];exact⟨0,by omega,.root hT⟩
 . decide +kernel
theorem xF(h:Good w t L T n n0):Calls Tryz.prog 18 #[.pointer (some ⟨t,0,none⟩)] w λe w'=>(∃v,e=.returned v/\Kept w' t L T v (Tr.ord T))/\Below w.heap.size w w':=by
 refine(Nr h.inv.rep h.inv.wf.qy (by have:=h.inv.wf.jo;omega)).mono ?_;rintro e w' ⟨⟨v,rfl,ho⟩,hb⟩;exact⟨⟨v,rfl,Kept.new h.inv.rep ho (ah _)⟩,hb⟩
def xG(T:Tr.T)(z:Int):List Int:=(T z).elim [] (·.kids)
theorem xH(h:Good w t L T n n0){z:Int}(hz:Wf z):Calls Tryz.prog 26 #[.pointer (some ⟨t,0,none⟩),.int .i64 z] w λe w'=>e=.returned (.int .i64 (Tr.dep T z))/\w'=w:=by
 cases hT:T z with
 | none=>rw[Tr.CK hT];exact Ka h.inv.rep hz hT
 | some nd =>
   obtain⟨d,h1,h2,h3⟩:=h.inv.wf.iD hT;rw[h3];exact vo h.inv.rep (λ_ q=>h.inv.wf.o9 q) h2 ak
theorem WI{T:Tr.T}(H:Tr.WF T)(z:Int) : -1<=Tr.dep T z/\Tr.dep T z<=63:=by
 cases hT:T z with
 | none=>rw[Tr.CK hT];omega
 | some nd=>obtain⟨d,h1,h2,h3⟩:=H.iD hT;omega
end
def ag7:Re.St:=⟨λi=>if i=46 then 3 else 0,λ_=>false⟩
def A1:Tr.T:=Tr.nZ T0 1 0 0
def A2:Tr.T:=Tr.nZ A1 2 0 1
def A3:Tr.T:=Tr.lI A2 1 2 0
def A4:Tr.T:=Tr.wD A3 1 ag7
theorem Sc{t:Tr.T}{z:Int}(h:(t z).isSome=true):t z≠none:=λe=>by rw[e]at h;cases h
theorem isSome_none{t:Tr.T}{z:Int}(h:(t z).isSome=false):t z=none:=by cases e:t z with
 | none=>rfl
 | some _=>rw[e]at h;cases h
theorem abh:Tr.free T0=1:=Tr.free_eq ⟨by decide,isSome_none (by decide +kernel),λy h0 h1=>by
 obtain rfl:y=0:=by omega
 exact Sc (by decide +kernel)⟩
theorem WJ:Tr.iW T0 0 0=0:=by decide +kernel
theorem afE:Tr.og T0 0 0=1:=by unfold Tr.og;rw[WJ,if_pos rfl,abh]
theorem afF:Tr.bU T0 0 0=A1:=by unfold Tr.bU;rw[WJ,if_pos rfl,abh];rfl
section
variable {w:World} {t n n0:Nat} {L:Lay}
theorem ac5(h:Good w t L T0 n n0)(hn:n<4096)(h0:n0<=w.heap.size):Calls Tryz.prog 23 #[.pointer (some ⟨t,0,none⟩),.int .i64 0,.int .i64 0] w λe w'=>e=.returned (.tuple #[.int .i64 1,.int .i64 0])/\∃L' n',Good w' t L' A1 n' n0/\n'<=n+1/\Below n0 w w':=by
 have:=sG h hn h0 (u:=0) (a:=0) ((eT _).2 ak);rw[afE,WJ,afF]at this;exact this.mono λe w' ⟨h1,L',n',h2,h3,_,h4⟩=>⟨h1,L',n',h2,h3,h4⟩
end
end Go.Proofs.YtcbcfdihofclkaaGreat.Fix
namespace Go.Proofs.YtcbcfdihofclkaaGreat.Fix
section
variable {T:Tr.T} (H:Tr.WF T) {x u:Int} {nd p:Tr.Nd} (hx:T x=some nd) (h0:x≠0) (hu:T u=some p) (hun:u ∉ Tr.sub T 64 x)
include H hx h0 hu hun
theorem ac6(i:Nat){y:Int}{m:Nat}(h:Tr.Dp T y m):y ∉ Tr.sub T 64 x->Tr.Dp (Tr.lI T x u i) y m:=by
 have A:=λy=>H.wZ hx h0 hu hun i y
 induction h with
 | root h =>
   intro _;have e:=A 0;rw[h]at e;exact .root e
 | @step z zd n h hz _ ih =>
   intro hn;have hzx:z≠x:=λe=>hn (H.rO hx h0 e);have e:=A z;rw[h]at e;simp only[Option.map_some,if_neg hzx]at e;exact .step e hz (ih (H.Ht hx h hn hz))
end
structure Moved(T T':Tr.T)(x u a f:Int)(pl:Nat):Prop where
 up:rT T' x=u
 at_:∃n:Nat,a=n/\n<(xG T' u).length/\(xG T' u).getD n 0=x
 ok:Tr.jC T' x f pl=0
 back:Tr.lJ T' x f pl=T
theorem moved{T:Tr.T}(H:Tr.WF T){x u a:Int}(h:Tr.jC T x u a=0){pl:Nat}(hpl:(xG T (rT T x))[pl]? = some x):Moved T (Tr.lJ T x u a) x u a (rT T x) pl:=by
 have hR:Tr.lJ T x u a=Tr.lI T x u a.toNat:=by unfold Tr.lJ;rw[h,if_pos rfl]
 have W:=(H.lJ x u a).1;obtain⟨nd,p,hx,hu,h0,hun,ha,hal,hd⟩:=Tr.FZ h;rw[hR]at W ⊢;have A:=λy=>H.wZ hx h0 hu hun a.toNat y;obtain⟨q,hq,hqm⟩:=H.up x nd hx h0;have eup:rT T x=nd.up:=by unfold rT;rw[hx]
 rw[eup]at hpl ⊢;have ekq:xG T nd.up=q.kids:=by unfold xG;rw[hq];rfl
 rw[ekq]at hpl;have hxu:x≠u:=λe=>hun (H.rO hx h0 e.symm);have hxn:x≠nd.up:=λe=>H.pX hx h0 (H.rO hx h0 e.symm);have hku:(if u=nd.up then Tr.wo p.kids x else p.kids)=Tr.wo p.kids x:=by
  by_cases e:u=nd.up
  . rw[if_pos e]
  . rw[if_neg e,Tr.uQ (λhm=>e (H.JI hx h0 hu hm))]
 have Au:Tr.lI T x u a.toNat u=some { p with kids:=Tr.wi (Tr.wo p.kids x) a.toNat x }:=by
  rw[A,hu];simp only[Option.map_some,if_neg (Ne.symm hxu),if_true,hku]
 have Ax:Tr.lI T x u a.toNat x=some { nd with up:=u }:=by
  rw[A,hx];simp only[Option.map_some,if_true,if_neg hxu,if_neg hxn]
 have hlen:=Tr.mU (Tr.wo p.kids x) a.toNat x;have hn1:nd.up ∉ Tr.sub (Tr.lI T x u a.toNat) 64 x:=by rw[(H.Hu hx h0 hu hun a.toNat).1];exact H.pX hx h0
 have ah3:pl<q.kids.length:=(List.getElem?_eq_some_iff.1 hpl).1;have hwq:=Tr.FY (H.nodup _ _ hq) hqm;have hz:Tr.jC (Tr.lI T x u a.toNat) x nd.up pl=0:=by
  obtain⟨d,hd1,hd2,hd3⟩:=H.iD hq;have TQ:Tr.Dp T x (d+1):=.step hx h0 hd2;obtain⟨z,hz1,hz2⟩:=H.Pg (H.iU hx) TQ;have hb:=H.Yj hz2;have hdp:=ac6 H hx h0 hu hun a.toNat hd2 (H.pX hx h0);have hde:=W.CO hdp;obtain⟨p',hp'⟩:=hdp.live;have hkp:Tr.wo p'.kids x=Tr.wo q.kids x:=by
   have e:=A nd.up;rw[hq,hp']at e;simp only[Option.map_some,if_true,if_neg (Ne.symm hxn)]at e;injection e with e;rw[e];simp only;have hno:x ∉ Tr.wo q.kids x:=λhm=>(Tr.wY.1 hm).2 rfl;by_cases e2:nd.up=u
   . rw[if_pos e2,Tr.aaS hno]
   . rw[if_neg e2,Tr.uQ hno]
  unfold Tr.jC;rw[Ax,hp'];simp only;rw[if_neg h0,if_neg hn1,hkp,if_neg ak,hde,(H.Hu hx h0 hu hun a.toNat).2,if_neg ak]
 refine⟨by unfold rT;rw[Ax],?_,hz,?_⟩
 . have ek:xG (Tr.lI T x u a.toNat) u=Tr.wi (Tr.wo p.kids x) a.toNat x:=by unfold xG;rw[Au];rfl
   refine⟨a.toNat,by omega,by rw[ek,hlen];omega,?_⟩;rw[ek];have hl:((Tr.wo p.kids x).take a.toNat).length=a.toNat:=by rw[List.length_take];omega
   unfold Tr.wi;rw[List.getD,List.getElem?_append_right ak,hl];simp
 . unfold Tr.lJ
   rw[hz,if_pos rfl];have e:=H.TW hx h0 hu hun hq hpl W
   rwa [show((pl:Int).toNat)=pl by omega]
end Go.Proofs.YtcbcfdihofclkaaGreat.Fix
namespace Go.Proofs.YtcbcfdihofclkaaGreat.Fix
open Go.ChangeShapes Go.WideShapes Go.ChangeAt Go.RowKit
def Ms:Re.St:=⟨λi=>if i=53 then 30 else if i=54 then 20 else if i=31 then 1 else if i=32 then 2 else if i=33 then 3 else if i=34 then 4 else 0,λ_=>false⟩
def Ei:Tr.T:=Tr.wD A1 1 Ms
def ldt(x:Fw.Ld):List Int:=[x.id,Fx.cut x.a0,Fx.cut x.a1,Fx.cut x.s0,Fx.cut x.s1]
theorem ac7:(oW Ei 100 50).map ldt=[[0,0,0,100,24],[1,0,0,100,24]]:=by decide +kernel
theorem GM.ge{W:World}{b n:Nat}{g:Lit->Option Value}(h:GM 3 W b n g){l:List Int}(hn:l.Nodup)(hl:∀z∈l,Wf z/\(g (.int .i64 z)).isSome=true):l.length<=n:=by
 obtain⟨D,h1,h2,h3⟩:=h;obtain⟨es,rfl⟩:=(h1.tidy jr).isMap
 have hk:∀z∈l,Lit.int .i64 z∈es.map (·.1):=λz hz=>by
  obtain⟨hw,hs⟩:=hl z hz;have hh:=(h3 (.int .i64 z) (jr.key (j4 hw))).2;rw[hs,Maps.has_eq,List.any_eq_true]at hh;obtain⟨p,hp,hq⟩:=hh;rw[<-WideAt.sameKey_eq hq];exact List.mem_map_of_mem hp
 have hlen:∀(l:List Int) (ks:List Lit),l.Nodup->(∀z∈l,Lit.int .i64 z∈ks)->l.length<=ks.length:=by
  intro l
  induction l with
  | nil=>intro ks _ _;exact bJ _
  | cons z l ih =>
    intro ks hn hm;obtain⟨a,c,rfl⟩:=List.append_of_mem (hm z eY)
    have h1:=ih (a++c) (List.nodup_cons.1 hn).2 λy hy=>by
     have h2:=hm y (List.mem_cons_of_mem _ hy);simp only[List.mem_append,List.mem_cons]at h2 ⊢;rcases h2 with h2|h2|h2
     . exact .inl h2
     . injection h2 with _ h2
       subst h2;exact absurd hy (List.nodup_cons.1 hn).1
     . exact .inr h2
    simp only[List.length_append,List.length_cons]at h1 ⊢;omega
 have h4:=hlen l _ hn hk;rw[List.length_map]at h4;rw[<-h2,Maps.size_eq];exact h4
theorem tO(g:Lit->Option Value)(x:Fw.Ld)(l:List Fw.Ld):iZ g (x::l)=iZ (xB g (.int .i64 x.id) (rcv x)) l:=rfl
theorem I8{a b:Int}(h:a≠b):Lit.int .i64 a≠Lit.int .i64 b:=λq=>h (by injection q)
theorem Gy(l:List Fw.Ld):∀(g:Lit->Option Value) (z:Int),z ∉ l.map (·.id)->iZ g l (.int .i64 z)=g (.int .i64 z):=by
 induction l with
 | nil=>intro g z h;rfl
 | cons x l ih =>
   intro g z h;simp only[List.map_cons,List.mem_cons,not_or]at h;rw[tO,ih _ z h.2,jK (I8 h.1)]
theorem vN(l:List Fw.Ld):∀(g:Lit->Option Value) (x:Fw.Ld),(l.map (·.id)).Nodup->x∈l->iZ g l (.int .i64 x.id)=some (rcv x):=by
 induction l with
 | nil=>intro g x _ h;simp at h
 | cons y l ih =>
   intro g x hn h;simp only[List.map_cons,List.nodup_cons]at hn;rw[tO];rcases List.mem_cons.1 h with rfl|h
   . rw[Gy l _ _ hn.1,jm]
   . exact ih _ x hn.2 h
theorem ac8:∃x0 x1:Fw.Ld,oW Ei 100 50=[x0,x1]/\x0.id=0/\x1.id=1/\rcv x0=.agg #[.int .i64 0,.int .i64 0,.int .i64 100,.int .i64 24]/\rcv x1=.agg #[.int .i64 0,.int .i64 0,.int .i64 100,.int .i64 24]:=by
 have h:=ac7;generalize oW Ei 100 50=l at h;rcases l with _ | ⟨x0,_ | ⟨x1,_ | ⟨x2,l⟩⟩⟩
 . simp at h
 . simp at h
 . simp only[List.map_cons,List.map_nil,ldt,List.cons.injEq,and_true]at h
   obtain⟨⟨h1,h2,h3,h4,h5⟩,k1,k2,k3,k4,k5⟩:=h;exact⟨x0,x1,rfl,h1,k1,by unfold rcv;rw[h2,h3,h4,h5],by unfold rcv;rw[k2,k3,k4,k5]⟩
 . simp at h
theorem ac9:Fw.cst (iN Ei) 64 0+jG (iN Ei) 64 0<1000:=by decide +kernel
theorem afG:(tl (iN Ei) 100 50 64 (nH Ei 100 50)).length<1000:=by decide +kernel
theorem WK:oI A1 1 Ms=0:=by decide +kernel
theorem aau:dG A1 1 Ms=Ei:=by unfold dG;rw[WK,if_pos rfl];rfl
theorem ac':Fits Ms:=λi h _=>by
 have:∀i:Fin 55,(Lit.int .i64 (Ms.c i)).wf=true:=by decide +kernel
 exact this ⟨i,h⟩
theorem Qb(z:Int)(nd:Tr.Nd)(h:Ei z=some nd):nd.kids.length<=64/\0<=nd.sty.c 0/\nd.sty.c 0<=3:=by
 by_cases h0:z=0
 . subst h0
   have e:Ei 0=some ⟨-1,[1],Re.zero⟩:=rfl;rw[e]at h;injection h with h;subst h;exact⟨by decide,by decide,by decide⟩
 . by_cases h1:z=1
   . subst h1
     have e:Ei 1=some ⟨0,[],Ms⟩:=rfl;rw[e]at h;injection h with h;subst h;exact⟨by decide,by decide,by decide⟩
   . exfalso
     have e:Ei z=none:=by
      have e1:Ei=Tr.set A1 1 ⟨0,[],Ms⟩:=rfl;rw[e1,Tr.aD _ _ h1];have e2:=Tr.uR (t:=T0) (x:=1) (u:=0) (i:=0) (p:=⟨-1,[],Re.zero⟩) rfl rfl z;show Tr.nZ T0 1 0 0 z=none;rw[e2,if_neg h1,if_neg h0];unfold T0;rw[if_neg h0]
     rw[e]at h;cases h
theorem WL:ny Ei [1]=[1]:=by decide +kernel
theorem aav:su Ei 1 0=true:=by decide +kernel
theorem aaw:su Ei 2 1=true:=by decide +kernel
theorem ada:(jy Ei 64 0).length<1000:=by decide +kernel
section
variable {w:World} {t n:Nat} {L:Lay} {T:Tr.T}
set_option maxHeartbeats 4000000 in
theorem LW(h:fQ w t L T n)(hr:∀nd,T 0=some nd->nd.up = -1){z:Int}{d:Nat}(hd:Tr.Dp T z d){nd:Tr.Nd}(hT:T z=some nd)(ks:List Int)(hks:nd.kids=ks)(hk:∀x∈ks,∃xd,T x=some xd)(hl:ks.length<=5000):Calls Tryz.prog 54 #[.pointer (some ⟨t,0,none⟩),.int .i64 z] w λe w'=>(∃v,e=.returned v/\w'.ownsRow w.heap.size 3 1 v (if su T (d+1) z=true then ny T ks else []).length ((if su T (d+1) z=true then ny T ks else []).map (Value.int .i64)))/\Below w.heap.size w w':=by
 have key:=qH h hr hd;have key2:=λX (hb:Below w.heap.size w X)=>Gs (h.after hb) hT ks hks hk hl;clear h hr hd hT hks hk hl;cases hs:su T (d+1) z
 . rw[hs]at key
   clear hs key2;show Calls _ _ _ _ λe w'=>(∃v,e=.returned v/\w'.ownsRow w.heap.size 3 1 v 0 [])/\_;go_enter Tryz.func54,Tryz.ntmps54
   go_wp2_with (go_at_call 19;(with_reducible refine key.mono ?_);rintro e w1 ⟨rfl,hb1⟩)
   go_ret
   exact⟨⟨_,rfl,World.ownsRow_nil _ _ _ _⟩,hb1⟩
 . rw[hs]at key
   clear hs;show Calls _ _ _ _ λe w'=>(∃v,e=.returned v/\w'.ownsRow w.heap.size 3 1 v (ny T ks).length ((ny T ks).map (Value.int .i64)))/\_;go_enter Tryz.func54,Tryz.ntmps54
   go_wp2_with (first|(go_at_call 19;(with_reducible refine key.mono ?_);rintro e w1 ⟨rfl,hb1⟩)|(go_at_call 110;(with_reducible refine(key2 _ hb1).mono ?_);rintro e w2 ⟨⟨v,u,rfl,hv,hu,-⟩,hb2⟩))
   go_ret
   exact⟨⟨_,rfl,fE hv hb1.size⟩,Below.ay hb1 (ah _) hb2⟩
end
set_option maxHeartbeats 4000000 in
theorem OA(n:Nat)(a b c d a' b' c' d':Int)(w:World):(Op.equalIn (n+1+1) 36 (.agg #[.int .i64 a,.int .i64 b,.int .i64 c,.int .i64 d]) (.agg #[.int .i64 a',.int .i64 b',.int .i64 c',.int .i64 d'])).run Tryz.prog w=.ok (decide (a=a')&&decide (b=b')&&decide (c=c')&&decide (d=d')) w:=by
 have hi:=run_equalIn_int (P:=Tryz.prog) w n 3 .i64 .i64;have hr:List.range' 0 4=[0,1,2,3]:=rfl;have hs:Tryz.t3.size=1:=by kernel_rfl
 have hu:Tryz.prog.underlying 3=some (.int .i64):=Tryz.underlying3;unfold Op.equalIn;by_cases h1:a=a'<;>by_cases h2:b=b'<;>by_cases h3:c=c'<;>by_cases h4:d=d'<;>simp[run_underlying Tryz.underlying36,sizeOf,hr,hs,part,hi _ _ hu,h1,h2,h3,h4]
theorem I9(a b c d a' b' c' d':Int)(w:World):(binOp .eql 36 (.agg #[.int .i64 a,.int .i64 b,.int .i64 c,.int .i64 d]) (.agg #[.int .i64 a',.int .i64 b',.int .i64 c',.int .i64 d'])).run Tryz.prog w=.ok (.bool (decide (a=a')&&decide (b=b')&&decide (c=c')&&decide (d=d'))) w:=by
 rw[run_eql_struct,show(10000:Nat)=9998+1+1 from rfl,OA];rfl
theorem Fv(a b c d a' b' c' d':Int)(w:World):(binOp .eql 33 (.agg #[.int .i64 a,.int .i64 b,.int .i64 c,.int .i64 d]) (.agg #[.int .i64 a',.int .i64 b',.int .i64 c',.int .i64 d'])).run Tryz.prog w=.ok (.bool (decide (a=a')&&decide (b=b')&&decide (c=c')&&decide (d=d'))) w:=by
 rw[run_eql_struct];by_cases h1:a=a'<;>by_cases h2:b=b'<;>by_cases h3:c=c'<;>by_cases h4:d=d'<;>go_simp<;>simp[h1,h2,h3,h4]
set_option maxHeartbeats 8000000 in
theorem vO(w:World):Calls Tryz.prog 15 #[] w λe w'=>e=.returned (.bool true)/\Below w.heap.size w w':=by
 have hbs:∀X,(Instr.build 51 #[(26,.agg #[.int .i64 30,.int .i64 20]),(11,.agg #[.int .i64 1,.int .i64 2,.int .i64 3,.int .i64 4])]).run Tryz.prog X=.ok (.agg (cells Ms)) X:=λX=>by kernel_rfl
 have hb2:∀X,(Instr.build 49 #[(0,.int .i64 30),(1,.int .i64 20)]).run Tryz.prog X=.ok (.agg #[.int .i64 30,.int .i64 20]) X:=λX=>by kernel_rfl
 have hb4:∀X,(Instr.build 36 #[(0,.int .i64 1),(1,.int .i64 2),(2,.int .i64 3),(3,.int .i64 4)]).run Tryz.prog X=.ok (.agg #[.int .i64 1,.int .i64 2,.int .i64 3,.int .i64 4]) X:=λX=>by kernel_rfl
 have hbr:∀X,(Instr.build 33 #[(2,.int .i64 100),(3,.int .i64 24)]).run Tryz.prog X=.ok (.agg #[.int .i64 0,.int .i64 0,.int .i64 100,.int .i64 24]) X:=λX=>by kernel_rfl
 go_enter Tryz.func15,Tryz.ntmps15
 go_upto_region 4 with(go_at_call 53;(with_reducible refine(LV w).mono ?_);rintro e w1 ⟨⟨t,rfl,L0,g0⟩,hb0⟩)
 have hs0:=hb0.size;have kA:=ac5 g0 ak hs0;clear g0
 go_upto_region 5 with(go_at_call 23;(with_reducible refine kA.mono ?_);rintro e w2 ⟨rfl,L1,n1,g1,hn1,hbA⟩)
 clear kA;have hs1:w.heap.size<=w2.heap.size:=aC hs0 hbA.size;have kS:=sH g1 hs1 (x:=1) ((eT _).2 ak) ac';rw[WK,aau]at kS
 go_upto_region 6 with(go_at_call 24;refine Calls.mono (show _ from kS) ?_;rintro e w3 ⟨rfl,g2,-, hbS⟩)
 clear kS;have hs2:w.heap.size<=w3.heap.size:=aC hs1 hbS.size;have em1:max (100:Int) 0=100:=by decide
 have em2:max (50:Int) 0=50:=by decide
 have kL:=WC g2.inv.rep g2.inv.wf (λz nd h=>(Qb z nd h).1) (λz nd h=>(Qb z nd h).2) 100 50 (by have:=ac9;unfold maxLen;omega) (by rw[em1,em2];have:=afG;unfold maxLen;omega) (by have:=ada;unfold maxLen;omega);rw[em1,em2]at kL;clear em1 em2
 go_upto_region 7 with(go_at_call 17;(with_reducible refine kL.mono ?_);rintro e w4 ⟨⟨b,nr,rfl,gb,hG,hnr⟩,hbL⟩)
 clear kL;obtain⟨x0,x1,hl,i0,i1,v0,v1⟩:=ac8;have hnd:([x0,x1].map (·.id)).Nodup:=by simp[i0,i1]
 have hG2:qA Ei 100 50=iZ (λ_=>none) [x0,x1]:=by unfold qA;rw[hl]
 rw[hG2]at hG;have hq0:iZ (λ_=>none) [x0,x1] (.int .i64 0)=some (rcv x0):=by
  have h:=vN [x0,x1] (λ_=>none) x0 hnd eY
  rwa [i0]at h
 have hq1:iZ (λ_=>none) [x0,x1] (.int .i64 1)=some (rcv x1):=by
  have h:=vN [x0,x1] (λ_=>none) x1 hnd eY
  rwa [i1]at h
 have w0:Wf 0:=by rw[eT];omega
 have w1':Wf 1:=by rw[eT];omega
 have hn2:nr=2:=by
  have h1:=hG.ge (l:=[0,1]) aG (λz hz=>by
   simp only[List.mem_cons,List.not_mem_nil,or_false]at hz;rcases hz with rfl|rfl
   . exact⟨w0,by rw[hq0];rfl⟩
   . exact⟨w1',by rw[hq1];rfl⟩)
  rw[hl]at hnr;simp at h1 hnr;omega
 subst hn2;have hk0:=hG.look jr Tryz.underlying28 (z:=.agg #[.int .i64 0,.int .i64 0,.int .i64 0,.int .i64 0]) fV (j4 w0);have hk1:=hG.look jr Tryz.underlying28 (z:=.agg #[.int .i64 0,.int .i64 0,.int .i64 0,.int .i64 0]) fV (j4 w1');rw[hq0,Option.getD_some,v0]at hk0;rw[hq1,Option.getD_some,v1]at hk1;have hln:=λty=>hG.len Tryz.underlying28 ty;have g4:=g2.after hbL;have hs3:w.heap.size<=w4.heap.size:=aC hs2 hbL.size;have hT0:Ei 0=some ⟨-1,[1],Re.zero⟩:=rfl;have hd0:Tr.Dp Ei 0 0:=.root hT0;have hd1:Tr.Dp Ei 1 1:=.step (nd:=⟨0,[],Ms⟩) rfl aG hd0
 have kF:=LW g4.inv.rep (λnd h=>by rw[hT0]at h;injection h with h;rw[<-h]) hd0 hT0 [1] rfl (λx hx=>by
  simp only[List.mem_cons,List.not_mem_nil,or_false]at hx;subst hx
  exact⟨⟨0,[],Ms⟩,rfl⟩) aG
 rw[aav,if_pos rfl,WL]at kF
 have kF:Calls Tryz.prog 54 _ w4 λe w'=>(∃g c,e=.returned (.slice (some ⟨g,0,none⟩) 1 c))/\Below w4.heap.size w4 w':=kF.mono λe w' h=>by
  obtain⟨⟨v,rfl,hown⟩,hb⟩:=h;have ho:w'.ownsRow w4.heap.size 3 1 v (0+1) ([1].map (.int .i64)):=hown;obtain⟨g,c,rfl⟩:=ownsRow_succ ho;exact⟨⟨g,c,rfl⟩,hb⟩
 have kSh:=λX (h:Below w4.heap.size w4 X)=>qH (g4.after h).inv.rep (λnd h=>by rw[hT0]at h;injection h with h;rw[<-h]) hd1;simp only[show su Ei (1+1) 1=true from aaw]at kSh;have kSt:=λX (h:Below w4.heap.size w4 X)=>qc (g4.after h).inv.rep (z:=1) w1';simp only[show(Ei 1).elim Re.zero (·.sty)=Ms from rfl]at kSt;have hed:=λX=>xu Ms X;have e0:Fw.ed Ms 0=1:=by decide
 have e1:Fw.ed Ms 1=2:=by decide
 have e2:Fw.ed Ms 2=3:=by decide
 have e3:Fw.ed Ms 3=4:=by decide
 simp only[e0,e1,e2,e3]at hed;have afH:Below w.heap.size w w4:=((hb0.trans hbA).trans hbS).trans (hbL.mono hs2);have er:=Fv 0 0 100 24 0 0 100 24;have ef:=I9 1 2 3 4 1 2 3 4;clear e0 e1 e2 e3 hG hq0 hq1 hG2 hl hnd g2 g1 hbA hbS hb0 gb hnr v0 v1 i0 i1 hT0 hd0 hd1
 go_wp2_with (first|(go_at_call 54;(with_reducible refine kF.mono ?_);rintro e w5 ⟨⟨gv,cv,rfl⟩,hb5⟩)|(go_at_call 19;(with_reducible refine(kSh _ hb5).mono ?_);rintro e w6 ⟨rfl,hb6⟩)|(go_at_call 21;(with_reducible refine(kSt _ (hb5.trans (hb6.mono hb5.size))).mono ?_);rintro e w7 ⟨rfl,xR⟩)|(go_at_call 20;(with_reducible refine(hed _).mono ?_);rintro e w8 ⟨rfl,xQ⟩))
 go_ret
 refine⟨rfl,?_⟩;have h1:=hb5.size;have h2:=hb6.size;have h3:=xR.size;exact afH.trans (((hb5.mono hs3).trans (hb6.mono ak)).trans ((xR.mono ak).trans (xQ.mono ak)))
end Go.Proofs.YtcbcfdihofclkaaGreat.Fix
namespace Go.Proofs.YtcbcfdihofclkaaGreat.Fix
theorem Sd{B:Int->Fw.Bx}{f:Nat}{z i0 i1:Int}(h:(B z).fl=[]):Fw.cont B f z i0 i1=([],(B z).sty.c 54):=by
 cases f with
 | zero=>rfl
 | succ f=>simp only[Fw.cont,h,if_true]
theorem aax{B:Int->Fw.Bx}{ww wh:Int}{f:Nat}{x:Fw.Ld}(h:(B x.id).fl=[])(ha:(B x.id).ap=[]):tl B ww wh f x=[x]:=by
 cases f with
 | zero=>rfl
 | succ f=>simp only[tl,Sd h,ha,List.flatMap_nil,List.append_nil]
def T2(s:Re.St):Tr.T:=Tr.wD A1 1 s
section
variable {s:Re.St} (h3:s.c 0≠3) (hp2:s.c 1≠2) (hp3:s.c 1≠3)
include h3 hp2 hp3
end
end Go.Proofs.YtcbcfdihofclkaaGreat.Fix
