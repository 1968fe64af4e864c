/- Steps of the program (16); no conditions. -/
import Derived.Test.YtdnggaapcgomhaaGreatM15
set_option linter.all false
set_option maxRecDepth 100000
set_option maxHeartbeats 16000000
namespace Go.Proofs.YtdnggaapcgomhaaGreat.Fix
open Go.ChangeShapes Go.WideShapes Go.ChangeAt Go.RowKit
open Go.Proofs.Tryz renaming prog → ja0
section
open Go.Deep Go.Joins
open List renaming getElem?_eq_getElem → ja6,take_of_length_le → jb6
variable {a:Option Addr}
structure tT where
 k:Int
 a:Int
 b:Int
 c:Int
 s:Re.St
def eG(x:tT):Array Value:=#[.int .i64 x.k,.int .i64 x.a,.int .i64 x.b,.int .i64 x.c]++cells x.s
structure NM(x:tT):Prop where
 k:Wf x.k
 a:Wf x.a
 b:Wf x.b
 c:Wf x.c
 s:Fits x.s
theorem Bw(x:tT):(eG x).size=59:=by simp[eG,bI]
theorem xX(x:tT){j:Nat}(h:j<55):(eG x)[4+j]? = some (cell x.s j):=by
 unfold eG;rw[Array.getElem?_append_right aW,show 4+j-(#[x.k,x.a,x.b,x.c]:Array Value).size=j by simp,gM x.s h]
theorem mK(x:tT){j:Nat}(h:j<4):(eG x)[j]? = (#[Value.int .i64 x.k,.int .i64 x.a,.int .i64 x.b,.int .i64 x.c]:Array Value)[j]? := by
 unfold eG;rw[Array.getElem?_append_left (by simpa using h)]
def Iu(W:World)(b o:Nat)(x:tT):Prop:=∀j,j<59->W.cell? ⟨b,o+j,none⟩=(eG x)[j]?
theorem aan{W:World}{b o:Nat}{x:tT}(h:Iu W b o x):(Instr.loadAt 91 (.pointer (some ⟨b,o,none⟩))).run ja0 W=.ok (.agg (eG x)) W:=by
 have hl:=run_loadCells_list (P:=ja0) W ⟨b,o,none⟩ (eG x).toList (λj v hj=>by
  have hj':j<59:=by have:=(List.getElem?_eq_some_iff.1 hj).1;simpa[Bw]using this
  rw[addr_add,h j hj'];rw[Array.getElem?_toList]at hj
  exact hj)
 rw[Array.length_toList,Bw]at hl;have hi:(isAgg 91).run ja0 W=.ok true W:=by kernel_rfl
 have hz:(sizeOf 91).run ja0 W=.ok 59 W:=by kernel_rfl
 simp only[Instr.loadAt,Instr.sureAddr,Sem.run_bind,Sem.run_pure,Result.andThen_ok,loadVar,hi,hz,hl,if_true]
theorem Cr{ops:Array Oper}{rest:List Oper}{o:Oper}{a:Act}{w:World}{Q:Exit->Act->World->Prop}(hw:Region.wanted o (yielded ops a.tmps)=true)(y:Operand)(ho:o.op=.load 91 y){b k:Nat}(hy:a.eval y=.pointer (some ⟨b,k,none⟩)){x:tT}(hs:Iu w b k x)
  (h:wpList ja0 ops Q rest (a.put o.dst (.agg (eG x))) w):wpList ja0 ops Q (o::rest) a w :=
 dL hw (by unfold execOp;simp only[ho,hy,Sem.run_bind,aan hs,Result.andThen_ok,Sem.run_pure]) h
theorem NP:Tryz.prog.cellsOf 91=59:=by kernel_rfl
def NQ(w:World)(a:Option Addr)(len cap:Nat):Prop :=
 (a=none/\len=0/\cap=0)\/∃x,a=some x/\len<=cap/\cap<=maxLen/\∃l:Nat->tT,∀i,i<len->NM (l i)/\∀j,j<59->w.cell? (x.add (i*59+j))=(eG (l i))[j]?
section
variable {H:Type} {enc:TypeId×Value->H} {w:World} {base:Nat} {spare:Nat->Bool} {held:Bool}
theorem aao{n:Nat}{cs:List Value}{y:DataW H×List MemPlace}(h:DataW.trod enc ja0 w base spare held n 91 cs=some y):∃x:tT,cs=(eG x).toList/\NM x:=by
 obtain⟨xs,k,rfl,_,hl,hxl,hf⟩:=DataW.trod_struct Tryz.underlying91 h;rw[NP]at hl;have ex:∀i,i<5->∃y,xs[i]? = some y:=λi hi=>⟨_,ja6 (by rw[hxl];exact hi)⟩;obtain⟨y0,q0⟩:=ex 0 aG;obtain⟨y1,q1⟩:=ex 1 aG;obtain⟨y2,q2⟩:=ex 2 aG;obtain⟨y3,q3⟩:=ex 3 aG;obtain⟨y4,q4⟩:=ex 4 aG;have g0:DataW.trod enc ja0 w base spare held k 3 ((cs.drop 0).take (Tryz.prog.cellsOf 3))=some y0:=(hf 0 _ rfl).trans q0;have g1:DataW.trod enc ja0 w base spare held k 3 ((cs.drop 1).take (Tryz.prog.cellsOf 3))=some y1:=(hf 1 _ rfl).trans q1;have g2:DataW.trod enc ja0 w base spare held k 3 ((cs.drop 2).take (Tryz.prog.cellsOf 3))=some y2:=(hf 2 _ rfl).trans q2;have g3:DataW.trod enc ja0 w base spare held k 3 ((cs.drop 3).take (Tryz.prog.cellsOf 3))=some y3:=(hf 3 _ rfl).trans q3;have g4:DataW.trod enc ja0 w base spare held k 68 ((cs.drop 4).take (Tryz.prog.cellsOf 68))=some y4:=(hf 4 _ rfl).trans q4;rw[xM]at g0 g1 g2 g3;rw[yI]at g4;obtain⟨a0,e0,_,w0⟩:=DataW.trod_int Tryz.underlying3 g0;obtain⟨a1,e1,_,w1⟩:=DataW.trod_int Tryz.underlying3 g1;obtain⟨a2,e2,_,w2⟩:=DataW.trod_int Tryz.underlying3 g2;obtain⟨a3,e3,_,w3⟩:=DataW.trod_int Tryz.underlying3 g3;have g5:DataW.Trod enc ja0 w base spare held 68 (.agg ((cs.drop 4).take 55).toArray) y4.1 y4.2:=⟨k,g4⟩;obtain⟨s,e4,ws⟩:=Pz g5;injection e4 with e4;have e4':(cs.drop 4).take 55=(cells s).toList:=by rw[<-e4]
 refine⟨⟨a0,a1,a2,a3,s⟩,?_,⟨w0,w1,w2,w3,ws⟩⟩;obtain⟨v0,v1,v2,v3,r,rfl⟩:∃v0 v1 v2 v3 r,cs=v0::v1::v2::v3::r:=by
  clear e0 e1 e2 e3 e4 e4' g0 g1 g2 g3 g4 g5 hf h;rcases cs with _ | ⟨v0,_ | ⟨v1,_ | ⟨v2,_ | ⟨v3,r⟩⟩⟩⟩<;>first|exact⟨_,_,_,_,_,rfl⟩|exact absurd hl aW
 simp at e0 e1 e2 e3 hl;subst e0 e1 e2 e3;have hr:(List.drop 4 (Value.int .i64 a0 :: .int .i64 a1 :: .int .i64 a2 :: .int .i64 a3::r)).take 55=r:=jb6 iJ;rw[hr]at e4';simp[eG,e4']
theorem VH{n:Nat}{cs:List Value}{x:DataW H×List MemPlace}(h:DataW.trod enc ja0 w base spare held n 22 cs=some x) :
  ∃a len cap,cs=[.slice a len cap]/\NQ w a len cap:=by
 rcases open_slice Tryz.underlying22 h with⟨rfl,_⟩|⟨a,len,cap,m,k,D,Pl,rfl,hb,hl,hm,hmm,rfl,hx⟩
 . exact⟨none,0,0,rfl,.inl ⟨rfl,rfl,rfl⟩⟩
 . refine⟨some a,len,cap,rfl,.inr ⟨a,rfl,hl,hm,?_⟩⟩
   have each:∀i,i<len->∃q:tT,NM q/\∀j,j<59->w.cell? (a.add (i*59+j))=(eG q)[j]? := by
    intro i hi;have him:i<m:=by clear hx;rw[hmm];split<;>omega
    have h12:=hx i him;rw[NP]at h12;obtain⟨cs',h1,h2⟩:=h12;have hcell:=(World.cells?_some h1).2.2;obtain⟨q,hcs,hq⟩:=aao h2;refine⟨q,hq,λj hj => ?_⟩;have:=hcell j hj;rw[hcs,Array.getElem?_toList]at this;rw[<-this,add_add]
   have:Inhabited tT:=⟨⟨0,0,0,0,Re.zero⟩⟩;obtain⟨q,hq⟩:=choose_lt each;exact⟨q,hq⟩
end
theorem NQ.cap{w:World}{len cap:Nat}(h:NQ w a len cap):len<=cap/\len<=9223372036854775807:=by
 rcases h with⟨_,rfl,rfl⟩|⟨_,_,h,h2,_⟩
 . omega
 . simp only[maxLen]at h2;omega
def aap(w:World)(a:Option Addr)(len:Nat)(l:Nat->tT):Prop:=0<len->∃b off,a=some ⟨b,off,none⟩/\b<w.heap.size/\∀k,k<len->NM (l k)/\Iu w b (off+k*59) (l k)
theorem NQ.acts{w:World}{len cap:Nat}(h:NQ w a len cap):∃l,aap w a len l:=by
 rcases h with⟨rfl,rfl,rfl⟩|⟨x,rfl,_,_,l,hc⟩
 . exact⟨λ_=>⟨0,0,0,0,Re.zero⟩,λh=>absurd h ak⟩
 . refine⟨l,λh0 => ?_⟩
   obtain⟨b,off,spot⟩:=x;have c0:=(hc 0 h0).2 0 ak;rw[mK _ ak]at c0;have hspot:spot=none:=by
    have:=World.cell?_spot c0;simpa[Addr.add]using this
   subst hspot;have hb:=World.block_lt_of_cell? _ _ c0;refine⟨b,off,rfl,by unfold Addr.add at hb;simpa using hb,λk hk=>⟨(hc k hk).1,λj hj => ?_⟩⟩;have e:=(hc k hk).2 j hj;simp only[addr_add,<-Nat.add_assoc]at e;exact e
theorem aap.after{W W':World}{n:Nat}{l:Nat->tT}(h:aap W a n l)(hb:Below W W W'):aap W' a n l:=λh0=>by
 obtain⟨b,off,e,hl,hc⟩:=h h0;have hsz:=hb.size;refine⟨b,off,e,by omega,λk hk=>⟨(hc k hk).1,λj hj => ?_⟩⟩;rw[<-(hc k hk).2 j hj];exact hb.cell (p:=⟨b,off+k*59+j,none⟩) hl
def Bz(T:Tr.T):Prop:=∀z nd,T z=some nd->Fits nd.sty
theorem Iw:Fits Re.zero:=λi _ _=>aV
end
section
open Go.Deep Go.Joins Go.Shelf
variable {W W':World}{x:Int}{L:Lay}
def dN(T' T:Tr.T):Prop:=∀z nd,T' z=some nd->nd.sty=Re.zero\/∃q,T z=some q/\q.sty=nd.sty
theorem dN.refl(T:Tr.T):dN T T:=λz nd h => .inr ⟨nd,h,rfl⟩
theorem dN.trans{T T' T'':Tr.T}(h:dN T'' T')(k:dN T' T):dN T'' T:=λz nd hz=>by
 rcases h z nd hz with e|⟨q,hq,e⟩
 . exact .inl e
 . rw[<-e];exact k z q hq
theorem dN.set{T:Tr.T}{p nd:Tr.Nd}(hx:T x=some p)(he:nd.sty=p.sty):dN (Tr.set T x nd) T:=λz q hz=>by
 by_cases e:z=x
 . subst e;rw[Tr.aP]at hz;cases hz;exact .inr ⟨p,hx,he.symm⟩
 . rw[Tr.aK _ _ e]at hz;exact .inr ⟨q,hz,rfl⟩
theorem dN.leave(T:Tr.T)(x:Int):dN (Tr.leave T x) T:=by
 unfold Tr.leave;split
 . exact dN.refl _
 . split
   . exact dN.refl _
   . rename_i p hp;exact dN.set hp rfl
theorem dN.enter(T:Tr.T)(x u:Int)(i:Nat):dN (Tr.enter T x u i) T:=by
 unfold Tr.enter;split
 . rename_i p nd hu hx
   have h1:dN (Tr.set T u { p with kids:=Tr.wi p.kids i x }) T:=dN.set hu rfl;intro z q hz;by_cases e:z=x
   . subst e;rw[Tr.aP]at hz;cases hz;exact .inr ⟨nd,hx,rfl⟩
   . rw[Tr.aK _ _ e]at hz;exact h1 z q hz
 . exact dN.refl _
theorem dN.del(T:Tr.T)(l:List Int):dN (Tr.del T l) T:=λz q hz=>by
 unfold Tr.del at hz;split at hz
 . cases hz
 . exact .inr ⟨q,hz,rfl⟩
theorem dN.jG(T:Tr.T)(u a:Int):dN (Tr.jG T u a) T:=by
 unfold Tr.jG;split
 . unfold Tr.nX
   refine(dN.enter _ _ _ _).trans λz q hz => ?_;by_cases e:z=Tr.free T
   . subst e;rw[Tr.aP]at hz;cases hz;exact .inl rfl
   . rw[Tr.aK _ _ e]at hz;exact .inr ⟨q,hz,rfl⟩
 . exact dN.refl _
theorem dN.mq(T:Tr.T)(x:Int):dN (Tr.mq T x) T:=by
 unfold Tr.mq;split
 . exact(dN.del _ _).trans (dN.leave _ _)
 . exact dN.refl _
theorem dN.j4(T:Tr.T)(x u a:Int):dN (Tr.j4 T x u a) T:=by
 unfold Tr.j4;split
 . exact(dN.enter _ _ _ _).trans (dN.leave _ _)
 . exact dN.refl _
theorem Bz.le{T T':Tr.T}(h:Bz T)(k:dN T' T):Bz T':=λz nd hz=>by
 rcases k z nd hz with e|⟨q,hq,e⟩
 . rw[e];exact Iw
 . rw[<-e];exact h z q hq
theorem Bz.jI{T:Tr.T}(h:Bz T)(z:Int){s:Re.St}(hs:Fits s):Bz (jI T z s):=by
 unfold Fix.jI;split
 . unfold Tr.FT
   split
   . exact h
   . intro y nd hy
     by_cases e:y=z
     . subst e;rw[Tr.aP]at hy;cases hy;exact hs
     . rw[Tr.aK _ _ e]at hy;exact h y nd hy
 . exact h
theorem Fq(T:Tr.T)(z:Int)(s:Re.St):Tr.Alike T (jI T z s):=by
 unfold Fix.jI;split
 . exact Tr.Tj T z s
 . exact λ_=>rfl
theorem VI{t s:Tr.T}(H:Tr.WF t)(h:Tr.Alike t s){nd:Tr.Nd}(hx:t x=some nd):Tr.sub s 64 x=Tr.sub t 64 x/\Tr.hgt s 64 x=Tr.hgt t 64 x :=
 ((H.gD hx).congr λy _ nd hy=>by obtain⟨nd',h1,_,h2⟩:=h.some hy;exact⟨nd',h1,h2⟩).2
theorem VJ{t s:Tr.T}(H:Tr.WF t)(h:Tr.Alike t s):Tr.ord s=Tr.ord t:=by
 obtain⟨nd,h1,_⟩:=H.root;exact(VI H h h1).1
theorem Inv.set{t n:Nat}{T:Tr.T}(h:Inv W t L T n){z:Int}{s:Re.St}(hr:dQ W' t L (jI T z s) n):Inv W' t L (jI T z s) n :=
 ⟨hr,h.wf.alike (Fq T z s),by rw[VJ h.wf (Fq T z s)];exact h.num⟩
structure Good(W:World)(t:Nat)(L:Lay)(T:Tr.T)(n n0:Nat):Prop where
 inv:Inv W t L T n
 own:∀b,owned t L T b->n0<=b
 fit:Bz T
theorem Good.step{t n n' n0:Nat}{L L':Lay}{T T':Tr.T}(h:Good W t L T n n0)(hi:Inv W' t L' T' n')(hg:Grow t L L' T T' W W')(hf:Bz T')(h0:n0<=W.heap.size):Good W' t L' T' n' n0/\Below n0 W W' :=
 ⟨⟨hi,λb hb=>(hg.2 b hb).elim (h.own b) λq=>aJ h0 q,hf⟩,hg.1.below h0 λb hb q=>absurd (h.own b q) ak⟩
theorem Good.after{t n n0:Nat}{T:Tr.T}(h:Good W t L T n n0)(hb:Below W W W'):Good W' t L T n n0:=⟨⟨h.inv.rep.after hb,h.inv.wf,h.inv.num⟩,h.own,h.fit⟩
theorem Inv.after{t n:Nat}{T:Tr.T}(h:Inv W t L T n)(hb:Below W W W'):Inv W' t L T n:=⟨h.rep.after hb,h.wf,h.num⟩
theorem Good.new{t:Nat}(h:Inv W' t L T0 1)(hb:∀b,owned t L T0 b->W.heap.size<=b):Good W' t L T0 1 W.heap.size:=⟨h,hb,λz nd hz=>by
 unfold T0 at hz;split at hz
 . cases hz;exact Iw
 . cases hz⟩
noncomputable def VK(T:Tr.T)(x:tT):Tr.T:=if x.k.tmod 5=2 then Tr.mq T x.a else if x.k.tmod 5=3 then Tr.j4 T x.a x.b x.c else if x.k.tmod 5=4 then jI T x.a x.s else Tr.jG T x.a x.b
section
variable {w:World} {t n n0:Nat} {L:Lay} {T:Tr.T}
theorem NR(h:Good w t L T n n0)(hn:n<4096)(h0:n0<=w.heap.size){u a:Int}(hu:Wf u):Calls ja0 34 #[t,u,a] w λe w'=>e=.returned (.tuple #[Tr.sM T u a,Tr.lI T u a])/\∃L' n',Good w' t L' (Tr.jG T u a) n' n0/\n'<=n+1/\Grow t L L' T (Tr.jG T u a) w w'/\Below n0 w w':=by
 refine(XC h.inv hn hu).mono ?_;rintro e w' ⟨rfl,L',n',hi,hl,hg⟩;obtain⟨g1,g2⟩:=h.step hi hg (h.fit.le (dN.jG _ _ _)) h0;exact⟨rfl,L',n',g1,hl,hg,g2⟩
theorem VL(h:Good w t L T n n0)(h0:n0<=w.heap.size){x u a:Int}(hx:Wf x)(hu:Wf u):Calls ja0 75 #[t,x,u,a] w λe w'=>e=.returned (.int .i64 (Tr.jf T x u a))/\∃L',Good w' t L' (Tr.j4 T x u a) n n0/\Grow t L L' T (Tr.j4 T x u a) w w'/\Below n0 w w':=by
 refine(Ur h.inv hx hu).mono ?_;rintro e w' ⟨rfl,L',hi,hg⟩;obtain⟨g1,g2⟩:=h.step hi hg (h.fit.le (dN.j4 _ _ _ _)) h0;exact⟨rfl,L',g1,hg,g2⟩
theorem NS(h:Good w t L T n n0)(h0:n0<=w.heap.size)(hx:Wf x):Calls ja0 73 #[t,x] w λe w'=>e=.returned (.tuple #[Tr.wQ T x,Tr.qw T x])/\∃L' n',Good w' t L' (Tr.mq T x) n' n0/\n'<=n/\Grow t L L' T (Tr.mq T x) w w'/\Below n0 w w':=by
 refine(Mf h.inv hx).mono ?_;rintro e w' ⟨rfl,L',n',hi,hl,hg⟩;obtain⟨g1,g2⟩:=h.step hi hg (h.fit.le (dN.mq _ _)) h0;exact⟨rfl,L',n',g1,hl,hg,g2⟩
theorem Fu(h:Good w t L T n n0)(h0:n0<=w.heap.size)(hx:Wf x){s:Re.St}(hs:Fits s):Calls ja0 33 #[t,x,.agg (cells s)] w λe w'=>e=.returned (.int .i64 (rz T x s))/\Good w' t L (jI T x s) n n0/\Grow t L L T (jI T x s) w w'/\Below n0 w w':=by
 refine(XB h.inv.rep hx s).mono ?_;rintro e w' ⟨rfl,hr,hg⟩;obtain⟨g1,g2⟩:=h.step (h.inv.set hr) hg (h.fit.jI _ hs) h0;exact⟨rfl,g1,hg,g2⟩
theorem NT(w:World):Calls ja0 32 #[] w λe w'=>(∃t,e=.returned (.pointer (some ⟨t,0,none⟩))/\∃L,Good w' t L T0 1 w.heap.size)/\Below w w w':=by
 refine(XA w).mono ?_;rintro e w' ⟨⟨t,rfl,L,hr,ho⟩,hb⟩;refine⟨⟨t,rfl,L,Good.new ⟨hr,?_,?_⟩ ho⟩,hb⟩
 . have hT:T0 0=some ⟨-1,[],Re.zero⟩:=rfl
   have hz:∀x nd,T0 x=some nd->x=0/\nd=⟨-1,[],Re.zero⟩:=λx nd h=>by
    unfold T0 at h;split at h
    . cases h;exact⟨by assumption,rfl⟩
    . cases h
   refine⟨⟨_,hT,rfl⟩,λx nd h => ?_,λx nd h h0=>absurd (hz x nd h).1 h0,λu p x h hx => ?_,λu p h => ?_,λx nd h => ?_⟩
   . rw[(hz x nd h).1];omega
   . rw[(hz u p h).2]at hx;cases hx
   . rw[(hz u p h).2];exact List.nodup_nil
   . rw[(hz x nd h).1];exact⟨0,by omega,.root hT⟩
 . decide +kernel
theorem QX(h:Good w t L T n n0):Calls ja0 15 #[t] w λe w'=>(∃v,e=.returned v/\Kept w' t L T v (Tr.ord T))/\Below w w w':=by
 refine(DX h.inv.rep h.inv.wf.uH (by have:=h.inv.wf.iE;omega)).mono ?_;rintro e w' ⟨⟨v,rfl,ho⟩,hb⟩;exact⟨⟨v,rfl,Kept.new h.inv.rep ho aC⟩,hb⟩
def xY(T:Tr.T)(z:Int):List Int:=(T z).elim [] (·.kids)
theorem aaq{T:Tr.T}(H:Tr.WF T)(z:Int) : -1<=Tr.dep T z/\Tr.dep T z<=63:=by
 cases hT:T z with
 | none=>rw[Tr.Lc hT];omega
 | some nd=>obtain⟨d,h1,h2,h3⟩:=H.iF hT;omega
end
def ajR:Re.St:=⟨λi=>if i=46 then 3 else 0,λ_=>false⟩
def A1:Tr.T:=Tr.nX T0 1 0 0
def A2:Tr.T:=Tr.nX A1 2 0 1
def A3:Tr.T:=Tr.j3 A2 1 2 0
def A4:Tr.T:=Tr.FT A3 1 ajR
theorem VN{t:Tr.T}{z:Int}(h:(t z).isSome=true):t z≠none:=λe=>by rw[e]at h;cases h
theorem isSome_none{t:Tr.T}{z:Int}(h:(t z).isSome=false):t z=none:=by cases e:t z with
 | none=>rfl
 | some _=>rw[e]at h;cases h
section
variable {w:World} {t n n0:Nat} {L:Lay}
end
end
section
open List renaming length_take → jc9
section
variable {T:Tr.T} (H:Tr.WF T) {x u:Int} {nd p:Tr.Nd} (hx:T x=some nd) (h0:x≠0) (hu:T u=some p) (hun:u ∉ Tr.sub T 64 x)
include H hx h0 hu hun
theorem afx(i:Nat){y:Int}{m:Nat}(h:Tr.Dp T y m):y ∉ Tr.sub T 64 x->Tr.Dp (Tr.j3 T x u i) y m:=by
 have A:=λy=>H.xH hx h0 hu hun i y
 induction h with
 | root h =>
   intro _;have e:=A 0;rw[h]at e;exact .root e
 | @step z zd n h hz _ ih =>
   intro hn;have hzx:z≠x:=λe=>hn (H.qU hx h0 e);have e:=A z;rw[h]at e;simp only[Option.map_some,if_neg hzx]at e;exact .step e hz (ih (H.I6 hx h hn hz))
end
structure Moved(T T':Tr.T)(x u a f:Int)(pl:Nat):Prop where
 up:iX T' x=u
 at_:∃n:Nat,a=n/\n<(xY T' u).length/\(xY T' u).getD n 0=x
 ok:Tr.jf T' x f pl=0
 back:Tr.j4 T' x f pl=T
theorem moved{T:Tr.T}(H:Tr.WF T){x u a:Int}(h:Tr.jf T x u a=0){pl:Nat}(hpl:(xY T (iX T x))[pl]? = some x):Moved T (Tr.j4 T x u a) x u a (iX T x) pl:=by
 have hR:Tr.j4 T x u a=Tr.j3 T x u a.toNat:=by unfold Tr.j4;rw[h,if_pos rfl]
 have W:=(H.j4 x u a).1;obtain⟨nd,p,hx,hu,h0,hun,ha,hal,hd⟩:=Tr.GX h;rw[hR]at W ⊢;have A:=λy=>H.xH hx h0 hu hun a.toNat y;obtain⟨q,hq,hqm⟩:=H.up x nd hx h0;have eup:iX T x=nd.up:=by unfold iX;rw[hx]
 rw[eup]at hpl ⊢;have ekq:xY T nd.up=q.kids:=by unfold xY;rw[hq];rfl
 rw[ekq]at hpl;have hxu:x≠u:=λe=>hun (H.qU hx h0 e.symm);have hxn:x≠nd.up:=λe=>H.oN hx h0 (H.qU hx h0 e.symm);have hku:(if u=nd.up then Tr.wo p.kids x else p.kids)=Tr.wo p.kids x:=by
  by_cases e:u=nd.up
  . rw[if_pos e]
  . rw[if_neg e,Tr.uX (λhm=>e (H.La hx h0 hu hm))]
 have Au:Tr.j3 T x u a.toNat u=some { p with kids:=Tr.wi (Tr.wo p.kids x) a.toNat x }:=by
  rw[A,hu];simp only[Option.map_some,if_neg (Ne.symm hxu),if_true,hku]
 have Ax:Tr.j3 T x u a.toNat x=some { nd with up:=u }:=by
  rw[A,hx];simp only[Option.map_some,if_true,if_neg hxu,if_neg hxn]
 have hlen:=Tr.lD (Tr.wo p.kids x) a.toNat x;have hn1:nd.up ∉ Tr.sub (Tr.j3 T x u a.toNat) 64 x:=by rw[(H.I7 hx h0 hu hun a.toNat).1];exact H.oN hx h0
 have ale:pl<q.kids.length:=(List.getElem?_eq_some_iff.1 hpl).1;have hwq:=Tr.GV (H.nodup _ _ hq) hqm;have hz:Tr.jf (Tr.j3 T x u a.toNat) x nd.up pl=0:=by
  obtain⟨d,hd1,hd2,hd3⟩:=H.iF hq;have OJ:Tr.Dp T x (d+1):=.step hx h0 hd2;obtain⟨z,hz1,hz2⟩:=H.Rl (H.gD hx) OJ;have hb:=H.aa2 hz2;have hdp:=afx H hx h0 hu hun a.toNat hd2 (H.oN hx h0);have hde:=W.I8 hdp;obtain⟨p',hp'⟩:=hdp.live;have hkp:Tr.wo p'.kids x=Tr.wo q.kids x:=by
   have e:=A nd.up;rw[hq,hp']at e;simp only[Option.map_some,if_true,if_neg (Ne.symm hxn)]at e;injection e with e;rw[e];simp only;have hno:x ∉ Tr.wo q.kids x:=λhm=>(Tr.xG.1 hm).2 rfl;by_cases e2:nd.up=u
   . rw[if_pos e2,Tr.acZ hno]
   . rw[if_neg e2,Tr.uX hno]
  unfold Tr.jf;rw[Ax,hp'];simp only;rw[if_neg h0,if_neg hn1,hkp,if_neg ak,hde,(H.I7 hx h0 hu hun a.toNat).2,if_neg ak]
 refine⟨by unfold iX;rw[Ax],?_,hz,?_⟩
 . have ek:xY (Tr.j3 T x u a.toNat) u=Tr.wi (Tr.wo p.kids x) a.toNat x:=by unfold xY;rw[Au];rfl
   refine⟨a.toNat,by omega,by rw[ek,hlen];omega,?_⟩;rw[ek];have hl:((Tr.wo p.kids x).take a.toNat).length=a.toNat:=by rw[jc9];omega
   unfold Tr.wi;rw[List.getD,List.getElem?_append_right ak,hl];simp
 . unfold Tr.j4
   rw[hz,if_pos rfl];have e:=H.Xa hx h0 hu hun hq hpl W
   rwa [show((pl:Int).toNat)=pl by omega]
end
section
open List renaming length_append → ja7,mem_cons_of_mem → ja8,length_cons → ja9,length_map → jb7
def ldt(x:Fw.Ld):List Int:=[x.id,Fx.cut x.a0,Fx.cut x.a1,Fx.cut x.s0,Fx.cut x.s1]
theorem GM.ge{W:World}{b n:Nat}{g:Lit->Option Value}(h:GM 3 W b n g){l:List Int}(hn:l.Nodup)(hl:∀z∈l,Wf z/\(g (.int .i64 z)).isSome=true):l.length<=n:=by
 obtain⟨D,h1,h2,h3⟩:=h;obtain⟨es,rfl⟩:=(h1.tidy iT).isMap
 have hk:∀z∈l,Lit.int .i64 z∈es.map (·.1):=λz hz=>by
  obtain⟨hw,hs⟩:=hl z hz;have hh:=(h3 (.int .i64 z) (iT.key (iA hw))).2;rw[hs,Maps.has_eq,List.any_eq_true]at hh;obtain⟨p,hp,hq⟩:=hh;rw[<-WideAt.sameKey_eq hq];exact List.mem_map_of_mem hp
 have hlen:∀(l:List Int) (ks:List Lit),l.Nodup->(∀z∈l,Lit.int .i64 z∈ks)->l.length<=ks.length:=by
  intro l
  induction l with
  | nil=>intro ks _ _;exact eX _
  | cons z l ih =>
    intro ks hn hm;obtain⟨a,c,rfl⟩:=List.append_of_mem (hm z aW)
    have h1:=ih (a++c) (List.nodup_cons.1 hn).2 λy hy=>by
     have h2:=hm y (ja8 _ hy);simp only[List.mem_append,List.mem_cons]at h2 ⊢;rcases h2 with h2|h2|h2
     . exact .inl h2
     . injection h2 with _ h2
       subst h2;exact absurd hy (List.nodup_cons.1 hn).1
     . exact .inr h2
    simp only[ja7,ja9]at h1 ⊢;omega
 have h4:=hlen l _ hn hk;rw[jb7]at h4;rw[<-h2,Maps.size_eq];exact h4
theorem Fv(g:Lit->Option Value)(x:Fw.Ld)(l:List Fw.Ld):jU g (x::l)=jU (xO g (.int .i64 x.id) (rcv x)) l:=rfl
theorem QY{a b:Int}(h:a≠b):Lit.int .i64 a≠Lit.int .i64 b:=λq=>h (by injection q)
theorem Iy(l:List Fw.Ld):∀(g:Lit->Option Value) (z:Int),z ∉ l.map (·.id)->jU g l (.int .i64 z)=g (.int .i64 z):=by
 induction l with
 | nil=>intro g z h;rfl
 | cons x l ih =>
   intro g z h;simp only[List.map_cons,List.mem_cons,not_or]at h;rw[Fv,ih _ z h.2,jZ (QY h.1)]
theorem NU(l:List Fw.Ld):∀(g:Lit->Option Value) (x:Fw.Ld),(l.map (·.id)).Nodup->x∈l->jU g l (.int .i64 x.id)=some (rcv x):=by
 induction l with
 | nil=>intro g x _ h;simp at h
 | cons y l ih =>
   intro g x hn h;simp only[List.map_cons,List.nodup_cons]at hn;rw[Fv];rcases List.mem_cons.1 h with rfl|h
   . rw[Iy l _ _ hn.1,iU]
   . exact ih _ x hn.2 h
def ldP(x:Fw.Ld):Pr:=⟨Fx.cut x.a0,Fx.cut x.a1,Fx.cut x.s0,Fx.cut x.s1⟩
def RLl(l:List Fw.Ld)(z:Int):Option Pr:=(l.find? λx=>x.id==z).map ldP
def RL(T:Tr.T)(ww wh:Int)(z:Int):Option Pr:=RLl (Gy T ww wh) z
theorem afy{l:List Fw.Ld}(hn:(l.map (·.id)).Nodup)(z:Int):jU (λ_=>none) l (.int .i64 z)=(RLl l z).map Pr.ag:=by
 unfold RLl;cases h:l.find? λx=>x.id==z with
 | none =>
   rw[Iy l _ z λhm=>by
    obtain⟨x,hx,he⟩:=List.mem_map.1 hm;have:=List.find?_eq_none.1 h x hx
    simp[he]at this]
   rfl
 | some x =>
   have h1:=List.mem_of_find?_eq_some h;have h2:=List.find?_some h;rw[beq_iff_eq]at h2;rw[<-h2,NU l _ x hn h1];rfl
theorem RM.of{W:World}{b n:Nat}{T:Tr.T}{ww wh:Int}(h:GM 3 W b n (afe T ww wh))(hn:((Gy T ww wh).map (·.id)).Nodup):RM W b (RL T ww wh):=⟨n,_,h,λz=>afy hn z⟩
def sP0:Re.St:=⟨λi=>if i=2 then 2 else if i=5 then 1 else if i=6 then 50 else 0,λ_=>false⟩
def sP1:Re.St:=⟨λi=>if i=5 then 1 else if i=6 then 80 else 0,λ_=>false⟩
def sPb:Re.St:=⟨λi=>if i=35 then 1 else if i=36 then 1 else if i=37 then 1 else if i=38 then 1 else 0,λ_=>false⟩
def TP0:Tr.T:=Tr.FT T0 0 sP0
def TP1:Tr.T:=Tr.nX TP0 1 0 0
def TP:Tr.T:=Tr.FT TP1 1 sP1
def RX:Int->Option Pr:=λz=>if z=0 then some ⟨0,0,100,50⟩else if z=1 then some ⟨0,0,100,80⟩else none
def OX:Int->Option (Int×Int):=λz=>if z=0 then some (0,90)else none
theorem afz:(Gy TP 100 100).map ldt=[[0,0,0,100,50],[1,0,0,100,80]]:=by decide +kernel
theorem SA:rz T0 0 sP0=0:=by decide +kernel
theorem aia:jI T0 0 sP0=TP0:=by unfold jI;rw[SA,if_pos rfl];rfl
theorem aib:Tr.free TP0=1:=Tr.free_eq ⟨by decide,isSome_none (by decide +kernel),λy h0 h1=>by
 obtain rfl:y=0:=by omega
 exact VN (by decide +kernel)⟩
theorem afA:Tr.lI TP0 0 0=0:=by decide +kernel
theorem ajS:Tr.sM TP0 0 0=1:=by unfold Tr.sM;rw[afA,if_pos rfl,aib]
theorem ajT:Tr.jG TP0 0 0=TP1:=by unfold Tr.jG;rw[afA,if_pos rfl,aib];rfl
theorem SB:rz TP1 1 sP1=0:=by decide +kernel
theorem aic:jI TP1 1 sP1=TP:=by unfold jI;rw[SB,if_pos rfl];rfl
theorem afB:Fw.cst (qM TP) 64 0+nJ (qM TP) 64 0<1000:=by decide +kernel
theorem aie:(tl (qM TP) 100 100 64 (EU TP 100 100)).length<1000:=by decide +kernel
theorem afC:(lX TP 64 0).length<1000:=by decide +kernel
theorem aar(s:Re.St)(h:∀i:Fin 55,(Lit.int .i64 (s.c i)).wf=true):Fits s:=λi hi _=>h ⟨i,hi⟩
theorem aif:RL TP 100 100=RX/\((Gy TP 100 100).map (·.id)).Nodup:=by
 have h:=afz;unfold RL;generalize Gy TP 100 100=l at h;rcases l with _ | ⟨x0,_ | ⟨x1,_ | ⟨x2,l⟩⟩⟩
 . simp at h
 . simp at h
 . simp only[List.map_cons,List.map_nil,ldt,List.cons.injEq,and_true]at h
   obtain⟨⟨h1,h2,h3,h4,h5⟩,k1,k2,k3,k4,k5⟩:=h;refine⟨?_,by simp[h1,k1]⟩;funext z;unfold RLl RX;rw[List.find?_cons,List.find?_cons,h1,k1,List.find?_nil];by_cases e:z=0
   . subst e;simp[ldP,h2,h3,h4,h5]
   . by_cases e1:z=1
     . subst e1;simp[ldP,k2,k3,k4,k5]
     . have a:((0:Int)==z)=false:=by simpa using λh=>e h.symm
       have b:((1:Int)==z)=false:=by simpa using λh=>e1 h.symm
       simp[a,b,e,e1]
 . simp at h
theorem acN:FN TP RX 0=(0,30):=by decide +kernel
theorem aas:((TP 1).isSome=true/\cA TP RX 1=true)/\(rch TP RX 64 1).x=0/\(rch TP RX 64 1).y=0/\(rch TP RX 64 1).w=100/\(rch TP RX 64 1).h=80:=by decide +kernel
def prL(p:Pr):List Int:=[p.x,p.y,p.w,p.h]
theorem acO:(Ov TP RX OX (vY 100 100) 1).map (λp=>(prL p.1,prL p.2))=some ([0,-30,100,80],[0,0,100,50]):=by decide +kernel
theorem afD:Fb TP 1=0:=by decide +kernel
theorem acP:prL ((⟨0,0,9,9⟩:Pr).prt sPb)=[1,1,7,7]:=by decide +kernel
theorem SC(z:Int)(nd:Tr.Nd)(h:TP z=some nd):nd.kids.length<=64/\0<=nd.sty.c 0/\nd.sty.c 0<=3:=by
 by_cases h0:z=0
 . subst h0
   have e:TP 0=some ⟨-1,[1],sP0⟩:=rfl;rw[e]at h;injection h with h;subst h;exact⟨by decide,by decide,by decide⟩
 . by_cases h1:z=1
   . subst h1
     have e:TP 1=some ⟨0,[],sP1⟩:=rfl;rw[e]at h;injection h with h;subst h;exact⟨by decide,by decide,by decide⟩
   . exfalso
     have e:TP z=none:=by
      have e1:TP=Tr.set TP1 1 ⟨0,[],sP1⟩:=rfl;rw[e1,Tr.aK _ _ h1];have e2:=Tr.I5 (t:=TP0) (x:=1) (u:=0) (i:=0) (p:=⟨-1,[],sP0⟩) rfl rfl z;show Tr.nX TP0 1 0 0 z=none;rw[e2,if_neg h1,if_neg h0];have e3:TP0=Tr.set T0 0 ⟨-1,[],sP0⟩:=rfl;rw[e3,Tr.aK _ _ h0];unfold T0;rw[if_neg h0]
     rw[e]at h;cases h
end
section
open Go.Deep
theorem mZ(a b c d a' b' c' d':Int)(w:World):(binOp .eql 40 (.agg #[a,b,c,d]) (.agg #[.int .i64 a',.int .i64 b',.int .i64 c',.int .i64 d'])).run ja0 w=.ok (.bool (decide (a=a')&&decide (b=b')&&decide (c=c')&&decide (d=d'))) w:=by
 rw[run_eql_struct];by_cases h1:a=a'<;>by_cases h2:b=b'<;>by_cases h3:c=c'<;>by_cases h4:d=d'<;>go_simp<;>simp[h1,h2,h3,h4]
theorem NV(a0 a1 a2 a3 b0 b1 b2 b3:Int)(W:World):(Instr.field 42 (.agg #[a0,a1,a2,a3,b0,b1,b2,b3]) 1).run ja0 W=.ok (.agg #[b0,b1,b2,b3]) W:=by kernel_rfl
theorem NW(w:World):Calls ja0 8 #[] w λe w'=>e=.returned (.bool true)/\Below w w w':=by
 have hl5:∀X,(Instr.build 59 #[(0,.int .i64 1),(1,.int .i64 50)]).run ja0 X=.ok (.agg #[.int .i64 1,.int .i64 50]) X:=λX=>by kernel_rfl
 have hl8:∀X,(Instr.build 59 #[(0,.int .i64 1),(1,.int .i64 80)]).run ja0 X=.ok (.agg #[.int .i64 1,.int .i64 80]) X:=λX=>by kernel_rfl
 have hs5:∀X,(Instr.build 68 #[(2,.int .i64 2),(4,.agg #[.int .i64 1,.int .i64 50])]).run ja0 X=.ok (.agg (cells sP0)) X:=λX=>by kernel_rfl
 have hs8:∀X,(Instr.build 68 #[(4,.agg #[.int .i64 1,.int .i64 80])]).run ja0 X=.ok (.agg (cells sP1)) X:=λX=>by kernel_rfl
 have hmk:=@run_makeMap ja0;go_enter Tryz.func8,Tryz.ntmps8
 go_upto_region 4 with(go_at_call 32;(with_reducible refine(NT w).mono ?_);rintro e w1 ⟨⟨t,rfl,L0,g0⟩,hb0⟩)
 have hz0:=hb0.size;have w0:Wf 0:=(iQ _).2 ak;have w1':Wf 1:=(iQ _).2 ak;have kS:=Fu g0 hz0 (x:=0) w0 (aar sP0 (by decide +kernel));rw[SA,aia]at kS;clear g0
 go_upto_region 5 with(go_at_call 33;refine Calls.mono (show _ from kS) ?_;rintro e w2 ⟨rfl,g1,-, hb1⟩)
 have hz1:w.heap.size<=w2.heap.size:=aJ hz0 hb1.size;have kA:=NR g1 ak hz1 (u:=0) (a:=0) w0;rw[ajS,afA,ajT]at kA;clear kS g1
 go_upto_region 6 with(go_at_call 34;refine Calls.mono (show _ from kA) ?_;rintro e w3 ⟨rfl,L1,n1,g2,hn1,-, hb2⟩)
 have hz2:w.heap.size<=w3.heap.size:=aJ hz1 hb2.size;have kT:=Fu g2 hz2 (x:=1) w1' (aar sP1 (by decide +kernel));rw[SB,aic]at kT;clear kA g2
 go_upto_region 7 with(go_at_call 33;refine Calls.mono (show _ from kT) ?_;rintro e w4 ⟨rfl,g3,-, hb3⟩)
 have hz3:w.heap.size<=w4.heap.size:=aJ hz2 hb3.size;have em1:max (100:Int) 0=100:=by decide
 have kL:=ZU g3.inv.rep g3.inv.wf (λz nd h=>(SC z nd h).1) (λz nd h=>(SC z nd h).2) 100 100 (by have:=afB;unfold maxLen;omega) (by rw[em1];have:=aie;unfold maxLen;omega) (by have:=afC;unfold maxLen;omega);rw[em1]at kL;clear em1 kT
 go_upto_region 8 with(go_at_call 10;(with_reducible refine kL.mono ?_);rintro e w5 ⟨⟨b,nr,rfl,gb,hG,-⟩,hb4⟩)
 clear kL;have Jt:=RM.of hG aif.2;rw[aif.1]at Jt;have g5:=(g3.after hb4);have hz4:w.heap.size<=w5.heap.size:=aJ hz3 hb4.size;obtain⟨w6,p6,aii,iV⟩:∃W',(Instr.mapUpdate 36 (.map (some w5.heap.size)) (.int .i64 0) (pt 0 90)).run ja0 (w5.alloc (.map #[] 0))=.ok () W'/\OM W' w5.heap.size OX/\Out (λx=>x=w5.heap.size) (w5.alloc (.map #[] 0)) W':=by
  obtain⟨W',h1,h2,h3⟩:=(GM.made 3 w5).store iT Tryz.underlying36 (by simp[maxLen]) (iA w0) (v:=pt 0 90) rfl;refine⟨W',h1,⟨_,_,h2,λz => ?_⟩,h3⟩;unfold OX;by_cases e:z=0
  . subst e;rw[iU,if_pos rfl];rfl
  . rw[jZ (QY e),if_neg e];rfl
 have hb5:Below w5 w5 w6:=(aB aD _).trans (iV.below aW λb hb e=>by omega);have hR6:=Jt.keep hb5;have g6:=g5.after hb5;have H6:=g6.inv.wf;have hz5:w.heap.size<=w6.heap.size:=aJ hz4 hb5.size;have kP:=Bv g6.inv.rep hR6 H6 w5.heap.size aii 100 100;have aij:Below w w w6:=(((((hb0.trans hb1).trans hb2).trans hb3).trans (hb4.mono hz3)).trans (hb5.mono hz4));have HG6:=ah g6;have HR6:=ah hR6;clear hG Jt g5 g3 hb0 hb1 hb2 hb3 hb4 hb5 iV aii gb g6 hR6
 go_upto_region 9 with(first|(go_at_call 12;refine(nO _ _ _).mono ?_;rintro e w' ⟨rfl,rfl⟩)|(go_at_call 14;(with_reducible refine kP.mono ?_);rintro e w7 ⟨⟨ms,rfl,-, hS⟩,nW⟩))
 have hz6:w.heap.size<=w7.heap.size:=aJ hz5 nW.size;have CG:Below w w w7:=aij.trans (nW.mono hz5);have G7:=λX (h:Below w7 w7 X)=>(HG6.out.after (nW.trans (h.mono nW.size)));have R7:=λX (h:Below w7 w7 X)=>HR6.out.keep (nW.trans (h.mono nW.size));have hsp:=acO;obtain⟨⟨pa,pb⟩,hsp1,hsp2⟩:=Option.map_eq_some_iff.1 hsp;simp only[prL,Prod.mk.injEq,List.cons.injEq,and_true]at hsp2;obtain⟨⟨a1,a2,a3,a4⟩,b1,b2,b3,b4⟩:=hsp2;have hlk:=λX (h:Below w7 w7 X)=>(hS.keep h).sm.look w1' (a:=pa) (b:=pb) (by rw[hsp1];rfl);simp only[a1,a2,a3,a4,b1,b2,b3,b4]at hlk;have kM:=λX (h:Below w7 w7 X)=>Fg (G7 X h).inv.rep (R7 X h) (G7 X h).inv.wf w0;simp only[acN]at kM;obtain⟨hrc,r1,r2,r3,r4⟩:=aas;have kR:=λX (h:Below w7 w7 X)=>NG (G7 X h).inv.rep (R7 X h) (G7 X h).inv.wf w1';simp only[if_pos hrc,Pr.ag,r1,r2,r3,r4]at kR;have kC:=λX (h:Below w7 w7 X)=>vX (G7 X h).inv.rep (G7 X h).inv.wf w1';simp only[afD]at kC;have hpp:=acP;simp only[prL,List.cons.injEq,and_true]at hpp;obtain⟨p1,p2,p3,p4⟩:=hpp;have kQ:=λX=>tO ⟨0,0,9,9⟩ sPb X;simp only[Pr.ag,p1,p2,p3,p4]at kQ;have kO1:=λX=>p8 0 0 100 80 X;have kO2:=λX=>p8 0 (-30) 100 80 X;have kO3:=λX=>p8 0 0 100 50 X;have kO4:=λX=>p8 0 0 9 9 X;have kO5:=λX=>p8 1 1 7 7 X;rw[show Fx.mx (Fx.cut 100) 0=100 from by decide,show Fx.mx (Fx.cut 80) 0=80 from by decide,show Fx.cut 0=0 from rfl]at kO1;rw[show Fx.mx (Fx.cut 100) 0=100 from by decide,show Fx.mx (Fx.cut 80) 0=80 from by decide,show Fx.cut 0=0 from rfl,show Fx.cut (-30) = -30 from by decide]at kO2;rw[show Fx.mx (Fx.cut 100) 0=100 from by decide,show Fx.mx (Fx.cut 50) 0=50 from by decide,show Fx.cut 0=0 from rfl]at kO3;rw[show Fx.mx (Fx.cut 9) 0=9 from by decide,show Fx.cut 0=0 from rfl]at kO4;rw[show Fx.mx (Fx.cut 7) 0=7 from by decide,show Fx.cut 1=1 from by decide]at kO5;have hb4:∀X,(Instr.build 61 #[(0,.int .i64 1),(1,.int .i64 1),(2,.int .i64 1),(3,.int .i64 1)]).run ja0 X=.ok (.agg #[.int .i64 1,.int .i64 1,.int .i64 1,.int .i64 1]) X:=λX=>by kernel_rfl
 have hbb:∀X,(Instr.build 68 #[(12,.agg #[.int .i64 1,.int .i64 1,.int .i64 1,.int .i64 1])]).run ja0 X=.ok (.agg (cells sPb)) X:=λX=>by kernel_rfl
 have er1:=λX=>mZ 0 0 100 80 0 0 100 80 X;have er2:=λX=>mZ 0 (-30) 100 80 0 (-30) 100 80 X;have er3:=λX=>mZ 0 0 100 50 0 0 100 50 X;have er4:=λX=>mZ 1 1 7 7 1 1 7 7 X;have ept:=λX=>PV (P:=ja0) 30 0 30 0 30 X;have hgu:=λ(x y:Operand) (v:Value)=>XQ .eql 30 x y 0 30 v;have hf0:=Bu 0 (-30) 100 80 0 0 100 50;have hf1:=NV 0 (-30) 100 80 0 0 100 50;simp only[decide_true,Bool.and_self]at er1 er2 er3 er4 ept;clear hS hsp hsp1 a1 a2 a3 a4 b1 b2 b3 b4 r1 r2 r3 r4 hrc p1 p2 p3 p4;have hSd:Below w7 w7 w7.drew:=Below.drew aD;refine iC (S:=λX=>Below w7 w7 X) 39 ?_ ?_
 . exact hSd
 intro hx;clear hSd;refine aF 0 ?_;refine aF 1 ?_;refine tk1 2 ?_;refine BH (kM _ hx) hx ?_;clear hx;intro y2 hx;refine tk1 3 ?_;refine aj.Step.call eD (nO 0 30 _) ?_;rintro e y3 ⟨rfl,rfl⟩;refine⟨_,rfl,λ_=>hx,?_⟩
 (try simp only[bM,bN,bO,tks])
 refine aF 4 ?_;refine aF 5 ?_;refine aF 6 ?_;refine aF 7 ?_;refine tk1 8 ?_;refine BH (kR _ hx) hx ?_;clear hx;intro y8 hx;refine tk1 9 ?_;refine BH (kO1 _) hx ?_;clear hx;intro y9 hx;refine aF 10 ?_;refine aF 11 ?_;refine aF 12 ?_;refine aF 13 ?_;refine jh 14 rfl (aZ aR rfl rfl rfl (λX h=>hlk X h)) ?_;refine aF 15 ?_;refine tk1 16 ?_;refine BH (kO2 _) hx ?_;clear hx;intro y16 hx;refine aF 17 ?_;refine aF 18 ?_;refine aF 19 ?_;refine aF 20 ?_;refine jh 21 rfl (aZ aR rfl rfl rfl (λX h=>hlk X h)) ?_;refine aF 22 ?_;refine tk1 23 ?_;refine BH (kO3 _) hx ?_;clear hx;intro y23 hx;refine aF 24 ?_;refine aF 25 ?_;refine aF 26 ?_;refine aF 27 ?_;refine tk1 28 ?_;refine BH (kC _ hx) hx ?_;clear hx;intro y28 hx;refine aF 29 ?_;refine aF 30 ?_;refine aF 31 ?_;refine aF 33 ?_;refine aF 34 ?_;refine tk1 32 ?_;refine BH (kO4 _) hx ?_;clear hx;intro y32 hx;refine tk1 35 ?_;refine BH (kQ _) hx ?_;clear hx;intro y35 hx;refine tk1 36 ?_;refine BH (kO5 _) hx ?_;clear hx;intro y36 hx;refine aF 37 ?_;refine aF 38 ?_;refine tk1 39 ?_;refine aj.Step.value eD ?_;refine⟨λhlt=>absurd hlt aG,?_⟩
 (try simp only[bM,bN,bO,tks])
 refine gZ ?_;go_wp2
 go_ret
 exact⟨rfl,CG.trans (hx.mono hz6)⟩
end
def O1(id x y:Int):Int->Option (Int×Int):=λz=>if z=id then some (x,y)else none
section
variable {s:Re.St} (h3:s.c 0≠3) (hp2:s.c 1≠2) (hp3:s.c 1≠3)
include h3 hp2 hp3
end
section
open List renaming getElem?_eq_getElem → ja6
def SE(k n:Int):Bool := !((decide (k=1)&&(decide (1048576<n)||decide (n < -1048576)))||(decide (k=2)&&decide (10000<n)))
def zk(t:Re.St):Bool:=Re.lens.all λi=>SE (t.c i) (t.c (i+1))
theorem qc{W:World}{base n:Nat}{v:Value}{xs:List Value}(y0 y1 y2 y3:Int)(hown:W.ownsRow base 59 2 v n xs)(hbase:base<=W.heap.size)(hn:n<=1000) :
  ∃A c w',(Builtin.append_ #[150,150] 150 #[v,.slice W 2 2]).run ja0 (W.alloc (.cells #[y0,y1,y2,y3] 59))=.ok (.slice A (n+2) c) w'/\w'.ownsRow base 59 2 (.slice A (n+2) c) (n+2) (xs++[.int .i64 y0,.int .i64 y1,.int .i64 y2,.int .i64 y3])/\Below base W w'/\base<=w'.heap.size:=by
 obtain⟨i0,hi0,hz0,hz1,hz2⟩:=info_parts RJ;have hA:=At.new W (.cells #[y0,y1,y2,y3] 59)
 obtain⟨v',w',hr,ho,hg,_,_⟩:=run_append_own_at (P:=ja0) (w:=W.alloc (.cells #[y0,y1,y2,y3] 59)) base 150 150 59 i0 _ 2 16 Tryz.underlying150 hi0 hz0 hz1 hz2 rfl aG v n _ (hown.alloc _) ⟨W,0,none⟩ 2 2 [.int .i64 y0,.int .i64 y1,.int .i64 y2,.int .i64 y3] rfl
  (by intro j u hj
      rw[addr_add,Nat.zero_add,hA.cell,<-hj]
      simp)
  Kv Oi ak iJ
 obtain⟨A,c,rfl⟩:=dY ho;have hB:Below base W (W.alloc (.cells #[y0,y1,y2,y3] 59)):=Below.alloc aD hbase _;refine⟨A,c,w',hr,ho,hB.grown hg iJ (λg hgg=>(hown.lt g hgg).1),?_⟩;have h1:=hg.size;have h2:W.heap.size<=(W.alloc (.cells #[y0,y1,y2,y3] 59)).heap.size:=by simp
 omega
theorem QZ(t:Re.St)(w:World):Calls ja0 37 #[.agg (cells t)] w λe w'=>e=.returned (.bool (zk t))/\Below w w w':=by
 go_enter Tryz.func37,Tryz.ntmps37
 go_upto_region 1 with(fail)
 have hA:At (w.alloc (.cells (cells t) 68)) w.heap.size (.cells (cells t) 68):=At.new _ _;have hB:Below w w (w.alloc (.cells (cells t) 68)):=aB aD _;generalize w.alloc (.cells (cells t) 68)=W1 at *;generalize XI:w.heap.size=bx at *;have lb:=hA.lt;have aaS:=ah XI;clear XI;have d3:=hA.st 3 aG rfl;have d4:=hA.st 4 aG rfl;have d5:=hA.st 5 aG rfl;have d6:=hA.st 6 aG rfl;have d7:=hA.st 7 aG rfl;have d8:=hA.st 8 aG rfl;have d9:=hA.st 9 aG rfl;have d10:=hA.st 10 aG rfl;have d11:=hA.st 11 aG rfl;have d12:=hA.st 12 aG rfl;have d13:=hA.st 13 aG rfl;have d14:=hA.st 14 aG rfl;have d41:=hA.st 41 aG rfl;have d42:=hA.st 42 aG rfl;have n1:(W1.alloc (.cells #[t.c 3,t.c 4,t.c 5,t.c 6,t.c 7,t.c 8,t.c 9,t.c 10,t.c 11,t.c 12,t.c 13,t.c 14,t.c 41,t.c 42] 59)).ownsRow W1.heap.size 59 2 (.slice W1 7 7) 7 (iB t (lp 0)):=yK aC rfl aG;have hA2:=At.alloc hA (.cells #[t.c 3,t.c 4,t.c 5,t.c 6,t.c 7,t.c 8,t.c 9,t.c 10,t.c 11,t.c 12,t.c 13,t.c 14,t.c 41,t.c 42] 59);have hB2:Below W1 W1 (W1.alloc (.cells #[t.c 3,t.c 4,t.c 5,t.c 6,t.c 7,t.c 8,t.c 9,t.c 10,t.c 11,t.c 12,t.c 13,t.c 14,t.c 41,t.c 42] 59)):=aB aD _;have N1:=ah n1;clear n1
 go_upto_region 2 with(fail)
 generalize hbase:W1.heap.size=base at *;have lbx:=ah (show bx<base from hbase▸lb);generalize World.alloc W1 _=W2 at *;have hsz2:base<=W2.heap.size:=hbase▸hB2.size;clear hbase;clear d3 d4 d5 d6 d7 d8 d9 d10 d11 d12 d13 d14 d41 d42;go_wp2
 go_loopw [3,4] (λv i wr=>∃(k n:Nat) (A:Option Addr) (c:Nat),k<=4/\i=.int .i64 k/\v=.slice A n c/\Hid (n=7+2*k)/\Hid (wr.ownsRow base 59 2 (.slice A n c) n (iB t (lp k)))/\At wr bx (.cells (cells t) 68)/\Below base W1 wr/\base<=wr.heap.size) (λ_ i _=>4-(intOf i).toNat)
 case atStart=>exact⟨0,7,_,_,by omega,rfl,rfl,ah rfl,N1,hA2,hB2,hsz2⟩
 case round =>
  obtain⟨k,n,A,c,hk,rfl,rfl,HN,O1,a,hB3,hsz⟩:=hrel;obtain rfl|rfl|rfl|rfl|rfl:k=0\/k=1\/k=2\/k=3\/k=4:=by omega
  . obtain rfl:n=7:=by have:=HN.out;omega
    obtain⟨A',c',w1,jr,s1,s2,s3⟩:=qc (W:=wr.drew) (t.c 15) (t.c 16) (t.c 23) (t.c 24) O1.out hsz aG;have jv:∀W',Below base wr W'->W'.cell? ⟨bx,15,none⟩=some (.int .i64 (t.c 15))/\W'.cell? ⟨bx,16,none⟩=some (.int .i64 (t.c 16))/\W'.cell? ⟨bx,23,none⟩=some (.int .i64 (t.c 23))/\W'.cell? ⟨bx,24,none⟩=some (.int .i64 (t.c 24)):=λW' h=>⟨(bB a lbx.out h).st 15 aG rfl,(bB a lbx.out h).st 16 aG rfl,(bB a lbx.out h).st 23 aG rfl,(bB a lbx.out h).st 24 aG rfl⟩;have E1:Hid (w1.ownsRow base 59 2 (.slice A' 9 c') 9 (iB t (lp 1))):=ah s1;have B1:Below base wr w1:=(Below.drew (Below.refl base wr)).trans s2;have a1:=ah (show At w1 bx _ from bB a lbx.out B1);have hB4:Below base W1 w1:=hB3.trans B1;have K1:=ah jv;have R1:=ah jr;have HB1:=ah B1;clear s1 s2 jv jr B1 a
    go_upto_region 5 with(fail)
    refine iC (S:=(λW'=>W'.cell? ⟨bx,15,none⟩=some (.int .i64 (t.c 15))/\W'.cell? ⟨bx,16,none⟩=some (.int .i64 (t.c 16))/\W'.cell? ⟨bx,23,none⟩=some (.int .i64 (t.c 23))/\W'.cell? ⟨bx,24,none⟩=some (.int .i64 (t.c 24)))) 11 ?_ ?_
    . exact Z23
    intro hS0;refine aO 0 ?_;refine aO 1 ?_;refine aO 2 ?_;refine aO 3 ?_;refine aO 4 ?_;refine aO 5 ?_;refine aO 6 ?_;refine aO 7 ?_;refine aO 8 ?_;refine tk1 9 ?_;refine uG ?_ (hS:=by first|(intro hlt;exact absurd hlt aG)|(intro _;exact K1.out _ (Below.alloc (Below.drew aD) hsz _)));refine tk1 10 ?_;refine aj.Step.value (dG (.tmp 25) (.tmp 34) 150 rfl rfl rfl R1.out) ⟨λ_=>K1.out _ HB1.out,?_⟩
    (try simp only[bM,bN,bO,tks])
    refine tk1 11 ?_;refine uG ?_ (hS:=by first|(intro hlt;exact absurd hlt aG)|(intro _;omega));refine gZ ?_;go_wp2
    go_roundw
    case rel=>exact⟨1,9,_,_,by omega,by go_num,rfl,ah rfl,E1,a1.out,hB4,s3⟩
    case measure=>simp[intOf]
  . obtain rfl:n=9:=by have:=HN.out;omega
    obtain⟨A',c',w1,jr,s1,s2,s3⟩:=qc (W:=wr.drew) (t.c 17) (t.c 18) (t.c 25) (t.c 26) O1.out hsz aG;have jv:∀W',Below base wr W'->W'.cell? ⟨bx,17,none⟩=some (.int .i64 (t.c 17))/\W'.cell? ⟨bx,18,none⟩=some (.int .i64 (t.c 18))/\W'.cell? ⟨bx,25,none⟩=some (.int .i64 (t.c 25))/\W'.cell? ⟨bx,26,none⟩=some (.int .i64 (t.c 26)):=λW' h=>⟨(bB a lbx.out h).st 17 aG rfl,(bB a lbx.out h).st 18 aG rfl,(bB a lbx.out h).st 25 aG rfl,(bB a lbx.out h).st 26 aG rfl⟩;have E1:Hid (w1.ownsRow base 59 2 (.slice A' 11 c') 11 (iB t (lp 2))):=ah s1;have B1:Below base wr w1:=(Below.drew (Below.refl base wr)).trans s2;have a1:=ah (show At w1 bx _ from bB a lbx.out B1);have hB4:Below base W1 w1:=hB3.trans B1;have K1:=ah jv;have R1:=ah jr;have HB1:=ah B1;clear s1 s2 jv jr B1 a
    go_upto_region 5 with(fail)
    refine iC (S:=(λW'=>W'.cell? ⟨bx,17,none⟩=some (.int .i64 (t.c 17))/\W'.cell? ⟨bx,18,none⟩=some (.int .i64 (t.c 18))/\W'.cell? ⟨bx,25,none⟩=some (.int .i64 (t.c 25))/\W'.cell? ⟨bx,26,none⟩=some (.int .i64 (t.c 26)))) 11 ?_ ?_
    . exact Z23
    intro hS0;refine aO 0 ?_;refine aO 1 ?_;refine aO 2 ?_;refine aO 3 ?_;refine aO 4 ?_;refine aO 5 ?_;refine aO 6 ?_;refine aO 7 ?_;refine aO 8 ?_;refine tk1 9 ?_;refine uG ?_ (hS:=by first|(intro hlt;exact absurd hlt aG)|(intro _;exact K1.out _ (Below.alloc (Below.drew aD) hsz _)));refine tk1 10 ?_;refine aj.Step.value (dG (.tmp 25) (.tmp 34) 150 rfl rfl rfl R1.out) ⟨λ_=>K1.out _ HB1.out,?_⟩
    (try simp only[bM,bN,bO,tks])
    refine tk1 11 ?_;refine uG ?_ (hS:=by first|(intro hlt;exact absurd hlt aG)|(intro _;omega));refine gZ ?_;go_wp2
    go_roundw
    case rel=>exact⟨2,11,_,_,by omega,by go_num,rfl,ah rfl,E1,a1.out,hB4,s3⟩
    case measure=>simp[intOf]
  . obtain rfl:n=11:=by have:=HN.out;omega
    obtain⟨A',c',w1,jr,s1,s2,s3⟩:=qc (W:=wr.drew) (t.c 19) (t.c 20) (t.c 27) (t.c 28) O1.out hsz aG;have jv:∀W',Below base wr W'->W'.cell? ⟨bx,19,none⟩=some (.int .i64 (t.c 19))/\W'.cell? ⟨bx,20,none⟩=some (.int .i64 (t.c 20))/\W'.cell? ⟨bx,27,none⟩=some (.int .i64 (t.c 27))/\W'.cell? ⟨bx,28,none⟩=some (.int .i64 (t.c 28)):=λW' h=>⟨(bB a lbx.out h).st 19 aG rfl,(bB a lbx.out h).st 20 aG rfl,(bB a lbx.out h).st 27 aG rfl,(bB a lbx.out h).st 28 aG rfl⟩;have E1:Hid (w1.ownsRow base 59 2 (.slice A' 13 c') 13 (iB t (lp 3))):=ah s1;have B1:Below base wr w1:=(Below.drew (Below.refl base wr)).trans s2;have a1:=ah (show At w1 bx _ from bB a lbx.out B1);have hB4:Below base W1 w1:=hB3.trans B1;have K1:=ah jv;have R1:=ah jr;have HB1:=ah B1;clear s1 s2 jv jr B1 a
    go_upto_region 5 with(fail)
    refine iC (S:=(λW'=>W'.cell? ⟨bx,19,none⟩=some (.int .i64 (t.c 19))/\W'.cell? ⟨bx,20,none⟩=some (.int .i64 (t.c 20))/\W'.cell? ⟨bx,27,none⟩=some (.int .i64 (t.c 27))/\W'.cell? ⟨bx,28,none⟩=some (.int .i64 (t.c 28)))) 11 ?_ ?_
    . exact Z23
    intro hS0;refine aO 0 ?_;refine aO 1 ?_;refine aO 2 ?_;refine aO 3 ?_;refine aO 4 ?_;refine aO 5 ?_;refine aO 6 ?_;refine aO 7 ?_;refine aO 8 ?_;refine tk1 9 ?_;refine uG ?_ (hS:=by first|(intro hlt;exact absurd hlt aG)|(intro _;exact K1.out _ (Below.alloc (Below.drew aD) hsz _)));refine tk1 10 ?_;refine aj.Step.value (dG (.tmp 25) (.tmp 34) 150 rfl rfl rfl R1.out) ⟨λ_=>K1.out _ HB1.out,?_⟩
    (try simp only[bM,bN,bO,tks])
    refine tk1 11 ?_;refine uG ?_ (hS:=by first|(intro hlt;exact absurd hlt aG)|(intro _;omega));refine gZ ?_;go_wp2
    go_roundw
    case rel=>exact⟨3,13,_,_,by omega,by go_num,rfl,ah rfl,E1,a1.out,hB4,s3⟩
    case measure=>simp[intOf]
  . obtain rfl:n=13:=by have:=HN.out;omega
    obtain⟨A',c',w1,jr,s1,s2,s3⟩:=qc (W:=wr.drew) (t.c 21) (t.c 22) (t.c 29) (t.c 30) O1.out hsz aG;have jv:∀W',Below base wr W'->W'.cell? ⟨bx,21,none⟩=some (.int .i64 (t.c 21))/\W'.cell? ⟨bx,22,none⟩=some (.int .i64 (t.c 22))/\W'.cell? ⟨bx,29,none⟩=some (.int .i64 (t.c 29))/\W'.cell? ⟨bx,30,none⟩=some (.int .i64 (t.c 30)):=λW' h=>⟨(bB a lbx.out h).st 21 aG rfl,(bB a lbx.out h).st 22 aG rfl,(bB a lbx.out h).st 29 aG rfl,(bB a lbx.out h).st 30 aG rfl⟩;have E1:Hid (w1.ownsRow base 59 2 (.slice A' 15 c') 15 (iB t (lp 4))):=ah s1;have B1:Below base wr w1:=(Below.drew (Below.refl base wr)).trans s2;have a1:=ah (show At w1 bx _ from bB a lbx.out B1);have hB4:Below base W1 w1:=hB3.trans B1;have K1:=ah jv;have R1:=ah jr;have HB1:=ah B1;clear s1 s2 jv jr B1 a
    go_upto_region 5 with(fail)
    refine iC (S:=(λW'=>W'.cell? ⟨bx,21,none⟩=some (.int .i64 (t.c 21))/\W'.cell? ⟨bx,22,none⟩=some (.int .i64 (t.c 22))/\W'.cell? ⟨bx,29,none⟩=some (.int .i64 (t.c 29))/\W'.cell? ⟨bx,30,none⟩=some (.int .i64 (t.c 30)))) 11 ?_ ?_
    . exact Z23
    intro hS0;refine aO 0 ?_;refine aO 1 ?_;refine aO 2 ?_;refine aO 3 ?_;refine aO 4 ?_;refine aO 5 ?_;refine aO 6 ?_;refine aO 7 ?_;refine aO 8 ?_;refine tk1 9 ?_;refine uG ?_ (hS:=by first|(intro hlt;exact absurd hlt aG)|(intro _;exact K1.out _ (Below.alloc (Below.drew aD) hsz _)));refine tk1 10 ?_;refine aj.Step.value (dG (.tmp 25) (.tmp 34) 150 rfl rfl rfl R1.out) ⟨λ_=>K1.out _ HB1.out,?_⟩
    (try simp only[bM,bN,bO,tks])
    refine tk1 11 ?_;refine uG ?_ (hS:=by first|(intro hlt;exact absurd hlt aG)|(intro _;omega));refine gZ ?_;go_wp2
    go_roundw
    case rel=>exact⟨4,15,_,_,by omega,by go_num,rfl,ah rfl,E1,a1.out,hB4,s3⟩
    case measure=>simp[intOf]
  . obtain rfl:n=15:=by have:=HN.out;omega
    obtain⟨g,rfl,hg1,hg2,hgc⟩:=zW O1.out aG
    have CL:Hid (∀(k p:Nat),Re.lens[k]? = some p->wr.cell? ⟨g,k*2,none⟩=some (.int .i64 (t.c p))/\wr.cell? ⟨g,k*2+1,none⟩=some (.int .i64 (t.c (p+1)))):=ah λk p hp=>by
     obtain⟨q0,q1⟩:=vF t (l:=Re.lens) hp;exact⟨hgc _ _ q0,hgc _ _ q1⟩
    have HBW:=ah (hB.trans (hB3.mono (uO lbx.out)));clear O1 N1 hgc hA hA2 hB2 hB a hB3 hg1;generalize wr=W5 at *;go_wp2
    go_loopw [5] (λi wr=>∃k:Nat,k<=15/\i=.int .i64 k/\Hid (((Re.lens.take k).all λi=>SE (t.c i) (t.c (i+1)))=true)/\wr=W5) (λi _=>15-(intOf i).toNat)
    case atStart=>exact⟨0,by omega,rfl,ah rfl,rfl⟩
    case round =>
     obtain⟨k,hk,rfl,HF,rfl⟩:=hrel;by_cases hlt:k<15
     . have hltz:(k:Int)<15:=by omega
       obtain⟨p,hp⟩:∃p,Re.lens[k]? = some p:=⟨_,ja6 (show k<Re.lens.length from hlt)⟩;obtain⟨c0,c1⟩:=CL.out k p hp;have HS:Hid ((Re.lens.take (k+1)).all (λi=>SE (t.c i) (t.c (i+1)))=SE (t.c p) (t.c (p+1))):=ah (by rw[List.take_add_one,hp,List.all_append,HF.out];simp)
       have HT:Hid (SE (t.c p) (t.c (p+1))=false->zk t=false):=ah λh=>by
        by_cases e:zk t=true
        . exfalso
          have:=List.all_eq_true.1 e p (List.mem_of_getElem? hp);rw[h]at this;cases this
        . simpa using e
       clear hp;generalize t.c p=x at *;generalize t.c (p+1)=y at *;by_cases h1:x=1
       . subst h1
         by_cases h2:(1048576:Int)<y
         . have HV:=ah (HT.out (by simp[SE,h2]))
           exact Z26
         . by_cases h3:y < -1048576
           . have HV:=ah (HT.out (by simp[SE,h3]))
             exact Z26
           . have HV:=ah (show SE 1 y=true by simp[SE,h2,h3])
             exact Z1v
       . by_cases h4:x=2
         . subst h4
           by_cases h5:(10000:Int)<y
           . have HV:=ah (HT.out (by simp[SE,h5]))
             exact Z26
           . have HV:=ah (show SE 2 y=true by simp[SE,h5])
             exact Z1v
         . have HV:=ah (show SE x y=true by simp[SE,h1,h4])
           exact Z1v
     . obtain rfl:k=15:=by omega
       have HV:Hid (zk t=true):=ah HF.out;exact Z26
end
theorem tV{t:Re.St}(h:Re.valid t=true){i:Nat}(hi:i∈Re.sizes):0<=t.c i/\t.c i<=1048576:=by
 have hs:Re.Dj t=true:=by
  unfold Re.valid at h;simp only[Bool.and_eq_true]at h;exact h.1.1.1.2
 have:=List.all_eq_true.1 hs i hi;simpa[Re.inn]using this
theorem Q0{t:Re.St}(h:Re.valid t=true):0<=t.c 0/\t.c 0<=3:=by
 unfold Re.valid Re.fV at h;simp only[Bool.and_eq_true,Re.inn,decide_eq_true_eq]at h;exact h.1.1.1.1.1.1.1.1.1.1.1
section
open List renaming length_append → ja7,mem_cons_of_mem → ja8,length_cons → ja9,mem_cons_self → jb3,length_map → jb7
theorem Km{g h:Int->Nat}:∀{l:List Int},(∀k∈l,g k<=h k)->(l.map g).sum<=(l.map h).sum
 | [],_=>aH _
 | k::l,H=>by
   simp only[List.map_cons,List.sum_cons];have h1:=H k aW;have h2:=Km (l:=l) λk hk=>H k (by simp[hk]);omega
theorem Kn(c:Nat)(g:Int->Nat):∀l:List Int,(l.map λk=>c*g k).sum=c*(l.map g).sum
 | []=>rfl
 | k::l=>by simp only[List.map_cons,List.sum_cons,Kn c g l,Nat.mul_add]
theorem Ko(p q:Int->Bool)(g:Int->Nat):∀l:List Int,((l.filter λk=>p k && !q k).map g).sum+((l.filter λk=>p k&&q k).map g).sum<=(l.map g).sum
 | []=>aH _
 | k::l=>by
   have ih:=Ko p q g l;simp only[List.filter_cons,List.map_cons,List.sum_cons];cases p k<;>cases q k<;>simp<;>omega
theorem Fy(g:Int->List Int):∀l:List Int,(l.flatMap g).length=(l.map λk=>(g k).length).sum
 | []=>rfl
 | k::l=>by simp only[List.flatMap_cons,ja7,List.map_cons,List.sum_cons,Fy g l]
section
variable {T:Tr.T} (H:Tr.WF T)
include H
theorem CZ:∀{f:Nat} {a x:Int},Tr.Fit T f a->x∈lX T f a->Tr.FI T a x:=by
 intro f
 induction f with
 | zero=>intro a x h;exact h.elim
 | succ f ih =>
   intro a x h hx;obtain⟨nd,hT,hk⟩:=h;rcases wM hx with rfl|⟨c,hc,hx⟩
   . exact .refl hT
   . have hm:=rR hT hc
     exact(H.WV hT hm).trans (ih (hk c hm) hx)
theorem Iz:∀{f:Nat} {a:Int},Tr.Fit T f a->(lX T f a).Nodup:=by
 intro f
 induction f with
 | zero=>intro a hf;exact hf.elim
 | succ f ih =>
   intro a hf;obtain⟨nd,h1,hk⟩:=hf;obtain⟨n,_,hd⟩:=H.deep a nd h1;have e:dw T a=nd.kids:=by unfold dw;rw[h1];rfl
   have hn:=H.nodup a nd h1
   have hall:∀k,k∈pF T nd.kids++qj T nd.kids->k∈nd.kids:=λk hk=>by
    rcases List.mem_append.1 hk with h|h
    . exact(List.mem_filter.1 h).1
    . exact(List.mem_filter.1 h).1
   have hnd:(pF T nd.kids++qj T nd.kids).Nodup:=by
    refine List.nodup_append.2 ⟨hn.filter _,hn.filter _,λx hx y hy e => ?_⟩;subst e;have q1:=(List.mem_filter.1 hx).2;have q2:=(List.mem_filter.1 hy).2;simp only[Bool.and_eq_true,Bool.not_eq_true']at q1 q2;rw[q1.2]at q2;exact absurd q2.2 aG
   rw[lX,e,<-List.flatMap_append,List.nodup_cons];refine⟨λhm => ?_,?_⟩
   . obtain⟨k,hkm,hx⟩:=List.mem_flatMap.1 hm
     have:=((CZ H (hk k (hall k hkm)) hx).le (H.qR h1 (hall k hkm) hd) hd).1;omega
   . refine List.pairwise_flatMap.2 ⟨λk hkm=>ih (hk k (hall k hkm)),?_⟩
     have hq:∀l:List Int,(∀k∈l,k∈nd.kids)->l.Nodup->l.Pairwise (λa₁ a₂=>∀x∈lX T f a₁,∀y∈lX T f a₂,x≠y):=by
      intro l
      induction l with
      | nil=>intro _ _;exact .nil
      | cons k l ihl =>
        intro hl hn;refine .cons (λk' hk' x hx y hy e => ?_) (ihl (λj hj=>hl j (ja8 _ hj)) (List.nodup_cons.1 hn).2);subst e;have m1:=hl k jb3;have m2:=hl k' (ja8 _ hk');have a1:=CZ H (hk k m1) hx;have a2:=CZ H (hk k' m2) hy;obtain⟨ndx,hlx⟩:=a1.live;obtain⟨q,_,OJ⟩:=H.deep x ndx hlx;have e:=a1.uniq a2 (H.qR h1 m1 hd) (H.qR h1 m2 hd) OJ;exact(List.nodup_cons.1 hn).1 (e▸hk')
     exact hq _ hall hnd
theorem afE{f:Nat}{a:Int}(hf:Tr.Fit T f a):(lX T f a).length<=(Tr.sub T f a).length :=
 (Iz H hf).length_le_of_subset λx hx=>(H.fZ hf).2 (CZ H hf hx)
variable (hd8:∀x d,Tr.Dp T x d->d<=8)
include hd8
theorem aat:∀(f:Nat) (z:Int) (d:Nat),Tr.Dp T z d->Fw.cst (qM T) f z<=3^(9-d)*(Tr.sub T (f+1) z).length:=by
 intro f
 induction f with
 | zero =>
   intro z d h;obtain⟨nd,hT⟩:=h.live;rw[Tr.fG hT];have:=Nat.one_le_two_pow (n:=0);have h3:1<=3^(9-d):=Nat.one_le_pow _ _ aG;have h4:1<=(z::nd.kids.flatMap (Tr.sub T 0)).length:=by simp
   exact aJ (by show 1<=1*1;decide) (Nat.mul_le_mul h3 h4)
 | succ f ih =>
   intro z d h;obtain⟨nd,hT⟩:=h.live;have e:dw T z=nd.kids:=by unfold dw;rw[hT];rfl
   have hd:=hd8 z d h;have h1:((pF T nd.kids).map (Fw.cst (qM T) f)).sum<=(nd.kids.map (Fw.cst (qM T) f)).sum:=aJ (Nat.le_add_right _ _) (Ko (λk=>(bQ T k).c 0 != 3) (λk=>oW (bQ T k)) _ nd.kids)
   have h2:(nd.kids.map (Fw.cst (qM T) f)).sum<=(nd.kids.map λk=>3^(8-d)*(Tr.sub T (f+1) k).length).sum:=Km λk hk=>by
    have:=ih k (d+1) (H.qR hT hk h)
    rwa [show 9-(d+1)=8-d by omega]at this
   rw[Kn (3^(8-d)) (λk=>(Tr.sub T (f+1) k).length)]at h2;have h3:Fw.cst (qM T) (f+1) z=1+3*((pF T nd.kids).map (Fw.cst (qM T) f)).sum:=by
    rw[Fw.cst];show 1+3*((pF T (dw T z)).map _).sum=_;rw[e]
   have h4:(Tr.sub T (f+1+1) z).length=1+(nd.kids.map λk=>(Tr.sub T (f+1) k).length).sum:=by
    rw[Tr.fG hT,ja9,Fy];omega
   rw[h3,h4,show 9-d=(8-d)+1 by omega,Nat.pow_succ];generalize (nd.kids.map λk=>(Tr.sub T (f+1) k).length).sum=S at *;have h5:1<=3^(8-d):=Nat.one_le_pow _ _ aG;generalize 3^(8-d)=p at *;have h6:p*3*(1+S)=3*p+3*(p*S):=by
    rw[Nat.mul_add,Nat.mul_one,Nat.mul_right_comm,Nat.mul_comm (p*S) 3,Nat.mul_comm p 3]
   omega
theorem acQ:∀(f:Nat) (z:Int) (d:Nat),Tr.Dp T z d->nJ (qM T) f z<=39366*(9-d)*(Tr.sub T (f+1) z).length:=by
 have hc:∀f z d,Tr.Dp T z d->Fw.cst (qM T) f z<=19683*(Tr.sub T (f+1) z).length:=λf z d h =>
  aJ (aat H hd8 f z d h) (Nat.mul_le_mul_right _ (aJ (Nat.pow_le_pow_right aG (show 9-d<=9 by omega)) aG))
 intro f
 induction f with
 | zero =>
   intro z d h;obtain⟨nd,hT⟩:=h.live;have hd:=hd8 z d h;rw[Tr.fG hT];have h4:1<=(z::nd.kids.flatMap (Tr.sub T 0)).length:=by simp
   have h3:1<=39366*(9-d):=by omega
   exact aJ (by show 1<=1*1;decide) (Nat.mul_le_mul h3 h4)
 | succ f ih =>
   intro z d h;obtain⟨nd,hT⟩:=h.live;have e:dw T z=nd.kids:=by unfold dw;rw[hT];rfl
   have hd:=hd8 z d h;obtain⟨G,hG⟩:∃G:Int->Nat,G=λk=>(19683+39366*(8-d))*(Tr.sub T (f+1) k).length:=⟨_,rfl⟩
   have g1:∀k∈nd.kids,Fw.cst (qM T) f k+nJ (qM T) f k<=G k:=λk hk=>by
    have hk:=H.qR hT hk h;have a:=hc f k _ hk;have b:=ih k (d+1) hk;rw[show 9-(d+1)=8-d by omega]at b;rw[hG];show _<=(19683+39366*(8-d))*_;rw[Nat.add_mul];omega
   have h1:((pF T nd.kids).map (nJ (qM T) f)).sum<=((pF T nd.kids).map G).sum:=Km λk hk=>by have:=g1 k (List.mem_filter.1 hk).1;omega
   have h2:((qj T nd.kids).map λk=>Fw.cst (qM T) f k+nJ (qM T) f k).sum<=((qj T nd.kids).map G).sum:=Km λk hk=>g1 k (List.mem_filter.1 hk).1;have h3:((pF T nd.kids).map G).sum+((qj T nd.kids).map G).sum<=(nd.kids.map G).sum:=Ko (λk=>(bQ T k).c 0 != 3) (λk=>oW (bQ T k)) G nd.kids;have h4:(Tr.sub T (f+1+1) z).length=1+(nd.kids.map λk=>(Tr.sub T (f+1) k).length).sum:=by
    rw[Tr.fG hT,ja9,Fy];omega
   have h5:=hc (f+1) z d h;have h6:nJ (qM T) (f+1) z=Fw.cst (qM T) (f+1) z+((pF T nd.kids).map (nJ (qM T) f)).sum+((qj T nd.kids).map λk=>Fw.cst (qM T) f k+nJ (qM T) f k).sum:=by
    rw[nJ];show _+((pF T (dw T z)).map _).sum+((qj T (dw T z)).map _).sum=_;rw[e]
   have hGk:(nd.kids.map G).sum=(19683+39366*(8-d))*(nd.kids.map λk=>(Tr.sub T (f+1) k).length).sum:=by rw[hG];exact Kn _ _ _
   rw[hGk]at h3;rw[h4]at h5 ⊢;rw[h6,show 9-d=(8-d)+1 by omega];clear hG hGk;generalize (nd.kids.map λk=>(Tr.sub T (f+1) k).length).sum=S at *;have h7:39366*(8-d+1)*(1+S)=39366*(8-d)+39366+(39366*(8-d)+39366)*S:=by
    rw[Nat.mul_add,Nat.mul_one,Nat.mul_add,Nat.mul_one]
   have h8:(39366*(8-d)+39366)*S=(19683+39366*(8-d))*S+19683*S:=by
    rw[<-Nat.add_mul];congr 1;omega
   omega
end
theorem Dw(B:Int->Fw.Bx)(f:Nat)(z r0 r1 t0 t1:Int):(Fw.lay B f z r0 r1 t0 t1).id=z:=rfl
theorem afF(T:Tr.T)(ww wh:Int):∀(f:Nat) (x:Fw.Ld),(tl (qM T) ww wh f x).map (·.id)=lX T (f+1) x.id:=by
 intro f
 induction f with
 | zero =>
   intro x;have e:∀l:List Int,l.flatMap (lX T 0)=[]:=λl=>List.flatMap_eq_nil_iff.2 λ_ _=>rfl;rw[lX,e,e];rfl
 | succ f ih =>
   intro x;have hc:=Fw.Np (qM T) (f+1) x.id x.i0 x.i1 (λh=>by omega);rw[tl,lX,List.map_cons,List.map_append,List.map_flatMap,List.map_flatMap];congr 1;congr 1
   . rw[<-show(qM T x.id).fl=pF T (dw T x.id)from rfl,<-hc,List.flatMap_map]
     exact congrArg (λg=>List.flatMap g _) (funext λk=>ih _)
   . exact congrArg (λg=>List.flatMap g _) (funext λk=>ih _)
structure Fz(T:Tr.T)(n:Nat):Prop where
 wf:Tr.WF T
 num:(Tr.ord T).length=n
 few:n<=64
 deep:∀x d,Tr.Dp T x d->d<=8
 val:∀z nd,T z=some nd->Re.valid nd.sty=true
theorem Fz.aau{T:Tr.T}{n:Nat}(h:Fz T n):Tr.Fit T 65 0/\Tr.sub T 65 0=Tr.ord T:=by
 have:=Tr.Fit.mono h.wf.uH 65 aG;exact⟨this.1,this.2.1⟩
theorem VO(B:Int->Fw.Bx){w:World}{t n n0:Nat}{L:Lay}{T:Tr.T}(g:Good w t L T n n0)(M:Fz T n)(hBT:∀z,Dsh T z->B z=qM T z)(ww wh:Int)
  (h1:Fw.cst B 64 0+nJ B 64 0<maxLen) (h2:((tl B (max ww 0) (max wh 0) 64 (Br B (max ww 0) (max wh 0))).map (·.id)).Nodup) (h3:∀z∈(tl B (max ww 0) (max wh 0) 64 (Br B (max ww 0) (max wh 0))).map (·.id),0<=z/\z<4096) :
  Calls ja0 10 #[t,ww,wh] w λe w'=>(∃b,e=.returned (.map (some b))/\w.heap.size<=b/\GM 3 w' b (qb T B (max ww 0) (max wh 0)).length (EW T B (max ww 0) (max wh 0)))/\Below w w w':=by
 have b3:(lX T 64 0).length<=64:=by
  have:=afE M.wf M.wf.uH;have hn:=M.num;unfold Tr.ord at hn;rw[hn]at this;exact aJ this M.few
 have hk:∀z nd,T z=some nd->nd.kids.length<=64:=λz nd h=>by
  have:=M.wf.pR h;rw[M.num]at this;exact aJ this M.few
 have hl:=Tr.sJ h2 h3;rw[jb7]at hl;have k:=Io B g.inv.rep M.wf hk (λz nd h=>Q0 (M.val z nd h)) hBT ww wh h1 KR KR;refine k.mono ?_;rintro e w' ⟨⟨b,nr,rfl,hb,hG,hle⟩,hB⟩;refine⟨⟨b,rfl,hb,?_⟩,hB⟩
 have hsub:∀z∈(qb T B (max ww 0) (max wh 0)).map (·.id),z∈(tl B (max ww 0) (max wh 0) 64 (Br B (max ww 0) (max wh 0))).map (·.id):=λz hz=>by
  unfold qb at hz;split at hz
  . exact hz
  . simp at hz
 have hnd:((qb T B (max ww 0) (max wh 0)).map (·.id)).Nodup:=by
  unfold qb;split
  . exact h2
  . exact .nil
 have hge:(qb T B (max ww 0) (max wh 0)).length<=nr:=by
  have:=hG.ge (l:=(qb T B (max ww 0) (max wh 0)).map (·.id)) hnd λz hz=>by
   refine⟨(iQ _).2 (by have:=h3 z (hsub z hz);omega),?_⟩;obtain⟨x,hx,rfl⟩:=List.mem_map.1 hz;unfold EW;rw[NU _ _ x hnd hx];rfl
  rwa [jb7]at this
 rwa [show(qb T B (max ww 0) (max wh 0)).length=nr by omega]
theorem Fz.bd{T:Tr.T}{n:Nat}(M:Fz T n):Fw.cst (qM T) 64 0+nJ (qM T) 64 0<maxLen:=by
 obtain⟨rd,hrd,hru⟩:=M.wf.root;have h0:Tr.Dp T 0 0:=.root hrd;have alf:(Tr.sub T 65 0).length<=64:=by rw[M.aau.2,M.num];exact M.few
 have b1:=aat M.wf M.deep 64 0 0 h0;have b2:=acQ M.wf M.deep 64 0 0 h0;rw[show 3^(9-0)=19683 from rfl]at b1;have e65:Tr.sub T (64+1) 0=Tr.sub T 65 0:=rfl;rw[e65]at b1 b2;generalize (Tr.sub T 65 0).length=q at *;generalize Fw.cst (qM T) 64 0=x at *;generalize nJ (qM T) 64 0=y at *;unfold maxLen;omega
theorem Fz.FB{T:Tr.T}{n:Nat}(M:Fz T n)(ww wh:Int):((tl (qM T) ww wh 64 (EU T ww wh)).map (·.id)).Nodup/\∀z∈(tl (qM T) ww wh 64 (EU T ww wh)).map (·.id),0<=z/\z<4096:=by
 have e:=afF T ww wh 64 (EU T ww wh);rw[show(EU T ww wh).id=0 from rfl]at e;rw[e];refine⟨Iz M.wf M.aau.1,λz hz => ?_⟩;obtain⟨nd,h⟩:=rT M.aau.1 hz;exact M.wf.range z nd h
theorem aav{w:World}{t n n0:Nat}{L:Lay}{T:Tr.T}(g:Good w t L T n n0)(M:Fz T n)(ww wh:Int) :
  Calls ja0 10 #[t,ww,wh] w λe w'=>(∃b,e=.returned (.map (some b))/\w.heap.size<=b/\GM 3 w' b (Gy T (max ww 0) (max wh 0)).length (afe T (max ww 0) (max wh 0)))/\Below w w w' :=
 VO (qM T) g M (λ_ _=>rfl) ww wh M.bd (M.FB _ _).1 (M.FB _ _).2
section
variable {B:Int->Fw.Bx} (hv:∀z,Re.valid (B z).sty=true)
include hv
end
end
open Go.Deep Go.Joins Go.Shelf
open List renaming getElem?_eq_getElem → ja6,length_append → ja7,mem_cons_of_mem → ja8,length_cons → ja9,getElem?_toArray → jb1,mem_cons_self → jb3,take_of_length_le → jb6,length_take → jc9
variable {nd:Tr.Nd}{l:List Int}{i:Nat}{v:Value}{z:Int}{cur cs:Array Value}{W:World}
theorem Good.low{t n n0 n1:Nat}{L:Lay}{T:Tr.T}(h:Good W t L T n n0)(hl:n1<=n0):Good W t L T n n1:=⟨h.inv,λb hb=>aJ hl (h.own b hb),h.fit⟩
section
variable {w:World} {t n n0:Nat} {L:Lay} {T:Tr.T}
end
theorem Kept.cells{t:Nat}{L:Lay}{T:Tr.T}(h:Kept W t L T v l)(h0:0<l.length):∃g c,v=.slice (some ⟨g,0,none⟩) l.length c/\g<W.heap.size/\∀k,k<l.length->W.cell? ⟨g,k,none⟩=some (.int .i64 (l.getD k 0)):=by
 rcases h.row.cases with⟨_,rfl⟩|⟨g,c,rfl,hr⟩
 . simp at h0
 . obtain⟨b,o,e,hc⟩:=hr.ints.2 h0
   injection e with e;injection e with e1 e2 _;subst e1 e2;exact⟨g,c,rfl,hr.lt,λk hk=>by rw[<-hc k hk,Nat.zero_add]⟩
section
variable {ops:Array Oper} {rest:List Oper} {o:Oper} {a:Act} {w:World} {Q:Exit->Act->World->Prop} {s t:Re.St}
end
def fH(u:Int)(v:Value)(s:Re.St):Array Value:=#[.bool true,.int .i64 u,v]++cells s
def iZ:Array Value:=#[.bool false,.int .i64 0,.slice none 0 0]++cells Re.zero
theorem BA(u:Int)(v:Value)(s:Re.St):(fH u v s).size=58:=by simp[fH,bI]
theorem mW:iZ.size=58:=by simp[iZ,bI]
theorem FC(u:Int)(v:Value)(s:Re.St){j:Nat}(h:j<55):(fH u v s)[3+j]? = some (cell s j):=by
 unfold fH;rw[Array.getElem?_append_right aW,show 3+j-(#[true,u,v]:Array Value).size=j by simp,gM s h]
theorem mX(u:Int)(v:Value)(s:Re.St){j:Nat}(h:j<3):(fH u v s)[j]? = (#[Value.bool true,Value.int .i64 u,v]:Array Value)[j]? := by
 unfold fH;rw[Array.getElem?_append_left (by simpa using h)]
theorem Da(u:Int)(W:World):(Instr.build 146 #[(0,.bool true),(1,.int .i64 u)]).run ja0 W=.ok (.agg (fH u (.slice none 0 0) Re.zero)) W:=by kernel_rfl
theorem vZ(W:World):(Instr.build 146 #[]).run ja0 W=.ok (.agg iZ) W:=by kernel_rfl
theorem NY(A:Option Addr)(n c:Nat)(W:World):(Instr.build 149 #[(0,.slice A n c)]).run ja0 W=.ok (.agg #[.slice A n c]) W:=by kernel_rfl
theorem NZ(W:World):(Instr.buildSlice 147 1 #[(0,.agg (fH (-1) (.slice none 0 0) Re.zero))]).run ja0 W=.ok (.slice W 1 1) (W.alloc (.cells (fH (-1) (.slice none 0 0) Re.zero) 146)):=by kernel_rfl
theorem BD(W:World):(Instr.buildSlice 147 1 #[(0,.agg iZ)]).run ja0 W=.ok (.slice W 1 1) (W.alloc (.cells iZ 146)):=by kernel_rfl
theorem wpList_buildSlice{ops:Array Oper}{rest:List Oper}{o:Oper}{a:Act}{w w':World}{Q:Exit->Act->World->Prop}(hw:Region.wanted o (yielded ops a.tmps)=true)(t:TypeId)(n:Nat)(ps:Array (Nat×Operand))(ho:o.op=.buildSlice t n ps)(qs:Array (Nat×Value))(hq:(ps.map λp=>(p.1,a.eval p.2))=qs)
  (hrun:(Instr.buildSlice t n qs).run ja0 w=.ok v w') (h:wpList ja0 ops Q rest (a.put o.dst v) w'):wpList ja0 ops Q (o::rest) a w :=
 dL hw (by unfold execOp;simp only[ho,hq,Sem.run_bind,hrun,Result.andThen_ok,Sem.run_pure]) h
structure Place(cur:Array Value)(i:Nat)(v:Value)(o:Option Tr.Nd):Prop where
 live:cur[i*58]? = some (.bool o.isSome)
 up:∀nd,o=some nd->cur[i*58+1]? = some (.int .i64 nd.up)
 kids:∀nd,o=some nd->cur[i*58+2]? = some v
 sty:∀nd,o=some nd->∀j,j<55->cur[i*58+3+j]? = some (cell nd.sty j)
structure Doc(W:World)(r g c m:Nat)(K:Int->Value)(T:Tr.T):Prop where
 at_:At W r (.cells #[.slice g m c] 149)
 cur:∃cur:Array Value,At W g (.cells cur 146)/\cur.size=c*58/\∀i:Nat,i<m->Place cur i (K i) (T i)
 cap:m<=c
 lim:c<=maxLen
 row:∀z nd,T z=some nd->KS W (K z) nd.kids
 range:∀z nd,T z=some nd->0<=z/\z<m
 small:m<=4096
def iW(r g:Nat)(K:Int->Value)(T:Tr.T)(b:Nat):Prop:=b=r\/b=g\/∃z nd,T z=some nd/\(K z).ownBlock=some b
section
variable {W W':World} {r g c m:Nat} {K:Int->Value} {T:Tr.T}
theorem Doc.out{M:Nat->Prop}(h:Doc W r g c m K T)(hm:∀b,iW r g K T b->¬ M b)(k:Out M W W'):Doc W' r g c m K T where
 at_:=h.at_.out (hm r (.inl rfl)) k
 cur:=by obtain⟨cur,h1,h2⟩:=h.cur;exact⟨cur,h1.out (hm g (.inr (.inl rfl))) k,h2⟩
 cap:=h.cap
 lim:=h.lim
 row:=λz nd hz=>(h.row z nd hz).out (λb hb=>hm b (.inr (.inr ⟨z,nd,hz,hb⟩))) k
 range:=h.range
 small:=h.small
theorem Doc.after(h:Doc W r g c m K T)(hb:Below W W W'):Doc W' r g c m K T:=h.out (M:=λ_=>False) (λ_ _ q=>q) (Out.of_below hb)
theorem Doc.lt(h:Doc W r g c m K T){b:Nat}(hb:iW r g K T b):b<W.heap.size:=by
 rcases hb with rfl|rfl|⟨z,nd,hz,hb⟩
 . exact h.at_.lt
 . obtain⟨cur,h1,_⟩:=h.cur;exact h1.lt
 . exact(h.row z nd hz).lt hb
theorem Doc.cT(h:Doc W r g c m K T):W.cell? ⟨r,0,none⟩=some (.slice g m c):=by rw[h.at_.cell];rfl
theorem Doc.aik(h:Doc W r g c m K T)(hi:i<m):W.cell? ⟨g,i*58,none⟩=some (.bool (T i).isSome):=by
 obtain⟨cur,h1,_,h3⟩:=h.cur;rw[h1.cell,(h3 i hi).live]
theorem Doc.cUp(h:Doc W r g c m K T)(hn:T i=some nd):W.cell? ⟨g,i*58+1,none⟩=some (.int .i64 nd.up):=by
 obtain⟨cur,h1,_,h3⟩:=h.cur;rw[h1.cell,(h3 i (by have:=h.range _ _ hn;omega)).up nd hn]
theorem Doc.jX(h:Doc W r g c m K T)(hn:T i=some nd):W.cell? ⟨g,i*58+2,none⟩=some (K i):=by
 obtain⟨cur,h1,_,h3⟩:=h.cur;rw[h1.cell,(h3 i (by have:=h.range _ _ hn;omega)).kids nd hn]
theorem Doc.sty(h:Doc W r g c m K T)(hn:T i=some nd):uy W g (i*58+3) nd.sty:=λj hj=>by
 obtain⟨cur,h1,_,h3⟩:=h.cur;rw[h1.cell,(h3 i (by have:=h.range _ _ hn;omega)).sty nd hn j hj]
theorem Doc.wf(h:Doc W r g c m K T)(hz:T z=some nd):Wf z:=by have:=h.range z nd hz;have:=h.small;rw[iQ];omega
theorem Doc.nat(h:Doc W r g c m K T)(hz:T z=some nd):∃i:Nat,z=i/\i<m:=⟨z.toNat,by have:=h.range z nd hz;omega,by have:=h.range z nd hz;omega⟩
theorem Doc.rg(h:Doc W r g c m K T):r≠g:=λe=>by
 obtain⟨cur,h1,_⟩:=h.cur;have:=h.at_.uniq (e▸h1);injection this with _ e2;exact absurd e2 aG
theorem iI(h:Doc W r g c m K T)(z:Int):Calls ja0 79 #[r,z] W λe w'=>e=.returned (.bool (T z).isSome)/\W=w':=by
 have c0:=h.cT;by_cases h0:0<=z
 . by_cases h1:z<(m:Int)
   . obtain⟨i,rfl⟩:∃i:Nat,z=i:=⟨z.toNat,by omega⟩
     have cl:=h.aik (i:=i) ak;have him:i<m:=by omega
     clear h;generalize (T (i:Int)).isSome=b at *;go_enter Tryz.func79,Tryz.ntmps79
     go_wp2;exact Zv
   . have hn:(T z).isSome=false:=by
      cases e:T z with
      | none=>rfl
      | some nd=>have:=h.range z nd e;omega
     rw[hn];clear h hn;go_enter Tryz.func79,Tryz.ntmps79
     go_wp2;exact Zv
 . have hn:(T z).isSome=false:=by
    cases e:T z with
    | none=>rfl
    | some nd=>have:=h.range z nd e;omega
   rw[hn];clear h hn c0;go_enter Tryz.func79,Tryz.ntmps79
   go_wp2;exact Zv
theorem jR{T:Tr.T}(h:T z=some nd):(T z).isSome=true:=by rw[h];rfl
theorem jS{T:Tr.T}(h:T z=none):(T z).isSome=false:=by rw[h];rfl
theorem qd(h:Doc W r g c m K T)(hr:∀nd,T 0=some nd->nd.up = -1){d:Nat}(hd:Tr.Dp T z d)(Pk:d<=1000):Calls ja0 40 #[r,z] W λe w'=>e=.returned (.int .i64 (d:Int))/\w'=W:=by
 have hm:T (-1)=none:=by
  cases e:T (-1)with
  | none=>rfl
  | some nd=>have:=(h.range _ nd e).1;omega
 have HR:=ah h;have GH:=ah hr;have HD:=ah hd;clear h hr hd;go_enter Tryz.func40,Tryz.ntmps40
 go_wp2
 go_loop [1,5] (λi p=>(∃(y:Int) (q:Nat) (k:Int),i=.int .i64 y/\p=.int .i64 k/\q<=d/\k=(d:Int)-q-1/\Tr.Dp T y q)\/(i=.int .i64 (-1)/\p=.int .i64 (d:Int))) (λ_ p=>(d-intOf p).toNat)
 case atStart=>exact .inl ⟨z,d,-1,rfl,rfl,aH _,by omega,HD.out⟩
 case round =>
  rcases hrel with⟨y,q,k,rfl,rfl,hmd,hk,hD⟩|⟨rfl,rfl⟩
  . obtain⟨nd,hT⟩:=hD.live
    obtain⟨i,rfl,him⟩:=HR.out.nat hT;have key:=iI HR.out (i:Int);rw[jR hT]at key;have c0:=HR.out.cT;have c1:=HR.out.cUp hT;have hw:IntKind.i64.wrap (k+1)=k+1:=by rw[IntWalk.i64_in _ ak]
    have HK:=ah hk;have Rc:=ah hD;clear hk hD
    go_wp2_with (go_at_call 79;(with_reducible refine key.mono ?_);rintro e w' ⟨rfl,rfl⟩)
    go_round
    case rel =>
     have hk:=HK.out;generalize hii:(i:Int)=ii at *;exact Z2g
    case measure=>have hk:=HK.out;simp[intOf];omega
  . have key:=iI HR.out (-1)
    rw[jS hm]at key
    go_wp2_with (go_at_call 79;(with_reducible refine key.mono ?_);rintro e w' ⟨rfl,rfl⟩)
    exact Zv
theorem tX(h:Doc W r g c m K T)(H:Tr.WF T)(z:Int):Calls ja0 40 #[r,z] W λe w'=>e=.returned (.int .i64 (Tr.dep T z))/\w'=W:=by
 cases hT:T z with
 | none =>
   rw[Tr.Lc hT];have key:=iI h z;rw[jS hT]at key;clear h;go_enter Tryz.func40,Tryz.ntmps40
   go_wp2;refine wp_loop_rounds 1 ?_;rw[rounds_succ]
   go_wp2_with (go_at_call 79;(with_reducible refine key.mono ?_);rintro e w' ⟨rfl,rfl⟩)
   exact Zv
 | some nd =>
   obtain⟨d,h1,h2,h3⟩:=H.iF hT;rw[h3];exact qd h (λ_ q=>H.eU q) h2 ak
end
def kK(T:Tr.T)(f:Nat)(x:Int)(l:List Int)(k:Nat):List Int:=x::(l.take k).flatMap (Tr.sub T f)
theorem Kq(T:Tr.T)(f:Nat)(x:Int){k:Nat}(h:k<l.length):kK T f x l (k+1)=kK T f x l k++Tr.sub T f (l.getD k 0):=by
 unfold kK;rw[dW l k h,List.flatMap_append];simp
theorem Q5(T:Tr.T)(f:Nat)(x:Int)(l:List Int){k:Nat}(h:k<=l.length):(kK T f x l k).length<=(kK T f x l l.length).length:=by
 unfold kK;rw[List.take_length];have e:l=l.take k++l.drop k:=(List.take_append_drop k l).symm;have:=congrArg (λz:List Int=>(z.flatMap (Tr.sub T f)).length) e;simp only[List.flatMap_append,ja7]at this;simp only[ja9];omega
theorem qg(f:Nat):∀(x:Int) {W:World} {r g c m:Nat} {K:Int->Value} {T:Tr.T},Doc W r g c m K T->Tr.Fit T f x->(Tr.sub T f x).length<=10000->Calls ja0 39 #[r,x] W λe w'=>(∃v,e=.returned v/\w'.ownsRow W.heap.size 3 1 v (Tr.sub T f x).length ((Tr.sub T f x).map (Value.int .i64)))/\Below W W w':=by
 induction f with
 | zero=>intro x W r g c m K T _ h;exact h.elim
 | succ f ih =>
   intro x W r g c m K T h hfit hlen;obtain⟨nd,hT,hk⟩:=hfit;have key:=iI h x;rw[jR hT]at key;have hsub:=Tr.fG (f:=f) hT;have hall:Hid (Tr.sub T (f+1) x=kK T f x nd.kids nd.kids.length):=ah (by rw[hsub];unfold kK;rw[List.take_length]);have hrow:=h.row _ _ hT;rw[hall.out]at hlen;rw[hall.out];have hle:=λk (hk:k<=nd.kids.length)=>Q5 T f x nd.kids hk;have hkl:nd.kids.length<=10000:=by
    have:∀(l:List Int),(∀y∈l,Tr.Fit T f y)->l.length<=(l.flatMap (Tr.sub T f)).length:=λl=>by
     induction l with
     | nil=>intro _;simp
     | cons y l ihl =>
       intro hy;have h1:=ihl λz hz=>hy z (ja8 _ hz);have h2:0<(Tr.sub T f y).length:=by
        cases f with
        | zero=>exact(hy y jb3).elim
        | succ f=>obtain⟨yd,RD,_⟩:=hy y jb3;rw[Tr.fG RD];simp
       simp only[List.flatMap_cons,ja7,ja9];omega
    have h1:=this nd.kids hk;unfold kK at hlen;rw[List.take_length,ja9]at hlen;omega
   obtain⟨i,rfl,him⟩:=h.nat hT;have c0:=h.cT;have hB0:Below W W (W.alloc (.cells #[.int .i64 (i:Int)] 3)):=aB aD _;have hown0:(W.alloc (.cells #[.int .i64 (i:Int)] 3)).ownsRow W.heap.size 3 1 (.slice W 1 1) 1 [.int .i64 (i:Int)]:=yK aC rfl ak;have HD:=ah h;have HT:=ah hT;have HLE:=ah hle;have HK:=ah hk;have HLEN:=ah hlen;clear h hrow hsub hall hk hle hlen;generalize hl:nd.kids=l at *;have HL:=ah hl;go_enter Tryz.func39,Tryz.ntmps39
   go_wp2_with (go_at_call 79;(with_reducible refine key.mono ?_);rintro e w' ⟨rfl,rfl⟩)
   generalize hn:l.length=n at *;have HN:=ah hn;clear hl hn c0 key
   go_loopw [5,6] (λlv iv wr=>∃k:Nat,k<=n/\iv=.int .i64 (k:Int)/\wr.ownsRow W.heap.size 3 1 lv (kK T f (i:Int) l k).length ((kK T f (i:Int) l k).map (Value.int .i64))/\Below W W wr) (λ_ iv _=>n-(intOf iv).toNat)
   case atStart=>exact⟨0,by omega,rfl,hown0,hB0⟩
   case round =>
    clear hown0 hB0;obtain⟨k,hk,rfl,hown,hb⟩:=hrel;have hd:=HD.out.after hb;have c0:=hd.cT;have c1:=hd.jX HT.out;have hks:=hd.row _ _ HT.out;obtain⟨A,cc,hs,hI,_⟩:=hks.ints;rw[hs]at c1;rw[HL.out,HN.out]at c1;rw[HL.out]at hI;have HB:=ah hb;have HOWN:=ah hown;have hsz:=hb.size;by_cases hlt:k<n
    . have hltz:(k:Int)<(n:Int):=by omega
      obtain⟨b6,o6,rfl,lb6,FD⟩:=hI.at_ (k:=k) V7;have hmem:l.getD k 0∈l:=by
       rw[List.getD,ja6 V7];exact List.getElem_mem _
      have Wi:=HK.out _ hmem;have hstep:=ah (Kq T f (i:Int) (k:=k) V7 (l:=l));have hl1:=HLE.out (k+1) ak;have hl2:=HLEN.out;rw[hstep.out,ja7]at hl1;have nT:=ih (l.getD k 0) hd Wi ak;generalize l.getD k 0=y at *;have hlim:Hid ((kK T f (i:Int) l k).length+(Tr.sub T f y).length<=100000):=ah ak;clear hd hks hs hI hown hb hmem Wi hl1 hl2
      go_wp2_with (first|(go_at_call 39;(with_reducible refine nT.mono ?_);rintro e w5 ⟨⟨v2,rfl,ho2⟩,hb5⟩;obtain⟨A2,c2,rfl,hI2,_,_,ajU⟩:=KS.ints (dP ho2 oI);obtain⟨v',w',hr,ho',hb',hs'⟩:=jl (w0:=W) (base:=W.heap.size) (bG (M:=λ_=>False) HOWN.out (λ_ _ q=>q) (Out.of_below hb5)) (HB.out.trans (hb5.mono hsz)) (aJ hsz hb5.size) hI2 rfl ajU hlim.out;have HR:=ah hr;have HO:=ah ho';have HB':=ah hb';clear hr ho' hb' hs' ho2 hI2 hb5)|(at_builtin;refine wpList_append_run aR _ _ 37 rfl rfl rfl HR.out ?_))
      go_roundw
      case rel=>exact⟨k+1,by omega,by go_num,by rw[hstep.out,ja7];exact HO.out,HB'.out⟩
      case measure=>simp[intOf];omega
    . have hltz:¬ (k:Int)<(n:Int):=by omega
      obtain rfl:k=n:=by omega
      clear hd hks hs hI hown hb;go_wp2
      go_ret
      rw[HN.out];exact⟨⟨_,rfl,HOWN.out⟩,HB.out⟩
theorem FE{r g c m:Nat}{K:Int->Value}{T:Tr.T}(h:Doc W r g c m K T)(H:Tr.WF T):Calls ja0 110 #[r] W λe w'=>e=.returned (.int .i64 ((Tr.ord T).length:Int))/\Below W W w':=by
 have key:=qg 64 0 h H.uH (by have:=H.iE;unfold Tr.ord at this;omega);change Calls _ _ _ _ (λe w'=>(∃v,e=.returned v/\w'.ownsRow _ _ 1 v (Tr.ord T).length ((Tr.ord T).map (Value.int .i64)))/\_)at key;generalize Tr.ord T=l at *;clear h;go_enter Tryz.func110,Tryz.ntmps110
 go_wp2_with (go_at_call 39;(with_reducible refine key.mono ?_);rintro e w1 ⟨⟨v,rfl,ho⟩,hb⟩;obtain⟨A,c1,rfl⟩:=dY ho)
 go_ret
 exact⟨rfl,hb⟩
theorem tY{w:World}(h:KS w v l)(hl:l.length<=10000)(x:Int):Calls ja0 104 #[v,x] w λe w'=>(∃v',e=.returned v'/\w'.ownsRow w.heap.size 3 1 v' (Tr.wo l x).length ((Tr.wo l x).map (Value.int .i64)))/\Below w w w':=by
 obtain⟨A,c,rfl,hI,_⟩:=h.ints;have HI:=ah hI;clear h hI;generalize hn:l.length=n at *;have HN:=ah hn;clear hn;go_enter Tryz.func104,Tryz.ntmps104
 go_wp2
 go_loopw [5,6] (λov iv wr=>∃k:Nat,k<=n/\iv=.int .i64 (k:Int)/\wr.ownsRow w.heap.size 3 1 ov (Tr.wo (l.take k) x).length ((Tr.wo (l.take k) x).map (Value.int .i64))/\Below w w wr) (λ_ iv _=>n-(intOf iv).toNat)
 case atStart=>exact⟨0,by omega,rfl,World.ownsRow_nil _ _ _ _,Below.refl _ _⟩
 case round =>
  obtain⟨k,hk,rfl,hown,hb⟩:=hrel;by_cases hlt:k<n
  . have hltz:(k:Int)<(n:Int):=by omega
    obtain⟨b6,o6,rfl,lb6,FD⟩:=(HI.out.after hb).at_ (k:=k) V7
    have hstep:Hid (Tr.wo (l.take (k+1)) x=Tr.wo (l.take k) x++if l.getD k 0=x then []else [l.getD k 0]):=ah (by
     rw[dW l k V7];unfold Tr.wo;rw[List.filter_append];congr 1;generalize l.getD k 0=y;by_cases e:y=x
     . rw[if_pos e];simp[e]
     . rw[if_neg e];simp[e])
    have F4:(Tr.wo (l.take k) x).length<=10000:=aJ (List.length_filter_le _ _) (by rw[jc9];omega);generalize l.getD k 0=y at *;have HB:=ah hb;have HOWN:=ah hown;by_cases hyx:y=x
    . rw[if_pos hyx,List.append_nil]at hstep
      subst hyx;clear hown hb;go_wp2
      go_roundw
      case rel=>exact⟨k+1,by omega,by go_num,by rw[hstep.out];exact HOWN.out,HB.out⟩
      case measure=>simp[intOf];omega
    . rw[if_neg hyx]at hstep
      have alg:(y==x)=false:=by simpa using hyx
      have hll:Hid ((Tr.wo (l.take (k+1)) x).length=(Tr.wo (l.take k) x).length+1):=ah (by rw[hstep.out];simp);obtain⟨v',w',hr,ho',hb',hs'⟩:=DJ y hown hb hb.size F4;have HR:=ah hr;have HO:=ah ho';have HB':=ah hb';clear hown hb hr ho' hb' hs'
      go_wp2_with (at_builtin;refine wpList_append_run aR _ _ 37 rfl rfl rfl HR.out ?_)
      go_roundw
      case rel=>exact⟨k+1,by omega,by go_num,by rw[hll.out,hstep.out];exact HO.out,HB'.out⟩
      case measure=>simp[intOf];omega
  . have hltz:¬ (k:Int)<(n:Int):=by omega
    obtain rfl:k=n:=by omega
    rw[jb6 (by rw[HN.out];exact aH _)]at hown;have HB:=ah hb;have HOWN:=ah hown;clear hown hb;go_wp2
    go_ret
    exact⟨⟨_,rfl,HOWN.out⟩,HB.out⟩
theorem GA{w:World}(h:KS w v l)(hl:l.length<=10000)(hi:i<=l.length)(x:Int):Calls ja0 108 #[v,.int .i64 (i:Int),x] w λe w'=>(∃v',e=.returned v'/\w'.ownsRow w.heap.size 3 1 v' (Tr.wi l i x).length ((Tr.wi l i x).map (Value.int .i64)))/\Below w w w':=by
 obtain⟨A,c,rfl,hI,hlc,_,hcn⟩:=h.ints;have F1:=ah (DN A l.length c i ak);have F2:=ah (oV A l.length c i hi);have U1:=hI.upto i c hi hlc;have U2:=λW (hb:Below w w W)=>(hI.after hb).from_ i c hi hlc
 have N1:(if c=0 then A else A.map (·.add (0*1)))=none->c=0:=λh=>by
  split at h
  . assumption
  . cases A with
    | none=>exact hcn rfl
    | some _=>cases h
 have N2:(if c=i then A else A.map (·.add (i*1)))=none->c-i=0:=λh=>by
  split at h
  . omega
  . cases A with
    | none=>have:=hcn rfl;omega
    | some _=>cases h
 generalize (if c=0 then A else A.map (·.add (0*1)))=B1 at *;generalize (if c=i then A else A.map (·.add (i*1)))=B2 at *;obtain⟨v1,w1,hr1,ho1,hb1,hs1⟩:=jl (w0:=w) (base:=w.heap.size) (xs:=[]) (World.ownsRow_nil _ _ _ _) aD aC U1 (m:=i) (by rw[jc9];omega) N1 ak;obtain⟨v2,w2,hr2,ho2,hb2,hs2⟩:=DJ x ho1 hb1 hs1 ak;obtain⟨v3,w3,hr3,ho3,hb3,hs3⟩:=jl ho2 hb2 hs2 (U2 w2 hb2) (m:=l.length-i) (by rw[List.length_drop]) N2 ak;have e:(([]++l.take i)++[x])++l.drop i=Tr.wi l i x:=by unfold Tr.wi;simp
 have e2:0+i+1+(l.length-i)=(Tr.wi l i x).length:=by rw[Tr.lD];omega
 rw[e,e2]at ho3;have HR1:=ah hr1;have HR2:=ah hr2;have HR3:=ah hr3;have HO:=ah ho3;have HB:=ah hb3;clear hr1 hr2 hr3 ho1 ho2 ho3 hb1 hb2 hb3 hs1 hs2 hs3 U1 U2 N1 N2 h hI hcn e e2 hlc;generalize Tr.wi l i x=l2 at *;generalize l.length=n at *;go_enter Tryz.func108,Tryz.ntmps108
 go_upto_region 3 with(first|(refine qy rfl aR (F1.out _) ?_)|(at_builtin;refine wpList_append_run aR _ _ 37 rfl rfl rfl HR1.out ?_))
 go_upto_region 4 with(at_builtin;refine wpList_append_run aR _ _ 37 rfl rfl rfl HR2.out ?_)
 go_wp2_with (first|(refine qy rfl aR (F2.out _) ?_)|(at_builtin;refine wpList_append_run aR _ _ 37 rfl rfl rfl HR3.out ?_))
 go_ret
 exact⟨⟨_,rfl,HO.out⟩,HB.out⟩
def kN(cur:Array Value)(o:Nat)(cs:Array Value):Array Value:=(cur.toList.take o++cs.toList++cur.toList.drop (o+cs.size)).toArray
theorem tZ{o:Nat}(h:o+cs.size<=cur.size):(kN cur o cs).size=cur.size:=by
 unfold kN;simp only[List.size_toArray,ja7,jc9,List.length_drop,Array.length_toList];omega
theorem xZ{o:Nat}(h:o+cs.size<=cur.size){j:Nat}(hj:j<cs.size):(kN cur o cs)[o+j]? = cs[j]? := by
 unfold kN;have ht:(cur.toList.take o).length=o:=by rw[jc9,Array.length_toList];omega
 rw[jb1,List.append_assoc,List.getElem?_append_right ak,ht,show o+j-o=j by omega,List.getElem?_append_left (by rw[Array.length_toList];exact hj),Array.getElem?_toList]
theorem wm{o:Nat}(h:o+cs.size<=cur.size){k:Nat}(hk:k<o\/o+cs.size<=k):(kN cur o cs)[k]? = cur[k]? := by
 unfold kN;have ht:(cur.toList.take o).length=o:=by rw[jc9,Array.length_toList];omega
 rw[jb1,List.append_assoc];rcases hk with hk|hk
 . rw[List.getElem?_append_left ak,List.getElem?_take,if_pos hk,Array.getElem?_toList]
 . rw[List.getElem?_append_right ak,ht,List.getElem?_append_right (by rw[Array.length_toList];omega),Array.length_toList,List.getElem?_drop,show o+cs.size+(k-o-cs.size)=k by omega,Array.getElem?_toList]
theorem Q6(u:Int)(A:Option Addr)(n c:Nat)(s:Re.St):(fH u (.slice A n c) s).all Value.oneCell'=true:=by
 unfold fH;rw[Array.all_append,cells_one,Bool.and_true];simp[Value.oneCell']
theorem IB:iZ.all Value.oneCell'=true:=by
 unfold iZ;rw[Array.all_append,cells_one,Bool.and_true];simp[Value.oneCell']
theorem x8{g o:Nat}{cur cs:Array Value}{T t:TypeId}(h:At W g (.cells cur T))(hz:(sizeOf t).run ja0 W=.ok cs.size W)(hone:cs.all Value.oneCell'=true)(hfit:o+cs.size<=cur.size):(Instr.storeAt t (.pointer (some ⟨g,o,none⟩)) (.agg cs)).run ja0 W=.ok () (W.setRow g (kN cur o cs)):=by
 have hst:=run_storeCells_at ja0 g o T cs.toList 0 cur W h (by rw[Array.length_toList];omega) (λx hx=>by
  have:=Array.all_eq_true_iff_forall_mem.1 hone x (by simpa using hx);exact this)
 rw[Nat.add_zero,Array.length_toList]at hst;have hc:(Value.agg cs).cells=cs:=rfl;simp only[Instr.storeAt,Instr.sureAddr,storeVar,Sem.run_bind,Sem.run_pure,Result.andThen_ok,hz,hc,ne_eq,not_true_eq_false,if_false,hst];rfl
theorem Place.keep{cur cur':Array Value}{i j:Nat}{o:Option Tr.Nd}(h:Place cur j v o)(hag:∀k,(k<i*58\/i*58+58<=k)->cur'[k]? = cur[k]?)(hne:j≠i):Place cur' j v o :=
 ⟨by rw[hag _ ak];exact h.live,λnd hn=>by rw[hag _ ak];exact h.up nd hn,λnd hn=>by rw[hag _ ak];exact h.kids nd hn,λnd hn q hq=>by rw[hag _ ak];exact h.sty nd hn q hq⟩
section
variable {W W':World} {r g c m:Nat} {K K':Int->Value} {T T':Tr.T}
theorem Doc.gb(h:Doc W r g c m K T)(hv:KS W v l):v.ownBlock≠some g:=λe=>by
 obtain⟨cur,h1,_⟩:=h.cur;obtain⟨ajV,h2⟩:=hv.rowAt e;have:=h1.uniq h2;injection this with _ e2;exact absurd e2 aG
theorem Doc.put(h:Doc W r g c m K T)(hi:i<m){cur cur':Array Value}(hcur:At W g (.cells cur 146))(hA:At W' g (.cells cur' 146))(hsz:cur'.size=cur.size)(hO:Out (λb=>b=g) W W')
  (hag:∀k,(k<i*58\/i*58+58<=k)->cur'[k]? = cur[k]?) (hP:Place cur' i (K' i) (T' i)) (hT:∀z,z≠(i:Int)->T' z=T z/\K' z=K z) (hrow:∀nd,T' i=some nd->KS W' (K' i) nd.kids):Doc W' r g c m K' T' where
 at_:=h.at_.out (λe=>h.rg e) hO
 cur:=by
  obtain⟨alh,h1,h2,h3⟩:=h.cur;have e:=h1.uniq hcur;injection e with e;subst e;refine⟨cur',hA,by rw[hsz,h2],λj hj => ?_⟩;by_cases e:j=i
  . subst e;exact hP
  . obtain⟨e1,e2⟩:=hT (j:Int) ak
    rw[e1,e2];exact(h3 j hj).keep hag e
 cap:=h.cap
 lim:=h.lim
 row:=λz nd hz=>by
  by_cases e:z=(i:Int)
  . subst e;exact hrow nd hz
  . obtain⟨e1,e2⟩:=hT z e
    rw[e1]at hz;rw[e2];exact(h.row z nd hz).out (λb hb (q:b=g)=>h.gb (h.row z nd hz) (by rw[hb,q])) hO
 range:=λz nd hz=>by
  by_cases e:z=(i:Int)
  . omega
  . rw[(hT z e).1]at hz;exact h.range z nd hz
 small:=h.small
def DG(r g:Nat)(K:Int->Value)(T:Tr.T)(W W':World)(g':Nat)(K':Int->Value)(T':Tr.T):Prop:=Out (iW r g K T) W W'/\∀b,iW r g' K' T' b->iW r g K T b\/W.heap.size<=b
theorem DG.refl(r g:Nat)(K:Int->Value)(T:Tr.T)(W:World):DG r g K T W W g K T:=⟨Out.refl _ _,λ_ h => .inl h⟩
theorem DG.of_below(h:Below W W W'):DG r g K T W W' g K T:=⟨Out.of_below h,λ_ h => .inl h⟩
theorem DG.trans{W'':World}{g' g'':Nat}{K'':Int->Value}{T'':Tr.T}(h:DG r g K T W W' g' K' T')(k:DG r g' K' T' W' W'' g'' K'' T''):DG r g K T W W'' g'' K'' T'':=by
 have hs:=h.1.size;refine⟨⟨h.1.1.trans k.1.1,λb hb hn => ?_⟩,λb hb => ?_⟩
 . rw[k.1.2 b ak (λq=>(h.2 b q).elim hn λq2=>by omega),h.1.2 b hb hn]
 . rcases k.2 b hb with h1|h1
   . exact h.2 b h1
   . exact .inr ak
theorem Doc.Xt(h:Doc W r g c m K T)(hn:T i=some nd)(u:Int):Doc (W.setCell ⟨g,i*58+1,none⟩ (.int .i64 u)) r g c m K (Tr.set T i { nd with up:=u })/\DG r g K T W (W.setCell ⟨g,i*58+1,none⟩ (.int .i64 u)) g K (Tr.set T i { nd with up:=u }):=by
 obtain⟨cur,h1,h2,h3⟩:=h.cur;have him:i<m:=by have:=h.range _ _ hn;omega
 have hO:Out (λb=>b=g) W (W.setCell ⟨g,i*58+1,none⟩ (.int .i64 u)):=(Out.refl _ _).set (M:=λb=>b=g) rfl _ _;have hcap:=h.cap;have P:=h3 i him;have hne:∀k,k≠i*58+1->(cur.setIfInBounds (i*58+1) (.int .i64 u))[k]? = cur[k]? := λk hk=>Array.getElem?_setIfInBounds_ne ak;refine⟨h.put him h1 (h1.set _ _) aW hO (λk hk=>hne k ak) ?_ (λz hz=>⟨Tr.aK _ _ hz,rfl⟩) (λnd' hn' => ?_),hO.mono λb _ q => .inr (.inl q),λb hb => .inl ?_⟩
 . rw[Tr.aP]
   rw[hn]at P;refine⟨by rw[hne _ ak];exact P.live,λnd' e => ?_,λnd' e => ?_,λnd' e j hj => ?_⟩
   . cases e
     rw[Array.getElem?_setIfInBounds_self_of_lt ak]
   . cases e;rw[hne _ ak];exact P.kids nd rfl
   . cases e;rw[hne _ ak];exact P.sty nd rfl j hj
 . rw[Tr.aP]at hn';cases hn'
   exact(h.row _ _ hn).out (λb hb (q:b=g)=>h.gb (h.row _ _ hn) (by rw[hb,q])) hO
 . exact Z27
theorem Doc.sw(h:Doc W r g c m K T)(hn:T i=some nd)(hv:KS W v l):Doc (W.setCell ⟨g,i*58+2,none⟩ v) r g c m (λz=>if z=(i:Int)then v else K z) (Tr.set T i { nd with kids:=l }):=by
 obtain⟨cur,h1,h2,h3⟩:=h.cur;have him:i<m:=by have:=h.range _ _ hn;omega
 have hO:Out (λb=>b=g) W (W.setCell ⟨g,i*58+2,none⟩ v):=(Out.refl _ _).set (M:=λb=>b=g) rfl _ _;have hcap:=h.cap;have P:=h3 i him;have hne:∀k,k≠i*58+2->(cur.setIfInBounds (i*58+2) v)[k]? = cur[k]? := λk hk=>Array.getElem?_setIfInBounds_ne ak;refine h.put him h1 (h1.set _ _) aW hO (λk hk=>hne k ak) ?_ (λz hz=>⟨Tr.aK _ _ hz,if_neg hz⟩) (λnd' hn' => ?_)
 . rw[Tr.aP]
   simp only[if_true];rw[hn]at P;refine⟨by rw[hne _ ak];exact P.live,λnd' e => ?_,λnd' e => ?_,λnd' e j hj => ?_⟩
   . cases e;rw[hne _ ak];exact P.up nd rfl
   . cases e
     rw[Array.getElem?_setIfInBounds_self_of_lt ak]
   . cases e;rw[hne _ ak];exact P.sty nd rfl j hj
 . rw[Tr.aP]at hn';cases hn'
   simp only[if_true];exact hv.out (λb hb (q:b=g)=>h.gb hv (by rw[hb,q])) hO
theorem pO(hn:T z=some nd){b:Nat}(hb:iW r g (λy=>if y=z then v else K y) (Tr.set T z { nd with kids:=l }) b):iW r g K T b\/v.ownBlock=some b:=by
 rcases hb with e|e|⟨y,yd,hy,e⟩
 . exact .inl (.inl e)
 . exact .inl (.inr (.inl e))
 . by_cases e2:y=z
   . subst e2
     simp only[if_true]at e;exact .inr e
   . exact Z2o
theorem Doc.Pj(h:Doc W r g c m K T)(hn:T i=some nd)(s:Re.St):∃W',(Instr.storeAt 68 (.pointer (some ⟨g,i*58+3,none⟩)) (.agg (cells s))).run ja0 W=.ok () W'/\Out (λb=>b=g) W W'/\Doc W' r g c m K (Tr.set T i { nd with sty:=s })/\DG r g K T W W' g K (Tr.set T i { nd with sty:=s }):=by
 obtain⟨cur,h1,h2,h3⟩:=h.cur;have him:i<m:=by have:=h.range _ _ hn;omega
 have hcap:=h.cap;have hfit:i*58+3+(cells s).size<=cur.size:=by rw[bI,h2];omega
 have hst:=x8 h1 (t:=68) (cs:=cells s) (o:=i*58+3) (by rw[bI];kernel_rfl) (cells_one s) hfit;have hO:Out (λb=>b=g) W (W.setRow g (kN cur (i*58+3) (cells s))):=(Out.refl _ _).setRow (M:=λb=>b=g) rfl _;have P:=h3 i him;have hne:∀k,(k<i*58+3\/i*58+58<=k)->(kN cur (i*58+3) (cells s))[k]? = cur[k]? := λk hk=>wm hfit Z4j;refine⟨_,hst,hO,h.put him h1 (h1.setRow _) (tZ hfit) hO (λk hk=>hne k ak) ?_ (λz hz=>⟨Tr.aK _ _ hz,rfl⟩) (λnd' hn' => ?_),hO.mono λb _ q => .inr (.inl q),λb hb => .inl ?_⟩
 . rw[Tr.aP]
   rw[hn]at P;refine⟨by rw[hne _ ak];exact P.live,λnd' e => ?_,λnd' e => ?_,λnd' e j hj => ?_⟩
   . cases e;rw[hne _ ak];exact P.up nd rfl
   . cases e;rw[hne _ ak];exact P.kids nd rfl
   . cases e
     rw[xZ hfit (by rw[bI];exact hj),gM s hj]
 . rw[Tr.aP]at hn';cases hn'
   exact(h.row _ _ hn).out (λb hb (q:b=g)=>h.gb (h.row _ _ hn) (by rw[hb,q])) hO
 . exact Z27
theorem Doc.adC(h:Doc W r g c m K T)(him:i<m)(hn:T i=none)(u:Int):∃W',(Instr.storeAt 146 (.pointer (some ⟨g,i*58,none⟩)) (.agg (fH u (.slice none 0 0) Re.zero))).run ja0 W=.ok () W'/\Out (λb=>b=g) W W'/\Doc W' r g c m (λz=>if z=(i:Int)then .slice none 0 0 else K z) (Tr.set T i ⟨u,[],Re.zero⟩)/\DG r g K T W W' g (λz=>if z=(i:Int)then .slice none 0 0 else K z) (Tr.set T i ⟨u,[],Re.zero⟩):=by
 obtain⟨cur,h1,h2,h3⟩:=h.cur;have hcap:=h.cap;have hsz:=BA u (.slice none 0 0) Re.zero;have hfit:i*58+(fH u (.slice none 0 0) Re.zero).size<=cur.size:=by rw[hsz,h2];omega
 have hst:=x8 h1 (t:=146) (cs:=fH u (.slice none 0 0) Re.zero) (o:=i*58) (by rw[hsz];kernel_rfl) (Q6 _ _ _ _ _) hfit;have hO:Out (λb=>b=g) W (W.setRow g (kN cur (i*58) (fH u (.slice none 0 0) Re.zero))):=(Out.refl _ _).setRow (M:=λb=>b=g) rfl _;have hin:∀j,j<58->(kN cur (i*58) (fH u (.slice none 0 0) Re.zero))[i*58+j]? = (fH u (.slice none 0 0) Re.zero)[j]? := λj hj=>xZ hfit (by rw[hsz];exact hj);refine⟨_,hst,hO,h.put him h1 (h1.setRow _) (tZ hfit) hO (λk hk=>wm hfit (by rw[hsz];omega)) ?_ (λz hz=>⟨Tr.aK _ _ hz,if_neg hz⟩) (λnd' hn' => ?_),hO.mono λb _ q => .inr (.inl q),λb hb => ?_⟩
 . rw[Tr.aP]
   simp only[if_true];refine⟨?_,λnd' e => ?_,λnd' e => ?_,λnd' e j hj => ?_⟩
   . have:=hin 0 ak;rw[Nat.add_zero,mX _ _ _ ak]at this;exact this
   . cases e;have:=hin 1 ak;rw[mX _ _ _ ak]at this;exact this
   . cases e;have:=hin 2 ak;rw[mX _ _ _ ak]at this;exact this
   . cases e;have:=hin (3+j) ak;rw[FC _ _ _ hj]at this;rw[Nat.add_assoc];exact this
 . rw[Tr.aP]at hn';cases hn'
   simp only[if_true];exact KS.nil _
 . rcases hb with e|e|⟨z,zd,hz,e⟩
   . exact .inl (.inl e)
   . exact .inl (.inr (.inl e))
   . by_cases e2:z=(i:Int)
     . subst e2;simp only[if_true]at e;cases e
     . rw[Tr.aK _ _ e2]at hz
       simp only[if_neg e2]at e;exact .inl (.inr (.inr ⟨z,zd,hz,e⟩))
theorem Doc.aaw(h:Doc W r g c m K T)(him:i<m):∃W',(Instr.storeAt 146 (.pointer (some ⟨g,i*58,none⟩)) (.agg iZ)).run ja0 W=.ok () W'/\Out (λb=>b=g) W W'/\Doc W' r g c m K (Tr.del T [(i:Int)])/\DG r g K T W W' g K (Tr.del T [(i:Int)]):=by
 obtain⟨cur,h1,h2,h3⟩:=h.cur;have hcap:=h.cap;have hfit:i*58+iZ.size<=cur.size:=by rw[mW,h2];omega
 have hst:=x8 h1 (t:=146) (cs:=iZ) (o:=i*58) (by rw[mW];kernel_rfl) IB hfit;have hO:Out (λb=>b=g) W (W.setRow g (kN cur (i*58) iZ)):=(Out.refl _ _).setRow (M:=λb=>b=g) rfl _;have hdel:Tr.del T [(i:Int)] i=none:=by simp[Tr.del]
 have hdo:∀z,z≠(i:Int)->Tr.del T [(i:Int)] z=T z:=λz hz=>by simp[Tr.del,hz]
 refine⟨_,hst,hO,h.put him h1 (h1.setRow _) (tZ hfit) hO (λk hk=>wm hfit (by rw[mW];omega)) ?_ (λz hz=>⟨hdo z hz,rfl⟩) (λnd' hn' => ?_),hO.mono λb _ q => .inr (.inl q),λb hb => ?_⟩
 . rw[hdel]
   refine⟨?_,λnd' e=>(by cases e),λnd' e=>(by cases e),λnd' e=>(by cases e)⟩;have:=xZ hfit (j:=0) (by rw[mW];omega);rw[Nat.add_zero]at this;rw[this];rfl
 . rw[hdel]at hn';cases hn'
 . rcases hb with e|e|⟨z,zd,hz,e⟩
   . exact .inl (.inl e)
   . exact .inl (.inr (.inl e))
   . by_cases e2:z=(i:Int)
     . subst e2;rw[hdel]at hz;cases hz
     . rw[hdo z e2]at hz;exact .inl (.inr (.inr ⟨z,zd,hz,e⟩))
end
end Go.Proofs.YtdnggaapcgomhaaGreat.Fix
