/- Proved here: what functions of the program do, in plain numbers (part 44); no conditions but those in sight. -/
import Derived.Test.YtcbcfdihofclkaaGreatQK
import Derived.Test.YtcbcfdihofclkaaGreatQ37
import Derived.Test.YtcbcfdihofclkaaGreatQ41
set_option linter.unusedVariables false
set_option linter.unusedSimpArgs false
set_option linter.unusedSectionVars false
set_option maxRecDepth 100000
namespace Go.Proofs.YtcbcfdihofclkaaGreat.Fix
open Go.ChangeShapes Go.WideShapes Go.ChangeAt Go.RowKit
section
variable {B B':Int->Fw.Bx} (hs:∀z,(B z).sty=(B' z).sty) (hf:∀z,(B z).fl=(B' z).fl) (hi:∀z,(B z).ib=(B' z).ib)
include hs hf hi
theorem aaH(e:Nat):∀(f:Nat) (z:Int),Fw.meet B e f z=Fw.meet B' e f z:=by
 intro f
 induction f with
 | zero=>intro z;simp only[Fw.meet,hs]
 | succ f ih=>intro z;simp only[Fw.meet,hs,hf,hi,ih]
omit hf hi in
theorem OQ(i0:Int)(y:Nat)(k:Int):Fw.FX B i0 y k=Fw.FX B' i0 y k:=by simp only[Fw.FX,hs]
omit hf hi in
theorem Qh(i0:Int)(y:Nat):Fw.wC B i0 y=Fw.wC B' i0 y:=by funext x;simp only[Fw.wC,hs]
omit hf hi in
theorem aaI(i0 r gap:Int)(y:Nat)(ks:List Int):Fw.left B i0 r gap y ks=Fw.left B' i0 r gap y ks:=by
 have e:(λa k=>Fw.wr (a-Fw.FX B i0 y k))=λa k=>Fw.wr (a-Fw.FX B' i0 y k):=by funext a k;rw[OQ hs]
 unfold Fw.left;rw[e]
omit hf hi in
theorem GI(i0 r gap:Int)(y:Nat)(it:Int->Fe.It)(ks:List Int):Fw.mM B i0 r gap y it ks=Fw.mM B' i0 r gap y it ks:=by
 unfold Fw.mM;rw[aaI hs]
omit hf hi in
theorem Ma(i0:Int):Fw.nS B i0=Fw.nS B' i0:=by funext k;simp only[Fw.nS,hs]
omit hf hi in
theorem OT(lay:Int->Int->Int->Int->Int->Fw.Ld)(z i0 i1 high:Int)(ks:List Int):Fw.jw B lay z i0 i1 high ks=Fw.jw B' lay z i0 i1 high ks:=by
 simp only[Fw.jw,Ma hs,GI hs,Qh hs,OQ hs,hs]
omit hf hi in
theorem Mc(lay:Int->Int->Int->Int->Int->Fw.Ld)(z i0 i1 high:Int)(fl:List Int):∀(ps:List (Nat×Nat)) (fst:Bool) (y:Int),Fw.cu B lay z i0 i1 high fl fst y ps=Fw.cu B' lay z i0 i1 high fl fst y ps:=by
 intro ps
 induction ps with
 | nil=>intro fst y;rfl
 | cons p ps ih=>intro fst y;simp only[Fw.cu,OT hs,hs,ih]
theorem aaJ(lay:Int->Int->Int->Int->Int->Fw.Ld)(f:Nat)(z i0 i1:Int):Fw.kind B lay f z i0 i1=Fw.kind B' lay f z i0 i1:=by
 have e1:Fw.Ho B lay z i0 i1=Fw.Ho B' lay z i0 i1:=by
  simp only[Fw.Ho,Mc hs,Ma hs,OQ hs,hs,hf]
 have e2:Fw.gY B z i0=Fw.gY B' z i0:=by funext k;simp only[Fw.gY,hs]
 have e3:Fw.mo B lay z i0 i1=Fw.mo B' lay z i0 i1:=by
  simp only[Fw.mo,e2,GI hs,Qh hs,hs,hf]
 have e4:Fw.uP B lay i0 i1=Fw.uP B' lay i0 i1:=by funext k;simp only[Fw.uP,hs]
 have e5:Fw.pV B lay f z i0 i1=Fw.pV B' lay f z i0 i1:=by
  simp only[Fw.pV,e4,aaH hs hf hi,hs,hf,hi]
 simp only[Fw.kind,e1,e3,e5,hs]
theorem Qi:∀f:Nat,Fw.cont B f=Fw.cont B' f:=by
 intro f
 induction f with
 | zero=>funext z i0 i1;simp only[Fw.cont,hs]
 | succ f ih =>
   funext z i0 i1;have e1:Fw.wB B (Fw.cont B f)=Fw.wB B' (Fw.cont B' f):=by funext a b c d e;rw[ih];simp only[Fw.wB,hs]
   have e2:Fw.mv B i0 i1=Fw.mv B' i0 i1:=by funext x;simp only[Fw.mv,hs]
   simp only[Fw.cont,hf,hs,e1,e2,aaJ hs hf hi]
theorem Xe(f:Nat):Fw.lay B f=Fw.lay B' f:=by
 funext a b c d e;unfold Fw.lay;rw[Qi hs hf hi];simp only[Fw.wB,hs]
theorem aaK(ww wh:Int)(f:Nat)(k:Int)(x:Fw.Ld):BA B ww wh f k x=BA B' ww wh f k x:=by
 simp only[BA,hs,Xe hs hf hi]
theorem OU(f:Nat):Fw.cst B f=Fw.cst B' f:=by
 induction f with
 | zero=>funext z;rfl
 | succ f ih=>funext z;simp only[Fw.cst,hf,ih]
theorem aaL(ha:∀z,∃p:Int->Bool,(B z).ap=(B' z).ap.filter p):∀(f:Nat) (z:Int),jG B f z<=jG B' f z:=by
 intro f
 induction f with
 | zero=>intro z;exact ah _
 | succ f ih =>
   intro z;obtain⟨p,hp⟩:=ha z;simp only[jG];rw[hf,hp,OU hs hf hi,OU hs hf hi];have h1:(((B' z).fl).map (jG B f)).sum<=(((B' z).fl).map (jG B' f)).sum:=zV λk _=>ih k;have h2:(((B' z).ap.filter p).map λk=>Fw.cst B' f k+jG B f k).sum<=(((B' z).ap.filter p).map λk=>Fw.cst B' f k+jG B' f k).sum:=zV λk _=>by have:=ih k;omega
   have h3:∀(g:Int->Nat) (l:List Int),((l.filter p).map g).sum<=(l.map g).sum:=λg l=>by
    induction l with
    | nil=>exact ah _
    | cons k l ih=>rw[List.filter_cons];split<;>simp<;>omega
   have h4:=h3 (λk=>Fw.cst B' f k+jG B' f k) (B' z).ap;omega
end
theorem AO{α:Type}(p:Int->Bool)(g:Int->List α):∀l:List Int,(l.filter p).flatMap g=l.flatMap λk=>if p k=true then g k else []
 | []=>rfl
 | k::l=>by
   rw[List.filter_cons,List.flatMap_cons,<-AO p g l];split<;>simp
theorem AV(p:Fw.Ld->Bool)(g:Int->List Fw.Ld):∀l:List Int,(l.flatMap g).filter p=l.flatMap λk=>(g k).filter p
 | []=>rfl
 | k::l=>by rw[List.flatMap_cons,List.flatMap_cons,List.filter_append,AV p g l]
theorem yS(p:Fw.Ld->Bool)(g:Fw.Ld->List Fw.Ld):∀l:List Fw.Ld,(l.flatMap g).filter p=l.flatMap λk=>(g k).filter p
 | []=>rfl
 | k::l=>by rw[List.flatMap_cons,List.flatMap_cons,List.filter_append,yS p g l]
theorem xO{α β:Type}{g h:α->List β}:∀{l:List α},(∀k∈l,g k=h k)->l.flatMap g=l.flatMap h
 | [],_=>rfl
 | k::l,H=>by rw[List.flatMap_cons,List.flatMap_cons,H k eY,xO λj hj=>H j (by simp[hj])]
def qB(B:Int->Fw.Bx)(i:Int)(z:Int):Fw.Bx:={ B z with ap:=(B z).ap.filter λk=>k != i }
theorem adl{B:Int->Fw.Bx}{i:Int}(hfl:∀z,i ∉ (B z).fl)(h1:(B i).fl=[])(h2:(B i).ap=[])(ww wh:Int):∀(f:Nat) (x:Fw.Ld),x.id≠i->(tl B ww wh f x).filter (λy=>y.id != i)=tl (qB B i) ww wh f x:=by
 have hs:∀z,(qB B i z).sty=(B z).sty:=λz=>rfl;have hf:∀z,(qB B i z).fl=(B z).fl:=λz=>rfl;have hi:∀z,(qB B i z).ib=(B z).ib:=λz=>rfl;intro f
 induction f with
 | zero =>
   intro x hx;have e:((λy:Fw.Ld=>y.id != i) x)=true:=by simpa using hx
   show List.filter _ [x]=[x];rw[List.filter_cons,if_pos e];rfl
 | succ f ih =>
   intro x hx;have e:((λy:Fw.Ld=>y.id != i) x)=true:=by simpa using hx
   rw[tl,tl,List.filter_cons,if_pos e,List.filter_append,yS,AV,hs,Qi hs hf hi];congr 1;congr 1
   . refine xO λk hk=>ih _ ?_
     have hc:=Fw.D8 B (f+1) x.id x.i0 x.i1 (λh=>by omega);have:k.id∈(B x.id).fl:=by rw[<-hc];exact List.mem_map_of_mem hk
     exact λe=>hfl x.id (by rw[<-e];exact this)
   . show _=((B x.id).ap.filter λk=>k != i).flatMap _
     rw[AO];refine xO λk hk => ?_;by_cases e:k=i
     . subst e
       rw[if_neg eY];have hid:(BA B ww wh f k x).id=k:=rfl;rw[aax (by rw[hid];exact h1) (by rw[hid];exact h2)];rw[List.filter_cons,if_neg (by rw[hid];simp)];rfl
     . rw[if_pos (by simpa using e),aaK hs hf hi]
       exact ih _ e
theorem Jf(i:Int){z:Int}(hz:z≠i):∀(l:List Fw.Ld) (g g':Lit->Option Value),g (.int .i64 z)=g' (.int .i64 z)->iZ g (l.filter λy=>y.id != i) (.int .i64 z)=iZ g' l (.int .i64 z):=by
 intro l
 induction l with
 | nil=>intro g g' h;exact h
 | cons x l ih =>
   intro g g' h;rw[List.filter_cons,tO];split
   . rw[tO]
     refine ih _ _ ?_;by_cases e:x.id=z
     . rw[e,jm,jm]
     . rw[jK (I8 (Ne.symm e)),jK (I8 (Ne.symm e)),h]
   . rename_i hx
     have hx:x.id=i:=by simpa using hx
     refine ih _ _ ?_;rw[jK (I8 (by rw[hx];exact hz)),h]
theorem aaM{T T':Tr.T}(E:Ext T T')(H:Tr.WF T):su T' 1 0=su T 1 0:=by
 obtain⟨rd,hrd,hru⟩:=H.root;obtain⟨rd',h1,h2,_⟩:=E 0 rd hrd;simp only[su,hrd,h1,h2]
theorem aaN{T T2:Tr.T}(E:Ext T T2)(H:Tr.WF T)(H2:Tr.WF T2){i u:Int}{s:Re.St}(hi:T i=none)(h2:T2 i=some ⟨u,[],s⟩)(ho:oM s=true)(hon:∀x,T2 x≠none->T x≠none\/x=i) :
  (∀z,Ww T z->qB (iN T2) i z=iN T z)/\(∀z,i ∉ (iN T2 z).fl)/\(iN T2 i).fl=[]/\(iN T2 i).ap=[]:=by
 have hsi:eB T2 i=s:=by unfold eB;rw[h2];rfl
 have hki:bS T2 i=[]:=by unfold bS;rw[h2];rfl
 refine⟨λz hz => ?_,λz hz => ?_,?_,?_⟩
 . obtain⟨rd,hrd,hru⟩:=H.root
   obtain⟨nd,h⟩:=nG H.qy hz;obtain⟨nd',h1,h3,h4,h5⟩:=E z nd h;have e1:bS T2 z=nd'.kids:=by unfold bS;rw[h1];rfl
   have e2:bS T z=nd.kids:=by unfold bS;rw[h];rfl
   have dead:∀k∈nd'.kids,T k=none->k=i:=λk hk hT=>by
    obtain⟨_,q,hq,_⟩:=H2.kid z nd' k h1 hk;rcases hon k (by rw[hq];simp)with e|e
    . exact absurd hT e
    . exact e
   have c1:ny T2 (bS T2 z)=ny T (bS T z):=by
    rw[e1,e2,<-h5];unfold ny;rw[List.filter_filter];refine List.filter_congr λk hk => ?_;cases hT:T k with
    | none=>rw[dead k hk hT,hsi,ho];simp
    | some q=>rw[E.oC hT];simp
   have c2:(oZ T2 (bS T2 z)).filter (λk=>k != i)=oZ T (bS T z):=by
    rw[e1,e2,<-h5];unfold oZ;rw[List.filter_filter,List.filter_filter];refine List.filter_congr λk hk => ?_;cases hT:T k with
    | none=>rw[dead k hk hT];simp
    | some q =>
      have hne:k≠i:=λe=>by rw[e,hi]at hT;cases hT
      rw[E.oC hT];simp[hne]
   have hib:vM T2 z=vM T z:=by
    have e1:RY T2 z=nd.up:=by unfold RY;rw[h1];exact h4
    have e2:RY T z=nd.up:=by unfold RY;rw[h];rfl
    unfold vM;rw[e1,e2,E.oC h];by_cases h0:z=0
    . subst h0
      rw[h]at hrd;injection hrd with hrd;rw[hrd,hru,H.low aG,H2.low aG];rfl
    . obtain⟨p,hp,_⟩:=H.up z nd h h0
      obtain⟨p',hp',_⟩:=E _ p hp;rw[hp,hp',E.oC hp];rfl
   unfold qB iN;rw[c1,c2,E.oC h,hib]
 . have hz:i∈ny T2 (bS T2 z):=hz
   have:=(List.mem_filter.1 hz).2;rw[hsi,ho]at this;simp at this
 . show ny T2 (bS T2 i)=[]
   rw[hki];rfl
 . show oZ T2 (bS T2 i)=[]
   rw[hki];rfl
theorem Xf{T T2:Tr.T}(E:Ext T T2)(H:Tr.WF T){i:Int}(h0:i≠0)(hfl:∀z,i ∉ (iN T2 z).fl)(h1:(iN T2 i).fl=[])(h2:(iN T2 i).ap=[])(ww wh:Int) :
  tl (qB (iN T2) i) ww wh 64 (sF (qB (iN T2) i) ww wh)=(tl (iN T2) ww wh 64 (nH T2 ww wh)).filter (λy=>y.id != i) /\
  (∀z:Int,z≠i->ql T (qB (iN T2) i) ww wh (.int .i64 z)=qA T2 ww wh (.int .i64 z))/\Fw.cst (qB (iN T2) i) 64 0+jG (qB (iN T2) i) 64 0<=Fw.cst (iN T2) 64 0+jG (iN T2) 64 0:=by
 have hs:∀z,(qB (iN T2) i z).sty=(iN T2 z).sty:=λz=>rfl;have hf:∀z,(qB (iN T2) i z).fl=(iN T2 z).fl:=λz=>rfl;have hi:∀z,(qB (iN T2) i z).ib=(iN T2 z).ib:=λz=>rfl;have er:sF (qB (iN T2) i) ww wh=nH T2 ww wh:=by
  unfold sF nH;rw[Xe hs hf hi]
 have et:tl (qB (iN T2) i) ww wh 64 (sF (qB (iN T2) i) ww wh)=(tl (iN T2) ww wh 64 (nH T2 ww wh)).filter (λy=>y.id != i):=by
  rw[er];exact(adl hfl h1 h2 ww wh 64 (nH T2 ww wh) (λe=>h0 e.symm)).symm
 refine⟨et,λz hz => ?_,?_⟩
 . unfold ql qA nT oW
   rw[aaM E H];split
   . rw[et]
     exact Jf i hz _ _ _ rfl
   . rfl
 . have a:=aaL hs hf hi (λz=>⟨_,rfl⟩) 64 0
   rw[OU hs hf hi];omega
end Go.Proofs.YtcbcfdihofclkaaGreat.Fix
namespace Go.Proofs.YtcbcfdihofclkaaGreat.Fix
open Go.ChangeShapes Go.WideShapes Go.ChangeAt Go.RowKit Go.Deep Go.Joins Go.Shelf
theorem Xg{T:Tr.T}(H:Tr.WF T)(hn:(Tr.ord T).length<=40)(hdp:∀x d,Tr.Dp T x d->d<=6){u a:Int}{s:Re.St}(he:Tr.iW T u a=0)(hs:oI (Tr.bU T u a) (Tr.free T) s=0) :
  dG (Tr.bU T u a) (Tr.free T) s (Tr.free T)=some ⟨u,[],s⟩/\Ext T (dG (Tr.bU T u a) (Tr.free T) s)/\(∀x,dG (Tr.bU T u a) (Tr.free T) s x≠none->T x≠none\/x=Tr.free T)/\(∀x d,Tr.Dp (dG (Tr.bU T u a) (Tr.free T) s) x d->d<=8)/\T (Tr.free T)=none/\Tr.free T≠0:=by
 have hx:=H.j5.1.2.1;have hlive:∃p,T u=some p:=by
  unfold Tr.iW at he;cases hu:T u with
  | none=>rw[hu]at he;cases he
  | some p=>exact⟨p,rfl⟩
 obtain⟨p,hu⟩:=hlive;have e1:Tr.bU T u a=Tr.nZ T (Tr.free T) u a.toNat:=by unfold Tr.bU;rw[if_pos he]
 have E1:Ext T (Tr.bU T u a):=(Ext.refl H).bU H u a;have S1:∀y,Tr.bU T u a y=if y=Tr.free T then some ⟨u,[],Re.zero⟩else if y=u then some { p with kids:=Tr.wi p.kids a.toNat (Tr.free T) }else T y:=λy=>by rw[e1];exact Tr.uR hu hx y
 generalize Tr.bU T u a=T1 at *;generalize Tr.free T=id at *;have hne:id≠0:=λe=>by obtain⟨rd,hrd,_⟩:=H.root;rw[e,hrd]at hx;cases hx
 have hs1:T1 id=some ⟨u,[],Re.zero⟩:=by rw[S1,if_pos rfl]
 have q2:dG T1 id s=Tr.set T1 id ⟨u,[],s⟩:=by
  unfold Fix.dG Tr.wD;rw[hs,if_pos rfl,hs1]
 have E2:=E1.sty hx s
 have S2:∀y nd,dG T1 id s y=some nd->T y≠none\/(y=id/\nd=⟨u,[],s⟩):=λy nd h=>by
  exact Z2w
 have hs2:dG T1 id s id=some ⟨u,[],s⟩:=by rw[q2,Tr.aJ]
 refine⟨hs2,E2,λx hx => ?_,λx d h => ?_,hx,hne⟩
 . cases h:dG T1 id s x with
   | none=>exact absurd h hx
   | some nd=>exact(S2 x nd h).imp (λh=>h) λh=>h.1
 . have low:∀x d,T x≠none->Tr.Dp (dG T1 id s) x d->d<=6:=λx d hx h=>by
    cases hT:T x with
    | none=>exact absurd hT hx
    | some nd =>
      obtain⟨d',_,h'⟩:=H.deep x nd hT;have:=(E2.dp h').TN h;have:=hdp x d' h';omega
   obtain⟨nd,hl⟩:=h.live;rcases S2 x nd hl with h1|⟨h1,h2⟩
   . have:=low x d h1 h;omega
   . cases h with
     | root h=>omega
     | step h h0 hd =>
       rw[hl]at h;injection h with h;rw[<-h,h2]at hd;have:=low u _ (by rw[hu];simp) hd;omega
set_option maxHeartbeats 16000000 in
theorem Sv(a0:Option Addr)(jB cap0:Nat)(a1 a2:Int)(a3:Re.St)(a4 a5:Int)(w:World)(w0:ze w a0 jB cap0)(w1:(Lit.int .i64 a1).wf=true)(w3:Fits a3):Calls Tryz.prog 6 #[.slice a0 jB cap0,.int .i64 a1,.int .i64 a2,.agg (cells a3),.int .i64 a4,.int .i64 a5] w λe w'=>e=.returned (.bool true)/\Below w.heap.size w w':=by
 obtain⟨l,hA⟩:=w0.acts;have HF:=Lib.hid w3;have HW1:=Lib.hid (show Wf a1 from w1);clear w0 w1 w3;go_enter Tryz.func6,Tryz.ntmps6
 go_upto_region 1 with(fail)
 have hx0:At (w.alloc (.cells (cells a3) 51)) w.heap.size (.cells (cells a3) 51):=At.new _ _;have hB0:Below w.heap.size w (w.alloc (.cells (cells a3) 51)):=Below.alloc' (Below.refl _ _) _;generalize w.alloc (.cells (cells a3) 51)=wb at *
 go_upto_region 4 with(go_at_call 15;(with_reducible refine(vO _).mono ?_);rintro e w1 ⟨rfl,hb1⟩)
 have HB1:=hB0.trans (hb1.mono hB0.size);have EF:=hx0.keep hb1;have kG:=xM cap0 (hA.after HB1);have hs1:=HB1.size;have lx1:=EF.lt;clear hx0 hB0 hb1 hA
 go_upto_region 5 with(go_at_call 16;(with_reducible refine kG.mono ?_);rintro e w2 ⟨⟨tb,rb,ok,rfl,hok⟩,hb2⟩)
 have HB2:=HB1.trans (hb2.mono hs1);have EG:=EF.keep hb2;have hs2:=hb2.size;clear kG EF HB1 hb2;cases ok with
 | false =>
   exact XV
 | true =>
 by_cases b4:(1048576:Int)<a4
 . exact XV
 by_cases b5:(1048576:Int)<a5
 . exact XV
 have kT:=λX=>xI a3 X;have d1:∀X,Below w2.heap.size w2 X->X.cell? ⟨w.heap.size,1,none⟩=some (.int .i64 (a3.c 1)):=λX h=>(EG.keep h).st 1 aG rfl;have Ce:=EG.lt;cases ht:uw a3
 . exact Z2z
 rw[ht]at kT;by_cases ho:oM a3=true
 case neg =>
  have n2:(a3.c 1==2)=false:=by unfold oM at ho;cases h:a3.c 1==2<;>simp_all
  have n3:(a3.c 1==3)=false:=by unfold oM at ho;cases h:a3.c 1==3<;>simp_all
  have m2:¬ a3.c 1=2:=by simpa using n2
  have m3:¬ a3.c 1=3:=by simpa using n3
  have k2:(a3.c 1 != 2)=true:=by simp[m2]
  have k3:(a3.c 1 != 3)=true:=by simp[m3]
  go_wp2_with (first|(refine aS aU _ rfl rfl EG ?_)|(go_at_call 22;(with_reducible refine(kT _).mono ?_);rintro e w3 ⟨rfl,hb3⟩;have d1:=d1 _ hb3;have Ce:=aR Ce hb3.size))
  go_ret
  exact⟨rfl,HB2.trans (hb3.mono HB2.size)⟩
 case pos =>
 obtain⟨gg,cc,mm,n,L,K,T,two,hn,Sn,hdp⟩:=hok rfl;have g2:=two.good;have M:vP T n:=⟨g2.inv.wf,g2.inv.num,by omega,λx d h=>by have:=hdp x d h;omega,λz nd h=>(Sn z nd h).1⟩;have HM:=Lib.hid M;have HVT:=Lib.hid Sn;have HDP:=Lib.hid hdp;have HG2:=Lib.hid g2;have HO:=Lib.hid ho;have h23:a3.c 1=2\/a3.c 1=3:=by unfold oM at ho;simpa using ho
 clear two M Sn hdp g2 hok ho;rcases h23 with h23|h23
 all_goals
  rw[h23]at d1
  go_upto_region 7 with(first|(refine aS aU _ rfl rfl EG ?_)|(go_at_call 22;(with_reducible refine(kT _).mono ?_);rintro e w3 ⟨rfl,hb3⟩;have d1:=d1 _ hb3;have Ce:=aR Ce hb3.size))
  have HB3:=HB2.trans (hb3.mono HB2.size);have HX3:=EG.keep hb3;have Ij:=Lib.hid (HG2.out.after hb3);have hs3:=aC hs2 hb3.size;clear kT HB2 EG HG2 hb3 d1 Ce h23;have kL0:=yQ Ij.out HM.out a4 a5;by_cases he:Tr.iW T a1 a2=0
  case neg =>
   obtain⟨v,hv⟩:∃v,Tr.iW T a1 a2=v:=⟨_,rfl⟩;obtain⟨v2,hv2⟩:∃v,Tr.og T a1 a2=v:=⟨_,rfl⟩;rw[hv]at he;have hvb:(v==0)=false:=by simpa using he
   have hvn:(v != 0)=true:=by simp[he]
   go_upto_region 8 with(go_at_call 17;(with_reducible refine kL0.mono ?_);rintro e w4 ⟨⟨b1,rfl,Ep,hG1⟩,hb4⟩)
   have hs4:=aC hs3 hb4.size;have kA:=sG ((Ij.out).after hb4) ak hs4 (a:=a2) HW1.out;rw[hv,hv2]at kA;have Ji:=HB3.trans (hb4.mono HB3.size);clear hG1 hb4 Ep;exact Z3t
  case pos =>
  have hI:Tr.og T a1 a2=Tr.free T:=by unfold Tr.og;rw[if_pos he]
  have hfr:=HM.out.wf.j5.1.1;have hfr2:=HM.out.wf.j5.2;rw[HM.out.num]at hfr2;have HOT:=Lib.hid λh=>Xg HM.out.wf (by rw[HM.out.num];omega) HDP.out (s:=a3) he h;obtain⟨H1,hn1'⟩:=HM.out.wf.bU a1 a2 (by rw[HM.out.num];omega);rw[if_pos he,HM.out.num]at hn1';have HV1:Hid (VT (Tr.bU T a1 a2)):=Lib.hid (HVT.out.le (dP.bU _ _ _));obtain⟨id,hid⟩:∃i,Tr.free T=i:=⟨_,rfl⟩;obtain⟨T1,hT1⟩:∃X,Tr.bU T a1 a2=X:=⟨_,rfl⟩;obtain⟨dv,hdv⟩:∃d,Tr.dep T1 id=d:=⟨_,rfl⟩;simp only[hid,hT1]at HOT H1 hn1' HV1 hfr hfr2 hI
  have kA0:∀(W:World) (g:Good W tb L T n w1.heap.size) (h0:w1.heap.size<=W.heap.size),Calls Tryz.prog 23 #[.pointer (some ⟨tb,0,none⟩),.int .i64 a1,.int .i64 a2] W λe w'=>e=.returned (.tuple #[.int .i64 id,.int .i64 0])/\∃L' n',Good w' tb L' T1 n' w1.heap.size/\n'<=n+1/\Grow tb L L' T T1 W w'/\Below w1.heap.size W w':=λW g h0=>by
   have h:=sG g ak h0 (a:=a2) HW1.out;rw[he,hI,hT1]at h;exact h
  by_cases h6:6<dv
  . go_upto_region 8 with(go_at_call 17;(with_reducible refine kL0.mono ?_);rintro e w4 ⟨⟨b1,rfl,Ep,hG1⟩,hb4⟩)
    have kA:=kA0 w4 ((Ij.out).after hb4) (aC hs3 hb4.size);have Ji:=HB3.trans (hb4.mono HB3.size);clear hG1 hb4 Ep
    go_wp2_with (first|(go_at_call 23;(with_reducible refine kA.mono ?_);rintro e w5 ⟨rfl,L1,n1,g5,hn1,EH,hb5⟩;have kD:=xH g5 (z:=id) ((eT _).2 ak);rw[hdv]at kD)|(go_at_call 26;(with_reducible refine kD.mono ?_);rintro e w' ⟨rfl,rfl⟩))
    go_ret
    exact⟨rfl,Ji.trans (hb5.mono hs1)⟩
  have h6b:decide (6<dv)=false:=decide_eq_false h6;by_cases hse:oI T1 id a3=0
  case neg =>
   obtain⟨v,hv⟩:∃v,oI T1 id a3=v:=⟨_,rfl⟩;rw[hv]at hse;have hvb:(v==0)=false:=by simpa using hse
   have hvn:(v != 0)=true:=by simp[hse]
   go_upto_region 8 with(go_at_call 17;(with_reducible refine kL0.mono ?_);rintro e w4 ⟨⟨b1,rfl,Ep,hG1⟩,hb4⟩)
   have kA:=kA0 w4 ((Ij.out).after hb4) (aC hs3 hb4.size);have Ji:=HB3.trans (hb4.mono HB3.size);have HX4:=HX3.keep hb4;have lx4:w.heap.size<w1.heap.size:=lx1;have hs4:=aC hs3 hb4.size;clear hG1 hb4 Ep
   go_wp2_with (first|(refine aS aU _ rfl rfl HX5 ?_)|(go_at_call 23;(with_reducible refine kA.mono ?_);rintro e w5 ⟨rfl,L1,n1,g5,hn1,EH,hb5⟩;have HX5:=aW HX4 lx4 hb5;have kD:=xH g5 (z:=id) ((eT _).2 ak);rw[hdv]at kD;have kS:=sH g5 (aC hs4 hb5.size) (x:=id) ((eT _).2 ak) HF.out;rw[hv]at kS)|(go_at_call 26;(with_reducible refine kD.mono ?_);rintro e w' ⟨rfl,rfl⟩)|(go_at_call 24;(with_reducible refine kS.mono ?_);rintro e w6 ⟨rfl,g6,OM,hb6⟩))
   go_ret
   exact⟨rfl,Ji.trans ((hb5.trans hb6).mono hs1)⟩
  case pos =>
  obtain⟨t1,t2,t3,t4,t5,t6⟩:=HOT.out hse;have H2:=H1.alike (mP T1 id a3);have adn:=(congrArg List.length (zU H1 (mP T1 id a3))).trans hn1';have HV2:Hid (VT (dG T1 id a3)):=Lib.hid (HV1.out.sty _ ht);obtain⟨T2,XG⟩:∃X,dG T1 id a3=X:=⟨_,rfl⟩;simp only[XG]at t1 t2 t3 t4 H2 adn HV2;have M2:vP T2 (n+1):=⟨H2,adn,by omega,t4,λz nd h=>(HV2.out z nd h).1⟩;obtain⟨hag,hfl,hf1,hf2⟩:=aaN t2 HM.out.wf H2 t5 t1 HO.out t3;obtain⟨et,eG,ebd⟩:=Xf t2 HM.out.wf t6 hfl hf1 hf2 (max a4 0) (max a5 0);have sub:((tl (qB (iN T2) id) (max a4 0) (max a5 0) 64 (sF (qB (iN T2) id) (max a4 0) (max a5 0))).map (·.id)).Sublist ((tl (iN T2) (max a4 0) (max a5 0) 64 (nH T2 (max a4 0) (max a5 0))).map (·.id)):=by
   rw[et];exact List.filter_sublist.map _
  have tn:=M2.qm (max a4 0) (max a5 0);have kL:=zW (qB (iN T2) id) Ij.out HM.out hag a4 a5 (Nat.lt_of_le_of_lt ebd M2.bd) (tn.1.sublist sub) (λz hz=>tn.2 z (sub.subset hz));obtain⟨N1,hN1⟩:∃N,(nT T (qB (iN T2) id) (max a4 0) (max a5 0)).length=N:=⟨_,rfl⟩;obtain⟨G1,hG1⟩:∃G,ql T (qB (iN T2) id) (max a4 0) (max a5 0)=G:=⟨_,rfl⟩;obtain⟨N2,hN2⟩:∃N,(oW T2 (max a4 0) (max a5 0)).length=N:=⟨_,rfl⟩;obtain⟨G2,hG2⟩:∃G,qA T2 (max a4 0) (max a5 0)=G:=⟨_,rfl⟩;have ahf:Hid (∀k,G1 k=none\/∃y,G1 k=some (rcv y)):=Lib.hid λk=>by rw[<-hG1];exact xJ _ _ _ _ k
  have ahg:Hid (∀k,G2 k=none\/∃y,G2 k=some (rcv y)):=Lib.hid λk=>by rw[<-hG2];exact xJ T2 (iN T2) _ _ k
  rw[hN1,hG1]at kL;rw[hG1,hG2]at eG;have HEG:=Lib.hid eG;have HNG:=Lib.hid (show(oW T2 (max a4 0) (max a5 0)).length=N2/\qA T2 (max a4 0) (max a5 0)=G2 from⟨hN2,hG2⟩);have SX:=Lib.hid M2;clear kL0 HOT hI H1 hn1' HV1 t1 t2 t3 t4 t5 t6 H2 adn HV2 M2 hag hfl hf1 hf2 et eG ebd sub tn hN1 hG1 hN2 hG2
  go_upto_region 8 with(go_at_call 17;(with_reducible refine kL.mono ?_);rintro e w4 ⟨⟨b1,rfl,Ep,hG1⟩,hb4⟩)
  have kA:=kA0 w4 ((Ij.out).after hb4) (aC hs3 hb4.size);have Ji:=HB3.trans (hb4.mono HB3.size);have HX4:=HX3.keep hb4;have lx4:w.heap.size<w1.heap.size:=lx1;have hs4:=aC hs3 hb4.size;have ho1:¬ owned tb L T b1:=λq=>absurd (Ij.out.inv.rep.lt q) ak;have OL:=Lib.hid hG1;clear kL kA0 HB3 HX3 Ij hb4 hG1 Ep
  go_upto_region 11 with(first|(refine aS aU _ rfl rfl HX5 ?_)|(go_at_call 23;(with_reducible refine kA.mono ?_);rintro e w5 ⟨rfl,L1,n1,g5,hn1,EH,hb5⟩;have HX5:=aW HX4 lx4 hb5;have kD:=xH g5 (z:=id) ((eT _).2 ak);rw[hdv]at kD;have kS:=sH g5 (aC hs4 hb5.size) (x:=id) ((eT _).2 ak) HF.out;rw[hse,XG]at kS)|(go_at_call 26;(with_reducible refine kD.mono ?_);rintro e w' ⟨rfl,rfl⟩)|(go_at_call 24;(with_reducible refine kS.mono ?_);rintro e w6 ⟨rfl,g6,OM,hb6⟩))
  have HB6:=Ji.trans ((hb5.trans hb6).mono hs1);have hs6:=aC hs4 (aC hb5.size hb6.size);have Ce:=OL.out.lt;have Sr:=Lib.hid ((OL.out.out ho1 EH.1).out (EH.off Ce ho1) OM.1);have hnn:n1=n+1:=by rw[<-g6.inv.num];exact SX.out.num
  subst hnn;have SY:=Lib.hid g6;have kL2:=yQ SY.out SX.out a4 a5;rw[HNG.out.1,HNG.out.2]at kL2;clear kA kD kS g5 g6 EH OM hb5 hb6 OL Ji HX4 HX5 ho1 Ce hse HNG
  go_upto_region 12 with(go_at_call 17;(with_reducible refine kL2.mono ?_);rintro e w9 ⟨⟨b2,rfl,adk,hG2⟩,fT⟩)
  have HB9:=HB6.trans (fT.mono (aC hs1 hs6));have HG9:=Lib.hid (SY.out.after fT);have OO:=Lib.hid (show GM 3 w9 b1 N1 G1/\GM 3 w9 b2 N2 G2 from⟨Sr.out.keep fT,hG2⟩);have kO:=xF HG9.out;have UK:=aC hs6 fT.size;clear kL2 HB6 SY Sr fT hG2 adk
  go_upto_region 13 with(go_at_call 18;(with_reducible refine kO.mono ?_);rintro e wa ⟨⟨v,rfl,hk⟩,hba⟩;obtain⟨A,c,rfl,hI,-⟩:=hk.row.ints)
  have HBa:=HB9.trans (hba.mono (aC hs1 UK));have BH:=Lib.hid (show GM 3 wa b1 N1 G1/\GM 3 wa b2 N2 G2 from⟨OO.out.1.keep hba,OO.out.2.keep hba⟩);have HI:=Lib.hid hI
  have HOR:Hid (∀x∈Tr.ord T2,Wf x):=Lib.hid λx hx=>by
   obtain⟨nd,h⟩:=SX.out.wf.gy.1 hx;have:=SX.out.wf.range x nd h;exact(eT _).2 ak
  clear kO HB9 HG9 OO hba hI hk;obtain⟨o,ho⟩:∃o,Tr.ord T2=o:=⟨_,rfl⟩;rw[ho]at HI HOR ⊢;have hol:o.length<=64:=by rw[<-ho,SX.out.num];exact SX.out.few
  obtain⟨no,hno⟩:∃k,o.length=k:=⟨_,rfl⟩;rw[hno]at hol ⊢;have HNO:=Lib.hid hno;have hsa:=HBa.size;clear ho hno;go_wp2
  go_loopw [22] (λi wr=>∃j:Nat,j<=no/\i=.int .i64 (j:Int)/\Below wa.heap.size wa wr) (λi _=>no-(intOf i).toNat)
  case atStart=>exact⟨0,by omega,rfl,Below.refl _ _⟩
  case round =>
   obtain⟨j,hj,rfl,hbr⟩:=hrel;have hsr:=hbr.size;by_cases hjn:j<no
   . have hjz:(j:Int)<(no:Int):=by omega
     obtain⟨ba,oa,rfl,XH,cx⟩:=(HI.out.after hbr).at_ (k:=j) Z5e;have hxw:Wf (o.getD j 0):=HOR.out _ Z50;obtain⟨x,hx⟩:∃x,o.getD j 0=x:=⟨_,rfl⟩;rw[hx]at cx hxw;obtain⟨p0,p1,p2,p3,okk,hlk⟩:=OJ G1 (ahf.out _) hxw;obtain⟨s0,s1,s2,s3,ah9,hlk2⟩:=OJ G2 (ahg.out _) hxw;have VD:=Lib.hid λX (h:Below wa.heap.size wa X)=>hlk G1 rfl X b1 N1 (BH.out.1.keep h);have ahh:=Lib.hid λX (h:Below wa.heap.size wa X)=>hlk2 G2 rfl X b2 N2 (BH.out.2.keep h);have HLE:=Lib.hid λ(hne:x≠id) X (h:Below wa.heap.size wa X)=>hlk G2 (HEG.out x hne).symm X b2 N2 (BH.out.2.keep h);have k1:=VD.out wr hbr;clear hlk hlk2 hxw hx
     go_upto_region 17 with(fail)
     have tY:Below wr.heap.size wr (wr.alloc (.cells #[.int .i64 p0,.int .i64 p1,.int .i64 p2,.int .i64 p3] 33)):=Below.alloc' (Below.refl _ _) _;have pF:At (wr.alloc (.cells #[.int .i64 p0,.int .i64 p1,.int .i64 p2,.int .i64 p3] 33)) wr.heap.size (.cells #[.int .i64 p0,.int .i64 p1,.int .i64 p2,.int .i64 p3] 33):=At.new _ _;generalize wr.alloc (.cells #[.int .i64 p0,.int .i64 p1,.int .i64 p2,.int .i64 p3] 33)=wd at *;have hbd:=hbr.trans (tY.mono hsr);have IY:=(tY.cell (p:=⟨ba,oa+j,none⟩) XH).trans cx;have Je:ba<wd.heap.size:=by have:=tY.size;omega
     generalize hRb:wr.heap.size=R1 at *;clear k1 cx hRb tY hbr XH hsr;by_cases hxi:x=id
     . subst hxi
       have k2:=ahh.out wd hbd
       go_upto_region 18 with(fail)
       have yR:Below wd.heap.size wd (wd.alloc (.cells #[.int .i64 s0,.int .i64 s1,.int .i64 s2,.int .i64 s3] 33)):=Below.alloc' (Below.refl _ _) _;generalize wd.alloc (.cells #[.int .i64 s0,.int .i64 s1,.int .i64 s2,.int .i64 s3] 33)=we at *;have SS:=(yR.cell (p:=⟨ba,oa+j,none⟩) Je).trans IY;have ado:ba<we.heap.size:=by have:=yR.size;omega
       have hbe:Below wa.heap.size wa we:=hbd.trans (yR.mono (by have:=hbd.size;omega));clear k2 IY yR pF hbd Je;exact Z3c
     . have k2:=HLE.out hxi wd hbd
       go_upto_region 18 with(fail)
       have yR:Below wd.heap.size wd (wd.alloc (.cells #[.int .i64 p0,.int .i64 p1,.int .i64 p2,.int .i64 p3] 33)):=Below.alloc' (Below.refl _ _) _;have hR2:At (wd.alloc (.cells #[.int .i64 p0,.int .i64 p1,.int .i64 p2,.int .i64 p3] 33)) wd.heap.size (.cells #[.int .i64 p0,.int .i64 p1,.int .i64 p2,.int .i64 p3] 33):=At.new _ _;generalize wd.alloc (.cells #[.int .i64 p0,.int .i64 p1,.int .i64 p2,.int .i64 p3] 33)=we at *;have Xc:=pF.keep yR;have SS:=(yR.cell (p:=⟨ba,oa+j,none⟩) Je).trans IY;have ado:ba<we.heap.size:=by have:=yR.size;omega
       have hbe:Below wa.heap.size wa we:=hbd.trans (yR.mono (by have:=hbd.size;omega));generalize wd.heap.size=R2 at *;obtain⟨l1,c10,c11,c12,c13⟩:=At.four Xc;obtain⟨l2,c20,c21,c22,c23⟩:=At.four hR2;have ah':(x==id)=false:=by simpa using hxi
       clear k2 IY yR pF Xc hR2 hbd Je;exact Z3c
   . have hjz:¬ (j:Int)<(no:Int):=by omega
     go_wp2
     go_ret
     exact⟨rfl,HBa.trans (hbr.mono hsa)⟩
end Go.Proofs.YtcbcfdihofclkaaGreat.Fix
