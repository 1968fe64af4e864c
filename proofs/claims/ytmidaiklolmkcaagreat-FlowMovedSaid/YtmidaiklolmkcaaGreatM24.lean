/- What functions of the program do, in plain numbers, part 24; no conditions. -/
import Derived.Test.YtmidaiklolmkcaaGreatM23
set_option linter.unusedVariables false
set_option linter.unusedSimpArgs false
set_option linter.unusedSectionVars false
set_option maxRecDepth 100000
set_option maxHeartbeats 16000000
namespace Go.Proofs.YtmidaiklolmkcaaGreat.Fix
open Go.ChangeShapes Go.WideShapes Go.ChangeAt Go.RowKit
def sh(i dx dy:Int)(x:Fw.Ld):Fw.Ld:={ x with a0:=if x.id=i then Fw.wr (x.a0+dx)else x.a0,a1:=if x.id=i then Fw.wr (x.a1+dy)else x.a1 }
theorem Jv{i dx dy:Int}{x:Fw.Ld}(h:x.id≠i):sh i dx dy x=x:=by unfold sh;rw[if_neg h,if_neg h]
theorem agK(x y:Int):Fw.wr (Fw.wr x+y)=Fw.wr (x+y):=by unfold Fw.wr;omega
structure wQ(B B':Int->Fw.Bx)(i dx dy:Int):Prop where
 fl:∀z,(B' z).fl=(B z).fl
 ap:∀z,(B' z).ap=(B z).ap
 ib:∀z,(B' z).ib=(B z).ib
 sty:∀z,z≠i->(B' z).sty=(B z).sty
 c:∀j,j≠1->j≠23->j≠24->j≠29->j≠30->(B' i).sty.c j=(B i).sty.c j
 b:(B' i).sty.b=(B i).sty.b
 was:(B i).sty.c 1=0
 now:(B' i).sty.c 1=1
 k3:(B' i).sty.c 29=1
 n3:(B' i).sty.c 30=dx
 k0:(B' i).sty.c 23=1
 n0:(B' i).sty.c 24=dy
 off:∀z,i ∉ (B z).ap
 dx : -1048576<=dx/\dx<=1048576
 dy : -1048576<=dy/\dy<=1048576
section
variable {B B':Int->Fw.Bx} {i dx dy:Int} (m:wQ B B' i dx dy)
include m
theorem wQ.at_{j:Nat}(h1:j≠1)(h2:j≠23)(h3:j≠24)(h4:j≠29)(h5:j≠30)(z:Int):(B' z).sty.c j=(B z).sty.c j:=by
 by_cases e:z=i
 . subst e;exact m.c j h1 h2 h3 h4 h5
 . rw[m.sty z e]
theorem wQ.bt(z:Int):(B' z).sty.b=(B z).sty.b:=by
 by_cases e:z=i
 . subst e;exact m.b
 . rw[m.sty z e]
theorem wQ.ed{j:Nat}(hj:j<=3)(z:Int):Fw.ed (B' z).sty j=Fw.ed (B z).sty j:=by
 unfold Fw.ed;rw[m.at_ (j:=31+j) aj aj aj aj aj,m.at_ (j:=35+j) aj aj aj aj aj]
theorem QG(y e:Nat):Fw.sd y e<=3:=by unfold Fw.sd;(repeat' split)<;>omega
theorem wQ.iB(y:Nat)(z:Int):Fw.iB (B' z).sty y=Fw.iB (B z).sty y:=by
 unfold Fw.iB;rw[m.ed (QG m _ _),m.ed (QG m _ _)]
theorem wQ.mg(y e:Nat)(r:Int)(z:Int):Fw.mg (B' z).sty y e r=Fw.mg (B z).sty y e r:=by
 have h:=QG m y e;unfold Fw.mg;rw[m.at_ (j:=15+2*Fw.sd y e) aj aj aj aj aj,m.at_ (j:=16+2*Fw.sd y e) aj aj aj aj aj]
theorem wQ.Cc(y:Nat)(r:Int)(z:Int):Fw.Cc (B' z).sty y r=Fw.Cc (B z).sty y r:=by
 unfold Fw.Cc;rw[m.mg,m.mg]
theorem wQ.zJ{y:Nat}(hy:y<=1)(r:Int)(z:Int):Fw.zJ (B' z).sty y r=Fw.zJ (B z).sty y r:=by
 unfold Fw.zJ;rw[m.at_ (j:=3+2*y) aj aj aj aj aj]
theorem wQ.Tz{y:Nat}(hy:y<=1)(r n:Int)(z:Int):Fw.Tz (B' z).sty y r n=Fw.Tz (B z).sty y r n:=by
 unfold Fw.Tz;rw[m.at_ (j:=3+2*y) aj aj aj aj aj,m.at_ (j:=4+2*y) aj aj aj aj aj]
theorem wQ.lim{y:Nat}(hy:y<=1)(n r:Int)(z:Int):Fw.lim (B' z).sty y n r=Fw.lim (B z).sty y n r:=by
 unfold Fw.lim;rw[m.at_ (j:=7+2*y) aj aj aj aj aj,m.at_ (j:=8+2*y) aj aj aj aj aj,m.at_ (j:=11+2*y) aj aj aj aj aj,m.at_ (j:=12+2*y) aj aj aj aj aj]
theorem wQ.jk{y:Nat}(hy:y<=1)(r0 r t:Int)(z:Int):Fw.jk (B' z).sty y r0 r t=Fw.jk (B z).sty y r0 r t:=by
 unfold Fw.jk;rw[m.iB,m.zJ hy,m.Tz hy,m.lim hy,m.lim hy,m.Cc]
theorem wQ.JR(r0:Int)(z:Int):Fw.JR (B' z).sty r0=Fw.JR (B z).sty r0:=by
 unfold Fw.JR;rw[m.iB,m.lim aj,m.at_ (j:=53) aj aj aj aj aj]
theorem wQ.opn(e:Nat)(z:Int):Fw.opn (B' z).sty (B' z).ib e=Fw.opn (B z).sty (B z).ib e:=by
 unfold Fw.opn;rw[m.ib,m.ed (QG m _ _),m.at_ (j:=0) aj aj aj aj aj,m.at_ (j:=2) aj aj aj aj aj,m.at_ (j:=5) aj aj aj aj aj,m.at_ (j:=9) aj aj aj aj aj]
theorem wQ.EX{y:Nat}(hy:y<=1)(b r:Int)(z:Int):Fw.EX (B' z).sty y b r=Fw.EX (B z).sty y b r:=by
 unfold Fw.EX
 rw[m.at_ (j:=41) aj aj aj aj aj,m.at_ (j:=42) aj aj aj aj aj,m.at_ (j:=7+2*y) aj aj aj aj aj,m.at_ (j:=8+2*y) aj aj aj aj aj,m.at_ (j:=11+2*y) aj aj aj aj aj,m.at_ (j:=12+2*y) aj aj aj aj aj,
  m.at_ (j:=39) aj aj aj aj aj,m.at_ (j:=40) aj aj aj aj aj]
theorem wQ.meet(e:Nat):∀(f:Nat) (z:Int),Fw.meet B' e f z=Fw.meet B e f z:=by
 intro f
 induction f with
 | zero=>intro z;simp only[Fw.meet,m.mg]
 | succ f ih=>intro z;simp only[Fw.meet,m.mg,m.opn,m.fl,ih]
theorem wQ.wJ(i0:Int)(y:Nat)(k:Int):Fw.wJ B' i0 y k=Fw.wJ B i0 y k:=by simp only[Fw.wJ,m.Cc,m.iB]
theorem wQ.jr(i0:Int)(y:Nat):Fw.jr B' i0 y=Fw.jr B i0 y:=by funext x;simp only[Fw.jr,m.Cc]
theorem wQ.left(i0 r gap:Int)(y:Nat)(ks:List Int):Fw.left B' i0 r gap y ks=Fw.left B i0 r gap y ks:=by
 have e:(λa k=>Fw.wr (a-Fw.wJ B' i0 y k))=λa k=>Fw.wr (a-Fw.wJ B i0 y k):=by funext a k;rw[m.wJ]
 unfold Fw.left;rw[e]
theorem wQ.iY(i0 r gap:Int)(y:Nat)(it:Int->Fe.It)(ks:List Int):Fw.iY B' i0 r gap y it ks=Fw.iY B i0 r gap y it ks:=by
 unfold Fw.iY;rw[m.left]
theorem wQ.jG(i0:Int):Fw.jG B' i0=Fw.jG B i0:=by
 funext k;unfold Fw.jG;rw[m.EX aj,m.at_ (j:=3) aj aj aj aj aj,m.at_ (j:=4) aj aj aj aj aj,m.at_ (j:=53) aj aj aj aj aj]
theorem wQ.eX(lay:Int->Int->Int->Int->Int->Fw.Ld)(z i0 i1 high:Int)(ks:List Int):Fw.eX B' lay z i0 i1 high ks=Fw.eX B lay z i0 i1 high ks:=by
 have h43:=m.at_ (j:=43) aj aj aj aj aj;have h44:=m.at_ (j:=44) aj aj aj aj aj;have h46:=m.at_ (j:=46) aj aj aj aj aj;have hf:=m.zJ (y:=1) aj;have hl:=m.lim (y:=1) aj;simp only[Fw.eX,m.jG,m.iY,m.jr,m.wJ,m.iB,m.mg,h43,h44,h46,hf,hl]
theorem wQ.aY(lay:Int->Int->Int->Int->Int->Fw.Ld)(z i0 i1 high:Int)(fl:List Int):∀(ps:List (Nat×Nat)) (fst:Bool) (y:Int),Fw.aY B' lay z i0 i1 high fl fst y ps=Fw.aY B lay z i0 i1 high fl fst y ps:=by
 have h46:=m.at_ (j:=46) aj aj aj aj aj;intro ps
 induction ps with
 | nil=>intro fst y;rfl
 | cons p ps ih=>intro fst y;simp only[Fw.aY,m.eX,h46,ih]
theorem wQ.kind(lay:Int->Int->Int->Int->Int->Fw.Ld)(f:Nat)(z i0 i1:Int):Fw.kind B' lay f z i0 i1=Fw.kind B lay f z i0 i1:=by
 have h0:=m.at_ (j:=0) aj aj aj aj aj;have h17:=m.at_ (j:=17) aj aj aj aj aj;have h18:=m.at_ (j:=18) aj aj aj aj aj;have h21:=m.at_ (j:=21) aj aj aj aj aj;have h22:=m.at_ (j:=22) aj aj aj aj aj;have h43:=m.at_ (j:=43) aj aj aj aj aj;have h44:=m.at_ (j:=44) aj aj aj aj aj;have h46:=m.at_ (j:=46) aj aj aj aj aj;have hf0:=m.zJ (y:=0) aj;have hi1:=m.EX (y:=1) aj;have e1:Fw.yC B' lay z i0 i1=Fw.yC B lay z i0 i1:=by
  simp only[Fw.yC,m.aY,m.jG,m.wJ,m.bt,h46,m.fl]
 have e2:Fw.fq B' z i0=Fw.fq B z i0:=by funext k;simp only[Fw.fq,hf0,h44,m.JR]
 have e3:Fw.iE B' lay z i0 i1=Fw.iE B lay z i0 i1:=by
  simp only[Fw.iE,e2,m.iY,m.jr,m.iB,m.mg,h43,h44,h46,hi1,m.fl]
 have e4:Fw.jR B' lay i0 i1=Fw.jR B lay i0 i1:=by funext k;simp only[Fw.jR,h17,h18,h21,h22]
 have e5:Fw.lH B' lay f z i0 i1=Fw.lH B lay f z i0 i1:=by
  simp only[Fw.lH,e4,m.meet,m.opn,m.fl]
 simp only[Fw.kind,e1,e3,e5,h0]
theorem wQ.iU{ct ct':Int->Int->Int->List Fw.Ld×Int}(h:∀z i0 i1,(ct' z i0 i1).2=(ct z i0 i1).2):Fw.iU B' ct'=Fw.iU B ct:=by
 funext z r0 r1 t0 t1;have h0:=m.jk (y:=0) aj;have h1:=m.jk (y:=1) aj;have h2:=m.lim (y:=1) aj;simp only[Fw.iU,h0,h1,h2,h,m.iB]
theorem wQ.mv(i0 i1:Int)(x:Fw.Ld):Fw.mv B' i0 i1 x=sh i dx dy (Fw.mv B i0 i1 x):=by
 have hid:(Fw.mv B i0 i1 x).id=x.id:=by unfold Fw.mv;split<;>rfl
 by_cases e:x.id=i
 . have hx:=m.dx
   have hy:=m.dy;have q0:Fw.wG (B' x.id).sty 0 i0 x.a0=Fw.wr (x.a0+dx):=by
    have f0:Fw.BU (B' x.id).sty 0 0 i0=true:=by show Fx.jg ((B' x.id).sty.c 29) i0=true;rw[e,m.k3];rfl
    have n0:Fw.ins (B' x.id).sty 0 0 i0=dx:=by
     show Fx.len ((B' x.id).sty.c 29) ((B' x.id).sty.c 30) i0 0=dx;rw[e,m.k3,m.n3,Fx.Na rfl,Fx.fM aj aj]
    unfold Fw.wG;rw[f0,if_pos rfl,n0]
   have q1:Fw.wG (B' x.id).sty 1 i1 x.a1=Fw.wr (x.a1+dy):=by
    have f0:Fw.BU (B' x.id).sty 1 0 i1=true:=by show Fx.jg ((B' x.id).sty.c 23) i1=true;rw[e,m.k0];rfl
    have n0:Fw.ins (B' x.id).sty 1 0 i1=dy:=by
     show Fx.len ((B' x.id).sty.c 23) ((B' x.id).sty.c 24) i1 0=dy;rw[e,m.k0,m.n0,Fx.Na rfl,Fx.fM aj aj]
    unfold Fw.wG;rw[f0,if_pos rfl,n0]
   have w:(B x.id).sty.c 1=0:=by rw[e];exact m.was
   have n:(B' x.id).sty.c 1=1:=by rw[e];exact m.now
   have e1:Fw.mv B i0 i1 x=x:=by unfold Fw.mv;rw[if_neg aj]
   rw[e1];unfold Fw.mv sh;rw[if_pos n,q0,q1,if_pos e,if_pos e]
 . rw[Jv (by rw[hid];exact e)]
   unfold Fw.mv;rw[m.sty _ e]
theorem wQ.cont:∀(f:Nat) (z i0 i1:Int),Fw.cont B' f z i0 i1=((Fw.cont B f z i0 i1).1.map (sh i dx dy),(Fw.cont B f z i0 i1).2):=by
 have h54:=m.at_ (j:=54) aj aj aj aj aj;intro f
 induction f with
 | zero=>intro z i0 i1;simp only[Fw.cont,h54,List.map_nil]
 | succ f ih =>
   intro z i0 i1;have el:=m.iU (ct:=Fw.cont B f) (ct':=Fw.cont B' f) λz i0 i1=>by rw[ih]
   have em:Fw.mv B' i0 i1=λx=>sh i dx dy (Fw.mv B i0 i1 x):=funext λx=>m.mv i0 i1 x;simp only[Fw.cont,m.fl,h54,el,m.kind,em];split
   . rfl
   . rw[List.map_map];rfl
theorem wQ.lay(f:Nat):Fw.lay B' f=Fw.lay B f:=m.iU λz i0 i1=>by rw[m.cont]
theorem wQ.Qt(z:Int)(k:Fw.Ld):Qt (B' z).sty (sh i dx dy k)=sh i dx dy (Qt (B z).sty k):=by
 unfold Fix.Qt sh;rw[m.ed aj,m.ed aj];by_cases e:k.id=i
 . simp only[if_pos e,agK]
   rw[show k.a0+dx+Fw.ed (B z).sty 3=k.a0+Fw.ed (B z).sty 3+dx by omega,show k.a1+dy+Fw.ed (B z).sty 0=k.a1+Fw.ed (B z).sty 0+dy by omega]
 . simp only[if_neg e]
theorem wQ.rG(ww wh:Int)(f:Nat){k:Int}(hk:k≠i)(x:Fw.Ld):rG B' ww wh f k (sh i dx dy x)=rG B ww wh f k x:=by
 have hp:uL (B k).sty (B' x.id).sty ww wh x.s0 x.s1=uL (B k).sty (B x.id).sty ww wh x.s0 x.s1:=by
  unfold uL;rw[m.at_ (j:=38) aj aj aj aj aj,m.at_ (j:=35) aj aj aj aj aj,m.at_ (j:=36) aj aj aj aj aj,m.at_ (j:=37) aj aj aj aj aj,m.at_ (j:=34) aj aj aj aj aj,m.at_ (j:=31) aj aj aj aj aj]
 have e1:(sh i dx dy x).id=x.id:=rfl;have e2:(sh i dx dy x).s0=x.s0:=rfl;have e3:(sh i dx dy x).s1=x.s1:=rfl;simp only[Fix.rG,m.sty k hk,e1,e2,e3,hp,m.lay]
theorem wQ.tl(ww wh:Int):∀(f:Nat) (x:Fw.Ld),tl B' ww wh f (sh i dx dy x)=(tl B ww wh f x).map (sh i dx dy):=by
 intro f
 induction f with
 | zero=>intro x;rfl
 | succ f ih =>
   intro x;have e1:(sh i dx dy x).id=x.id:=rfl;have e2:(sh i dx dy x).i0=x.i0:=rfl;have e3:(sh i dx dy x).i1=x.i1:=rfl;rw[Fix.tl,Fix.tl,e1,e2,e3,m.cont,m.ap,List.map_cons,List.map_append];have h1:((Fw.cont B (f+1) x.id x.i0 x.i1).1.map (sh i dx dy)).flatMap (λk=>Fix.tl B' ww wh f (Fix.Qt (B' x.id).sty k))=((Fw.cont B (f+1) x.id x.i0 x.i1).1.flatMap λk=>Fix.tl B ww wh f (Fix.Qt (B x.id).sty k)).map (sh i dx dy):=by
    rw[List.flatMap_map,List.map_flatMap];exact congrArg (λg=>List.flatMap g _) (funext λk=>by rw[m.Qt,ih])
   have h2:(B x.id).ap.flatMap (λk=>Fix.tl B' ww wh f (Fix.rG B' ww wh f k (sh i dx dy x)))=((B x.id).ap.flatMap λk=>Fix.tl B ww wh f (Fix.rG B ww wh f k x)).map (sh i dx dy):=by
    rw[List.map_flatMap];have key:∀l:List Int,i ∉ l->l.flatMap (λk=>Fix.tl B' ww wh f (Fix.rG B' ww wh f k (sh i dx dy x)))=l.flatMap λk=>(Fix.tl B ww wh f (Fix.rG B ww wh f k x)).map (sh i dx dy):=by
     intro l
     induction l with
     | nil=>intro _;rfl
     | cons k l ihl =>
       intro hi;have hk:k≠i:=λe=>hi (by simp[e]);rw[List.flatMap_cons,List.flatMap_cons,ihl λh=>hi (by simp[h]),m.rG ww wh f hk,<-ih,Jv (x:=Fix.rG B ww wh f k x) (show k≠i from hk)]
    exact key _ (m.off _)
   show sh i dx dy x::(_++_)=sh i dx dy x::_;rw[h1,h2]
end
theorem Tg{T1 T2:Tr.T}{i dx dy:Int}{nd:Tr.Nd}{sB:Re.St}(h1:T1 i=some nd)(h2:∀z,T2 z=if z=i then some { nd with sty:=sB }else T1 z)
  (hc:∀j,j≠1->j≠23->j≠24->j≠29->j≠30->sB.c j=nd.sty.c j) (hb:sB.b=nd.sty.b) (was:nd.sty.c 1=0) (now:sB.c 1=1) (k3:sB.c 29=1) (n3:sB.c 30=dx) (k0:sB.c 23=1) (n0:sB.c 24=dy)
  (hx : -1048576<=dx/\dx<=1048576) (hy : -1048576<=dy/\dy<=1048576):wQ (kg T1) (kg T2) i dx dy:=by
 have s1:dw T1 i=nd.sty:=by unfold dw;rw[h1];rfl
 have s2:dw T2 i=sB:=by unfold dw;rw[h2,if_pos rfl];rfl
 have s3:∀z,z≠i->dw T2 z=dw T1 z:=λz hz=>by unfold dw;rw[h2,if_neg hz]
 have k:∀z,dF T2 z=dF T1 z:=λz=>by
  unfold dF;rw[h2];split
  . rename_i e;rw[e,h1];rfl
  . rfl
 have u:∀z,upT T2 z=upT T1 z:=λz=>by
  unfold upT;rw[h2];split
  . rename_i e;rw[e,h1];rfl
  . rfl
 have c0:∀z,(dw T2 z).c 0=(dw T1 z).c 0:=λz=>by
  by_cases e:z=i
  . rw[e,s1,s2];exact hc 0 aj aj aj aj aj
  . rw[s3 z e]
 have o:∀z,ny (dw T2 z)=ny (dw T1 z):=λz=>by
  by_cases e:z=i
  . rw[e,s1,s2];unfold ny;rw[was,now];rfl
  . rw[s3 z e]
 have lv:∀z,(T2 z).isSome=(T1 z).isSome:=λz=>by
  rw[h2];split
  . rename_i e;rw[e,h1];rfl
  . rfl
 have ib:∀z,ze T2 z=ze T1 z:=λz=>by unfold ze;rw[u,c0,o,lv]
 exact{
  fl:=λz=>by show nC T2 (dF T2 z)=nC T1 (dF T1 z);rw[k];unfold nC;simp only[c0,o]
  ap:=λz=>by show pY T2 (dF T2 z)=pY T1 (dF T1 z);rw[k];unfold pY;simp only[c0,o]
  ib:=ib
  sty:=s3
  c:=λj a b c d e=>by show(dw T2 i).c j=(dw T1 i).c j;rw[s1,s2];exact hc j a b c d e
  b:=by show(dw T2 i).b=(dw T1 i).b;rw[s1,s2];exact hb
  was:=by show(dw T1 i).c 1=0;rw[s1];exact was
  now:=by show(dw T2 i).c 1=1;rw[s2];exact now
  k3:=by show(dw T2 i).c 29=1;rw[s2];exact k3
  n3:=by show(dw T2 i).c 30=dx;rw[s2];exact n3
  k0:=by show(dw T2 i).c 23=1;rw[s2];exact k0
  n0:=by show(dw T2 i).c 24=dy;rw[s2];exact n0
  off:=λz hz=>by
   have h:=(List.mem_filter.1 (show i∈pY T1 (dF T1 z)from hz)).2;rw[s1]at h;unfold ny at h;rw[was]at h;simp at h
  dx:=hx
  dy:=hy }
theorem Pp{T1 T2:Tr.T}{i dx dy:Int}(m:wQ (kg T1) (kg T2) i dx dy){n1 n2:Nat}(M1:xS T1 n1)(M2:xS T2 n2)(h32:n1<=32)(hv:VT T1)(h0:i≠0){ww wh:Int}(hw:0<=ww/\ww<=1048576)(hh:0<=wh/\wh<=1048576)(z:Int) :
  (z≠i/\pF T2 ww wh (.int .i64 z)=pF T1 ww wh (.int .i64 z))\/(z=i/\pF T1 ww wh (.int .i64 z)=none/\pF T2 ww wh (.int .i64 z)=none) \/
  (z=i/\∃p0 p1 p2 p3:Int,pF T1 ww wh (.int .i64 z)=some (.agg #[.int .i64 p0,.int .i64 p1,.int .i64 p2,.int .i64 p3])/\pF T2 ww wh (.int .i64 z)=some (.agg #[.int .i64 (p0+dx),.int .i64 (p1+dy),.int .i64 p2,.int .i64 p3])/\Ab p0 1000000000000/\Ab p1 1000000000000):=by
 have hsh:uH T2 1 0=uH T1 1 0:=by
  have c0:=m.at_ (j:=0) aj aj aj aj aj 0;have c0:(dw T2 0).c 0=(dw T1 0).c 0:=c0;obtain⟨r1,h1,u1⟩:=M1.wf.root;obtain⟨r2,h2,u2⟩:=M2.wf.root;unfold dw at c0;rw[h1,h2]at c0;have c0:r2.sty.c 0=r1.sty.c 0:=c0;have d1:=M1.wf.low (show(-1:Int)<0 by decide);have d2:=M2.wf.low (show(-1:Int)<0 by decide);simp only[uH,h1,h2,c0,u1,u2]
 have er:sK T2 ww wh=sh i dx dy (sK T1 ww wh):=by
  unfold sK;rw[m.lay,Jv];exact λe=>h0 e.symm
 have eL:qB T2 ww wh=(qB T1 ww wh).map (sh i dx dy):=by
  unfold qB;rw[hsh,er,m.tl];split
  . rfl
  . rfl
 have hn1:((qB T1 ww wh).map (·.id)).Nodup:=by
  unfold qB;split
  . exact(M1.zl ww wh).1
  . exact .nil
 have El:((qB T1 ww wh).map (sh i dx dy)).map (·.id)=(qB T1 ww wh).map (·.id):=by rw[List.map_map];rfl
 by_cases hm:z∈(qB T1 ww wh).map (·.id)
 . obtain⟨x,hx,rfl⟩:=List.mem_map.1 hm
   have g1:pF T1 ww wh (.int .i64 x.id)=some (rcv x):=by unfold pF;exact sM _ _ x hn1 hx
   have g2:pF T2 ww wh (.int .i64 x.id)=some (rcv (sh i dx dy x)):=by
    unfold pF;rw[eL];exact sM _ _ (sh i dx dy x) (by rw[El];exact hn1) (List.mem_map_of_mem hx)
   by_cases e:x.id=i
   . refine .inr (.inr ⟨e,Fx.cut x.a0,Fx.cut x.a1,Fx.cut x.s0,Fx.cut x.s1,g1,?_,?_⟩)
     . obtain⟨_,_,a0,a1⟩:=QF M1.wf M1.num h32 hv hw hh x hx
       have TA:=m.dx;have hdy:=m.dy;rw[g2];unfold rcv sh;unfold Ab at a0 a1;rw[if_pos e,if_pos e,cO aj,cO aj,Fx.fM (n:=x.a0+dx) aj aj,Fx.fM (n:=x.a1+dy) aj aj,Fx.fM (n:=x.a0) aj aj,Fx.fM (n:=x.a1) aj aj]
     . obtain⟨_,_,a0,a1⟩:=QF M1.wf M1.num h32 hv hw hh x hx
       exact⟨(qC a0).le aj,(qC a1).le aj⟩
   . refine .inl ⟨e,?_⟩
     rw[g1,g2,Jv e]
 . have g1:pF T1 ww wh (.int .i64 z)=none:=by unfold pF;rw[wD _ _ z hm]
   have g2:pF T2 ww wh (.int .i64 z)=none:=by
    unfold pF;rw[eL,wD _ _ z (by rw[El];exact hm)]
   by_cases e:z=i
   . exact .inr (.inl ⟨e,g1,g2⟩)
   . exact .inl ⟨e,by rw[g1,g2]⟩
section
variable {w:World} {t n:Nat} {L:Lay} {T:Tr.T}
theorem MI(h:fV w t L T n)(hr:∀nd,T 0=some nd->nd.up = -1){z:Int}{d:Nat}(hd:Tr.Dp T z d){nd:Tr.Nd}(hT:T z=some nd)(ks:List Int)(hks:nd.kids=ks)(hk:∀x∈ks,∃xd,T x=some xd)(hl:ks.length<=5000):Calls Tryz.prog 10 #[.pointer (some ⟨t,0,none⟩),.int .i64 z] w λe w'=>(∃v,e=.returned v/\w'.ownsRow w.heap.size 3 1 v (if uH T (d+1) z=true then nC T ks else []).length ((if uH T (d+1) z=true then nC T ks else []).map (Value.int .i64)))/\Below w.heap.size w w':=by
 have key:=vQ h hr hd;have key2:=λX (hb:Below w.heap.size w X)=>GQ (h.after hb) hT ks hks hk hl;clear h hr hd hT hks hk hl;cases hs:uH T (d+1) z
 . rw[hs]at key
   clear hs key2;show Calls _ _ _ _ λe w'=>(∃v,e=.returned v/\w'.ownsRow w.heap.size 3 1 v 0 [])/\_;go_enter Tryz.func10,Tryz.ntmps10
   go_wp2_with (go_at_call 11;(with_reducible refine key.mono ?_);rintro e w1 ⟨rfl,hb1⟩)
   go_ret
   exact⟨⟨_,rfl,World.ownsRow_nil _ _ _ _⟩,hb1⟩
 . rw[hs]at key
   clear hs;show Calls _ _ _ _ λe w'=>(∃v,e=.returned v/\w'.ownsRow w.heap.size 3 1 v (nC T ks).length ((nC T ks).map (Value.int .i64)))/\_;go_enter Tryz.func10,Tryz.ntmps10
   go_wp2_with (first|(go_at_call 11;(with_reducible refine key.mono ?_);rintro e w1 ⟨rfl,hb1⟩)|(go_at_call 29;(with_reducible refine(key2 _ hb1).mono ?_);rintro e w2 ⟨⟨v,u,rfl,hv,hu,-⟩,hb2⟩))
   go_ret
   exact⟨⟨_,rfl,fH hv hb1.size⟩,Below.ay hb1 aD hb2⟩
end
theorem Pq(n:Nat)(a b c d a' b' c' d':Int)(w:World):(Op.equalIn (n+1+1) 39 (.agg #[.int .i64 a,.int .i64 b,.int .i64 c,.int .i64 d]) (.agg #[.int .i64 a',.int .i64 b',.int .i64 c',.int .i64 d'])).run Tryz.prog w=.ok (decide (a=a')&&decide (b=b')&&decide (c=c')&&decide (d=d')) w:=by
 have hi:=run_equalIn_int (P:=Tryz.prog) w n 3 .i64 .i64;have hr:List.range' 0 4=[0,1,2,3]:=rfl;have hs:Tryz.t3.size=1:=by kernel_rfl
 have hu:Tryz.prog.underlying 3=some (.int .i64):=Tryz.underlying3;unfold Op.equalIn;by_cases h1:a=a'<;>by_cases h2:b=b'<;>by_cases h3:c=c'<;>by_cases h4:d=d'<;>simp[run_underlying Tryz.underlying39,sizeOf,hr,hs,part,hi _ _ hu,h1,h2,h3,h4]
theorem Jw(a b c d a' b' c' d':Int)(w:World):(binOp .eql 39 (.agg #[.int .i64 a,.int .i64 b,.int .i64 c,.int .i64 d]) (.agg #[.int .i64 a',.int .i64 b',.int .i64 c',.int .i64 d'])).run Tryz.prog w=.ok (.bool (decide (a=a')&&decide (b=b')&&decide (c=c')&&decide (d=d'))) w:=by
 rw[run_eql_struct,show(10000:Nat)=9998+1+1 from rfl,Pq];rfl
theorem FR(a b c d a' b' c' d':Int)(w:World):(binOp .eql 51 (.agg #[.int .i64 a,.int .i64 b,.int .i64 c,.int .i64 d]) (.agg #[.int .i64 a',.int .i64 b',.int .i64 c',.int .i64 d'])).run Tryz.prog w=.ok (.bool (decide (a=a')&&decide (b=b')&&decide (c=c')&&decide (d=d'))) w:=by
 rw[run_eql_struct];by_cases h1:a=a'<;>by_cases h2:b=b'<;>by_cases h3:c=c'<;>by_cases h4:d=d'<;>go_simp<;>simp[h1,h2,h3,h4]
theorem MJ(w:World):Calls Tryz.prog 5 #[] w λe w'=>e=.returned (.bool true)/\Below w.heap.size w w':=by
 have hbs:∀X,(Instr.build 46 #[(26,.agg #[.int .i64 30,.int .i64 20]),(11,.agg #[.int .i64 1,.int .i64 2,.int .i64 3,.int .i64 4])]).run Tryz.prog X=.ok (.agg (cells MU)) X:=λX=>by kernel_rfl
 have hb2:∀X,(Instr.build 44 #[(0,.int .i64 30),(1,.int .i64 20)]).run Tryz.prog X=.ok (.agg #[.int .i64 30,.int .i64 20]) X:=λX=>by kernel_rfl
 have hb4:∀X,(Instr.build 39 #[(0,.int .i64 1),(1,.int .i64 2),(2,.int .i64 3),(3,.int .i64 4)]).run Tryz.prog X=.ok (.agg #[.int .i64 1,.int .i64 2,.int .i64 3,.int .i64 4]) X:=λX=>by kernel_rfl
 have hbr:∀X,(Instr.build 51 #[(2,.int .i64 100),(3,.int .i64 24)]).run Tryz.prog X=.ok (.agg #[.int .i64 0,.int .i64 0,.int .i64 100,.int .i64 24]) X:=λX=>by kernel_rfl
 go_enter Tryz.func5,Tryz.ntmps5
 go_upto_region 4 with(go_at_call 14;(with_reducible refine(Mr w).mono ?_);rintro e w1 ⟨⟨t,rfl,L0,g0⟩,hb0⟩)
 have hs0:=hb0.size;have kA:=adN g0 aj hs0;clear g0
 go_upto_region 5 with(go_at_call 15;(with_reducible refine kA.mono ?_);rintro e w2 ⟨rfl,L1,n1,g1,hn1,hbA⟩)
 clear kA;have hs1:w.heap.size<=w2.heap.size:=aJ hs0 hbA.size;have kS:=vR g1 hs1 (x:=1) ((iX _).2 aj) adT;rw[Xn,aa5]at kS
 go_upto_region 6 with(go_at_call 13;refine Calls.mono (show _ from kS) ?_;rintro e w3 ⟨rfl,g2,-, hbS⟩)
 clear kS;have hs2:w.heap.size<=w3.heap.size:=aJ hs1 hbS.size;have em1:max (100:Int) 0=100:=by decide
 have em2:max (50:Int) 0=50:=by decide
 have kL:=Xh g2.inv.rep g2.inv.wf (λz nd h=>(Qx z nd h).1) (λz nd h=>(Qx z nd h).2) 100 50 (by have:=adS;unfold maxLen;omega) (by rw[em1,em2];have:=agr;unfold maxLen;omega) (by have:=adU;unfold maxLen;omega);rw[em1,em2]at kL;clear em1 em2
 go_upto_region 7 with(go_at_call 7;(with_reducible refine kL.mono ?_);rintro e w4 ⟨⟨b,nr,rfl,gb,hG,hnr⟩,hbL⟩)
 clear kL;obtain⟨x0,x1,hl,i0,i1,v0,v1⟩:=adR;have hnd:([x0,x1].map (·.id)).Nodup:=by simp[i0,i1]
 have hG2:pF Ey 100 50=jA (λ_=>none) [x0,x1]:=by unfold pF;rw[hl]
 rw[hG2]at hG;have hq0:jA (λ_=>none) [x0,x1] (.int .i64 0)=some (rcv x0):=by
  have h:=sM [x0,x1] (λ_=>none) x0 hnd eZ
  rwa [i0]at h
 have hq1:jA (λ_=>none) [x0,x1] (.int .i64 1)=some (rcv x1):=by
  have h:=sM [x0,x1] (λ_=>none) x1 hnd eZ
  rwa [i1]at h
 have w0:Wf 0:=by rw[iX];omega
 have w1':Wf 1:=by rw[iX];omega
 have hn2:nr=2:=by
  have h1:=hG.ge (l:=[0,1]) aH (λz hz=>by
   simp only[List.mem_cons,List.not_mem_nil,or_false]at hz;rcases hz with rfl|rfl
   . exact⟨w0,by rw[hq0];rfl⟩
   . exact⟨w1',by rw[hq1];rfl⟩)
  rw[hl]at hnr;simp at h1 hnr;omega
 subst hn2;have hk0:=hG.look mU Tryz.underlying28 (z:=.agg #[.int .i64 0,.int .i64 0,.int .i64 0,.int .i64 0]) jD (mJ w0);have hk1:=hG.look mU Tryz.underlying28 (z:=.agg #[.int .i64 0,.int .i64 0,.int .i64 0,.int .i64 0]) jD (mJ w1');rw[hq0,Option.getD_some,v0]at hk0;rw[hq1,Option.getD_some,v1]at hk1;have hln:=λty=>hG.len Tryz.underlying28 ty;have g4:=g2.after hbL;have hs3:w.heap.size<=w4.heap.size:=aJ hs2 hbL.size;have hT0:Ey 0=some ⟨-1,[1],Re.zero⟩:=rfl;have hd0:Tr.Dp Ey 0 0:=.root hT0;have hd1:Tr.Dp Ey 1 1:=.step (nd:=⟨0,[],MU⟩) rfl aH hd0
 have kF:=MI g4.inv.rep (λnd h=>by rw[hT0]at h;injection h with h;rw[<-h]) hd0 hT0 [1] rfl (λx hx=>by
  simp only[List.mem_cons,List.not_mem_nil,or_false]at hx;subst hx
  exact⟨⟨0,[],MU⟩,rfl⟩) aH
 rw[aa6,if_pos rfl,Xo]at kF
 have kF:Calls Tryz.prog 10 _ w4 λe w'=>(∃g c,e=.returned (.slice (some ⟨g,0,none⟩) 1 c))/\Below w4.heap.size w4 w':=kF.mono λe w' h=>by
  obtain⟨⟨v,rfl,hown⟩,hb⟩:=h;have ho:w'.ownsRow w4.heap.size 3 1 v (0+1) ([1].map (.int .i64)):=hown;obtain⟨g,c,rfl⟩:=ownsRow_succ ho;exact⟨⟨g,c,rfl⟩,hb⟩
 have kSh:=λX (h:Below w4.heap.size w4 X)=>vQ (g4.after h).inv.rep (λnd h=>by rw[hT0]at h;injection h with h;rw[<-h]) hd1;simp only[show uH Ey (1+1) 1=true from aa7]at kSh;have kSt:=λX (h:Below w4.heap.size w4 X)=>oC (g4.after h).inv.rep (z:=1) w1';simp only[show(Ey 1).elim Re.zero (·.sty)=MU from rfl]at kSt;have hed:=λX=>Dx MU X;have e0:Fw.ed MU 0=1:=by decide
 have e1:Fw.ed MU 1=2:=by decide
 have e2:Fw.ed MU 2=3:=by decide
 have e3:Fw.ed MU 3=4:=by decide
 simp only[e0,e1,e2,e3]at hed;have agL:Below w.heap.size w w4:=((hb0.trans hbA).trans hbS).trans (hbL.mono hs2);have er:=FR 0 0 100 24 0 0 100 24;have ef:=Jw 1 2 3 4 1 2 3 4;clear e0 e1 e2 e3 hG hq0 hq1 hG2 hl hnd g2 g1 hbA hbS hb0 gb hnr v0 v1 i0 i1 hT0 hd0 hd1
 go_wp2_with (first|(go_at_call 10;(with_reducible refine kF.mono ?_);rintro e w5 ⟨⟨gv,cv,rfl⟩,hb5⟩)|(go_at_call 11;(with_reducible refine(kSh _ hb5).mono ?_);rintro e w6 ⟨rfl,hb6⟩)|(go_at_call 9;(with_reducible refine(kSt _ (hb5.trans (hb6.mono hb5.size))).mono ?_);rintro e w7 ⟨rfl,wX⟩)|(go_at_call 16;(with_reducible refine(hed _).mono ?_);rintro e w8 ⟨rfl,wW⟩))
 go_ret
 refine⟨rfl,?_⟩;have h1:=hb5.size;have h2:=hb6.size;have h3:=wX.size;exact agL.trans (((hb5.mono hs3).trans (hb6.mono aj)).trans ((wX.mono aj).trans (wW.mono aj)))
theorem Ti(p:Int->Bool){x:Int}(h:p x=false)(l:List Int)(i:Nat):(Tr.wi l i x).filter p=l.filter p:=by
 unfold Tr.wi;rw[List.filter_append,List.filter_cons,if_neg (by rw[h];decide),<-List.filter_append,List.take_append_drop]
theorem XU{T:Tr.T}{x y:Int}(s:Re.St)(h:y≠x):Tr.yE T x s y=T y:=by
 unfold Tr.yE;cases T x with
 | none=>rfl
 | some q=>exact Tr.aK _ _ h
def Ext(T T':Tr.T):Prop:=∀z nd,T z=some nd->∃nd',T' z=some nd'/\nd'.sty=nd.sty/\nd'.up=nd.up/\nd'.kids.filter (λk=>(T k).isSome)=nd.kids
section
variable {T T':Tr.T}
theorem Ext.refl(H:Tr.WF T):Ext T T:=λz nd h=>⟨nd,h,rfl,rfl,List.filter_eq_self.2 λk hk=>by
 obtain⟨_,q,hq,_⟩:=H.kid z nd k h hk
 rw[hq];rfl⟩
theorem Ext.dead(E:Ext T T'){x:Int}(h:T' x=none):T x=none:=by
 cases hx:T x with
 | none=>rfl
 | some nd=>obtain⟨nd',h',_⟩:=E x nd hx;rw[h]at h';cases h'
theorem Ext.add(E:Ext T T'){x u:Int}{i:Nat}{p:Tr.Nd}(hu:T' u=some p)(hx:T' x=none):Ext T (Tr.pK T' x u i):=λz nd h=>by
 obtain⟨nd',h1,h2,h3,h4⟩:=E z nd h;have hzx:z≠x:=λe=>by rw[e,hx]at h1;cases h1
 rw[Tr.Dh hu hx z,if_neg hzx];by_cases e:z=u
 . subst e
   rw[hu]at h1;injection h1 with h1;subst h1;rw[if_pos rfl];exact⟨_,rfl,h2,h3,by rw[<-h4];exact Ti _ (by rw[E.dead hx];rfl) _ _⟩
 . rw[if_neg e]
   exact⟨nd',h1,h2,h3,h4⟩
theorem Ext.jE(E:Ext T T')(H:Tr.WF T')(u a:Int):Ext T (Tr.jE T' u a):=by
 unfold Tr.jE;split
 . rename_i he
   unfold Tr.nD at he;cases hu:T' u with
   | none=>rw[hu]at he;cases he
   | some p=>exact E.add hu H.Ch.1.2.1
 . exact E
theorem Ext.sty(E:Ext T T'){x:Int}(hx:T x=none)(s:Re.St):Ext T (jv T' x s):=by
 unfold Fix.jv;split
 . intro z nd h
   have hzx:z≠x:=λe=>by rw[e,hx]at h;cases h
   rw[XU s hzx];exact E z nd h
 . exact E
variable (E:Ext T T') (H:Tr.WF T) (H':Tr.WF T') (hid:∀z nd' k,T z≠none->T' z=some nd'->k∈nd'.kids->T k=none->(dw T' k).c 0=3)
include E
include H H' hid
end
theorem Ext.dp{T T':Tr.T}(E:Ext T T'){x:Int}{d:Nat}(h:Tr.Dp T x d):Tr.Dp T' x d:=by
 induction h with
 | root h=>obtain⟨nd',h1,_⟩:=E _ _ h;exact .root h1
 | step h h0 _ ih =>
   obtain⟨nd',h1,_,h3,_⟩:=E _ _ h;exact .step h1 h0 (by rw[h3];exact ih)
end Go.Proofs.YtmidaiklolmkcaaGreat.Fix
namespace Go.Proofs.YtmidaiklolmkcaaGreat.Fix
open Go.ChangeShapes Go.WideShapes Go.ChangeAt Go.RowKit Go.Deep Go.Joins Go.Shelf
theorem Grow.off{W W':World}{t:Nat}{L L':Lay}{T T':Tr.T}(k:Grow t L L' T T' W W'){b:Nat}(hb:b<W.heap.size)(ho:¬ owned t L T b):¬ owned t L' T' b:=λh=>(k.2 b h).elim ho λq=>absurd q aj
theorem ad8(G:Lit->Option Value){x:Int}(hf:G (.int .i64 x)=none\/∃y,G (.int .i64 x)=some (rcv y))(hx:Wf x):∃(p0 p1 p2 p3:Int) (ok:Bool),∀G':Lit->Option Value,G' (.int .i64 x)=G (.int .i64 x)->∀(X:World) (b n:Nat),GM 3 X b n G' ->
  (Instr.lookup 28 (.map (some b)) (.int .i64 x) true).run Tryz.prog X=.ok (.tuple #[.agg #[.int .i64 p0,.int .i64 p1,.int .i64 p2,.int .i64 p3],.bool ok]) X:=by
 rcases hf with h|⟨y,h⟩
 . refine⟨0,0,0,0,false,λG' hG X b n g => ?_⟩
   exact Z3p
 . refine⟨Fx.cut y.a0,Fx.cut y.a1,Fx.cut y.s0,Fx.cut y.s1,true,λG' hG X b n g => ?_⟩
   exact Z3p
def QH(s:Re.St):Re.St:=⟨λi=>if i=1 then 0 else s.c i,s.b⟩
def rlS(s:Re.St):Re.St:=⟨λi=>if i=1 then 1 else s.c i,s.b⟩
def Pv(s:Re.St)(dx dy:Int):Re.St:=⟨λi=>if i=1 then 1 else if i=23 then 1 else if i=24 then dy else if i=29 then 1 else if i=30 then dx else s.c i,s.b⟩
theorem XV(s:Re.St):(cells s).setIfInBounds 1 (.int .i64 0)=cells (QH s):=ng Z53 λj _ hj=>by unfold cell QH;simp[hj]
theorem XW(s:Re.St):(cells s).setIfInBounds 1 (.int .i64 1)=cells (rlS s):=ng Z53 λj _ hj=>by unfold cell rlS;simp[hj]
theorem XY(s:Re.St)(dx dy:Int):(((((cells s).setIfInBounds 1 (.int .i64 1)).setIfInBounds 29 (.int .i64 1)).setIfInBounds 30 (.int .i64 dx)).setIfInBounds 23 (.int .i64 1)).setIfInBounds 24 (.int .i64 dy)=cells (Pv s dx dy):=by
 rw[XW];rw[ng (t:=⟨λi=>if i=1 then 1 else if i=29 then 1 else s.c i,s.b⟩) (i:=29) Z53 (λj _ hj=>by unfold cell rlS;simp[hj])];rw[ng (t:=⟨λi=>if i=1 then 1 else if i=29 then 1 else if i=30 then dx else s.c i,s.b⟩) (i:=30) Z53 (λj _ hj=>by unfold cell;simp[hj])];rw[ng (t:=⟨λi=>if i=1 then 1 else if i=23 then 1 else if i=29 then 1 else if i=30 then dx else s.c i,s.b⟩) (i:=23) Z53 (λj _ hj=>by unfold cell;simp[hj])];exact ng Z53 λj _ hj=>by unfold cell Pv;simp[hj]
theorem ad9(s:Re.St)(dx dy:Int):Pv (QH s) dx dy=Pv s dx dy:=by
 unfold Pv QH;congr 1;funext i;by_cases h:i=1<;>simp[h]
theorem XZ{s:Re.St}(h:Fits s){dx dy:Int}(hx : -1048576<=dx/\dx<=1048576)(hy : -1048576<=dy/\dy<=1048576):Fits (Pv s dx dy):=λi h5 hb=>by
 have w0:∀x:Int,-1048576<=x/\x<=1048576->(Lit.int .i64 x).wf=true:=λx hx=>(iX x).2 aj;show(Lit.int .i64 (if i=1 then 1 else if i=23 then 1 else if i=24 then dy else if i=29 then 1 else if i=30 then dx else s.c i)).wf=true
 (repeat' split)
 . exact w0 1 aj
 . exact w0 1 aj
 . exact w0 dy hy
 . exact w0 1 aj
 . exact w0 dx hx
 . exact h i h5 hb
theorem MK{s:Re.St}(h:Fits s):Fits (QH s):=λi h5 hb=>by
 show(Lit.int .i64 (if i=1 then 0 else s.c i)).wf=true;split
 . exact(iX 0).2 aj
 . exact h i h5 hb
theorem X0(s:Re.St):nZ (QH s)=nZ s:=by
 unfold nZ;simp[Re.lens,QH]
theorem ad'{s:Re.St}(h:Re.valid s=true/\nZ s=true){dx dy:Int}(hx : -1048576<=dx/\dx<=1048576)(hy : -1048576<=dy/\dy<=1048576):Re.valid (Pv s dx dy)=true/\nZ (Pv s dx dy)=true:=by
 obtain⟨h1,h2⟩:=h
 have v:∀x:Int,-1048576<=x/\x<=1048576->Fx.valid 1 x=true/\Jm 1 x=true:=λx hx=>by
  have e:Fx.cut x=x:=Fx.fM aj aj;constructor
  . unfold Fx.valid;rw[if_neg aH,if_pos rfl,e];simp
  . unfold Jm;simp;omega
 have vx:=v dx hx;have vy:=v dy hy;unfold Re.valid Re.gD Re.CW Re.xD Re.lens Re.sizes at h1 ⊢;unfold nZ Re.lens at h2 ⊢;simp only[List.all_cons,List.all_nil,Bool.and_true,Bool.and_eq_true]at h1 h2 ⊢;simp only[Pv]at *;simp only[Nat.reduceEqDiff,Nat.reduceAdd,if_true,if_false,reduceIte,vx,vy,and_true,true_and]at *
 simp_all [Re.inn]
theorem Cx(G:Lit->Option Value){x:Int}(hx:Wf x)(r:Option (Int×Int×Int×Int))(h:G (.int .i64 x)=r.map λp => .agg #[.int .i64 p.1,.int .i64 p.2.1,.int .i64 p.2.2.1,.int .i64 p.2.2.2]){X:World}{b n:Nat}(g:GM 3 X b n G) :
  (Instr.lookup 28 (.map (some b)) (.int .i64 x) true).run Tryz.prog X=.ok (.tuple #[.agg #[.int .i64 (r.getD (0,0,0,0)).1,.int .i64 (r.getD (0,0,0,0)).2.1,.int .i64 (r.getD (0,0,0,0)).2.2.1,.int .i64 (r.getD (0,0,0,0)).2.2.2],.bool r.isSome]) X:=by
 have k:=g.look_ok mU Tryz.underlying28 (z:=.agg #[.int .i64 0,.int .i64 0,.int .i64 0,.int .i64 0]) jD (mJ hx);rw[h]at k;cases r with
 | none=>exact k
 | some p=>exact k
theorem EJ(s:Re.St)(W:World):(Instr.field 46 (.agg (cells s)) 1).run Tryz.prog W=.ok (.int .i64 (s.c 1)) W:=by kernel_rfl
theorem abr{T:Tr.T}(h:zi T)(z:Int):Fits ((T z).elim Re.zero (·.sty)):=by
 cases hT:T z with
 | none=>exact Af
 | some nd=>exact h z nd hT
theorem ML(a0:Option Addr)(um cap0:Nat)(a1 a2 a3 a4 a5:Int)(w:World)(w0:Mk w a0 um cap0)(w1:(Lit.int .i64 a1).wf=true):Calls Tryz.prog 4 #[.slice a0 um cap0,.int .i64 a1,.int .i64 a2,.int .i64 a3,.int .i64 a4,.int .i64 a5] w λe w'=>e=.returned (.bool true)/\Below w.heap.size w w':=by
 obtain⟨l,hA⟩:=w0.acts;have HW1:=ah (show Wf a1 from w1);clear w0 w1;go_enter Tryz.func4,Tryz.ntmps4
 go_upto_region 4 with(go_at_call 5;(with_reducible refine(MJ _).mono ?_);rintro e w1 ⟨rfl,hb1⟩)
 have kG:=Pf cap0 (hA.after hb1);have hs1:=hb1.size;clear hA
 go_upto_region 5 with(go_at_call 6;(with_reducible refine kG.mono ?_);rintro e w2 ⟨⟨tb,rb,ok,rfl,hok⟩,hb2⟩)
 have HB2:=hb1.trans (hb2.mono hs1);have hs2:=hb2.size;clear kG hb1 hb2;cases ok with
 | false =>
   exact Z3m
 | true =>
 by_cases b4:(1048576:Int)<a4
 . exact Z3m
 by_cases b5:(1048576:Int)<a5
 . exact Z3m
 by_cases c1:a2 < -1048576
 . exact Z3m
 by_cases c2:(1048576:Int)<a2
 . exact Z3m
 by_cases c3:a3 < -1048576
 . exact Z3m
 by_cases c4:(1048576:Int)<a3
 . exact Z3m
 by_cases h0:a1=0
 . subst h0
   exact Z3m
 have h0b:(a1==0)=false:=by simpa using h0
 obtain⟨gg,cc,mm,n,L,K,T,two,hn,hvt,hdp⟩:=hok rfl;have g2:=two.good;have M:xS T n:=⟨g2.inv.wf,g2.inv.num,by omega,λx d h=>by have:=hdp x d h;omega,λz nd h=>(hvt z nd h).1⟩;have HM:=ah M;have HVT:=ah hvt;have HG2:=ah g2;have kS:=oC g2.inv.rep HW1.out;obtain⟨s,hs⟩:=aA ((T a1).elim Re.zero (·.sty));have HFS:Hid (Fits s):=ah (by rw[<-hs];exact abr g2.fit a1);rw[hs]at kS;have HS:=ah hs;clear two M hvt hdp g2 hok hs
 go_upto_region 8 with(first|(refine dn aX rfl ?_)|(refine eP aX rfl ?_)|(refine bq aX _ rfl rfl xX ?_)|(refine eT aX _ _ rfl rfl rfl xX ?_)|(refine dJ aX _ _ rfl rfl rfl xX ?_)|(go_at_call 9;(with_reducible refine kS.mono ?_);rintro e w3 ⟨rfl,hb3⟩))
 obtain⟨bs,hbs⟩:=aA w3.heap.size;generalize hW:World.setRow _ _ _=w4;have A4:At w4 bs (.cells (cells s) 46):=hW▸hbs▸At.setRow (At.new _ _) _;have hB4:Below w2.heap.size w2 w4:=hW▸bW (Below.alloc' hb3 _) hb3.size _;have aea:w2.heap.size<=bs:=hbs▸hb3.size;rw[hbs];have lb4:=A4.lt;have f1:=A4.st 1 aH rfl;have z1:=A4.thaw 1;clear hW kS hb3 hbs
 go_upto_region 9 with(fail)
 generalize hW:World.setCell _ _ _=w5;have A5:At w5 bs (.cells (cells (QH s)) 46):=by rw[<-hW,<-XV];exact A4.set 1 _
 have p9:Below w2.heap.size w2 w5:=hW▸Below.setCell hB4 aea _;have TW:=ah (HG2.out.after p9);have MF:=HB2.trans (p9.mono HB2.size);have hs5:=aJ hs2 p9.size;have ajy:=aJ HB2.size aea;have ho5:¬ owned tb L T bs:=λq=>absurd (HG2.out.inv.rep.lt q) aj;have kH:=λX (h:Below w5.heap.size w5 X)=>gP (TW.out.after h).inv.rep HW1.out;have kS:=λX (h:Below w5.heap.size w5 X)=>oC (TW.out.after h).inv.rep HW1.out;clear hW f1 z1 A4 lb4 hB4 p9 HG2 HB2 aea;cases hT:T a1 with
 | none =>
   rw[hT]at kH;have kH:=kH w5 aF;change Calls _ _ _ _ (λe w'=>e=.returned (.bool false)/\w5=w')at kH
   go_wp2_with (go_at_call 12;(with_reducible refine kH.mono ?_);rintro e w' ⟨rfl,rfl⟩)
   go_ret
   exact⟨rfl,MF⟩
 | some nd =>
 have hsn:s=nd.sty:=by rw[<-HS.out,hT];rfl
 rw[hT]at kH kS;have kH:=kH w5 aF;change Calls _ _ _ _ (λe w'=>e=.returned (.bool true)/\w5=w')at kH;change ∀X (h:Below w5.heap.size w5 X),Calls _ _ _ _ (λe w'=>e=.returned (.agg (cells nd.sty))/\_)at kS;rw[<-hsn]at kS;have HSN:=ah hsn;clear hsn;have kS1:=kS w5 aF;have hfp:=EJ s;by_cases p2:s.c 1=2
 . have p2b:(s.c 1==2)=true:=by simp[p2]
   go_wp2_with (first|(go_at_call 12;(with_reducible refine kH.mono ?_);rintro e w' ⟨rfl,rfl⟩)|(go_at_call 9;(with_reducible refine kS1.mono ?_);rintro e w6 ⟨rfl,hb6⟩))
   go_ret
   exact⟨rfl,MF.trans (hb6.mono MF.size)⟩
 have p2b:(s.c 1==2)=false:=by simp[p2]
 by_cases p3:s.c 1=3
 . have p3b:(s.c 1==3)=true:=by simp[p3]
   go_wp2_with (first|(go_at_call 12;(with_reducible refine kH.mono ?_);rintro e w' ⟨rfl,rfl⟩)|(go_at_call 9;first|((with_reducible refine kS2.mono ?_);rintro e w7 ⟨rfl,wX⟩)|((with_reducible refine kS1.mono ?_);rintro e w6 ⟨rfl,hb6⟩;have kS2:=kS w6 hb6)))
   go_ret
   exact⟨rfl,MF.trans ((hb6.trans (wX.mono hb6.size)).mono MF.size)⟩
 have p3b:(s.c 1==3)=false:=by simp[p3]
 by_cases hse:qp T a1 (QH s)=0
 case neg =>
  obtain⟨v,hv⟩:=aA (qp T a1 (QH s));rw[hv]at hse;have hvb:(v==0)=false:=by simpa using hse
  have hvn:(v != 0)=true:=by simp[hse]
  go_wp2_with (first|(refine bq aX _ rfl rfl A7 ?_)|(go_at_call 12;(with_reducible refine kH.mono ?_);rintro e w' ⟨rfl,rfl⟩)|(go_at_call 9;first|((with_reducible refine kS2.mono ?_);rintro e w7 ⟨rfl,wX⟩;have EK:=hb6.trans (wX.mono hb6.size);have A7:=A5.keep EK;have kT:=vR (TW.out.after EK) (aJ hs5 EK.size) HW1.out (MK HFS.out);rw[hv]at kT)|((with_reducible refine kS1.mono ?_);rintro e w6 ⟨rfl,hb6⟩;have kS2:=kS w6 hb6))|(go_at_call 13;(with_reducible refine kT.mono ?_);rintro e w8 ⟨rfl,g8,abt,wW⟩))
  go_ret
  exact⟨rfl,MF.trans ((EK.mono MF.size).trans (wW.mono hs1))⟩
 case pos =>
 obtain⟨T1,hT1⟩:=aA (jv T a1 (QH s))
 go_upto_region 11 with(first|(refine bq aX _ rfl rfl A7 ?_)|(go_at_call 12;(with_reducible refine kH.mono ?_);rintro e w' ⟨rfl,rfl⟩)|(go_at_call 9;first|((with_reducible refine kS2.mono ?_);rintro e w7 ⟨rfl,wX⟩;have EK:=hb6.trans (wX.mono hb6.size);have A7:=A5.keep EK;have kT:=vR (TW.out.after EK) (aJ hs5 EK.size) HW1.out (MK HFS.out);rw[hse,hT1]at kT)|((with_reducible refine kS1.mono ?_);rintro e w6 ⟨rfl,hb6⟩;have kS2:=kS w6 hb6))|(go_at_call 13;(with_reducible refine kT.mono ?_);rintro e w8 ⟨rfl,g8,abt,wW⟩))
 have hq1:T1 a1=some { nd with sty:=QH s }/\∀z,z≠a1->T1 z=T z:=by
  rw[<-hT1];unfold Fix.jv;rw[if_pos hse];unfold Tr.yE;rw[hT];exact⟨Tr.aN _ _ _,λz hz=>Tr.aK _ _ hz⟩
 have HB8:=MF.trans ((EK.mono MF.size).trans (wW.mono hs1));have hs8:=aJ hs5 (aJ EK.size wW.size);have ho8:=abt.off A7.lt ho5;have A8:=A7.out ho5 abt.1;have H1:Tr.WF T1:=hT1▸HM.out.wf.alike (oF T a1 (QH s))
 have agM:∀x d,Tr.Dp T1 x d->d<=8:=λx d h=>by
  have:=((Tr.Alike.symm (hT1▸oF T a1 (QH s))).dp h);exact HM.out.deep x d this
 have htm:nZ s=true/\Re.valid s=true:=by
  have:=HVT.out a1 nd hT;rw[HSN.out];exact⟨this.2,this.1⟩
 have HV1:Hid (VT T1):=ah (hT1▸HVT.out.sty a1 (by rw[X0];exact htm.1));have M1:xS T1 n:=⟨H1,g8.inv.num,HM.out.few,agM,λz nd h=>(HV1.out z nd h).1⟩;have Yx:=ah M1;have HG8:=ah g8;have Yy:=ah hq1;have HTM:=ah htm;have kL1:=Ms HG8.out Yx.out a4 a5;have ah':=ah hn;clear kH kS kS1 kS2 hb6 wX EK A5 A7 kT g8 abt wW MF TW ho5 H1 agM htm M1 hq1 hse hT HVT HM hT1 hn
 go_upto_region 12 with(go_at_call 7;(with_reducible refine kL1.mono ?_);rintro e w9 ⟨⟨b1,rfl,aia,hG1⟩,gV⟩)
 have A9:=A8.keep gV;have HB9:=HB8.trans (gV.mono HB8.size);have HG9:=ah (HG8.out.after gV);have agN:=ah hG1;have Yk:=aJ hs8 gV.size;have hne:¬ b1=bs:=λe=>by have:=A8.lt;omega
 have lb9:=A9.lt;have f1:=A9.st 1 aH rfl;have z1:=A9.thaw 1;have ho1:¬ owned tb L T1 b1:=λq=>absurd (HG8.out.inv.rep.lt q) aj;clear kL1 hG1 aia gV A8 HG8 HB8
 go_upto_region 13 with(fail)
 have TP:=A9.set 1 (.int .i64 1);have O10:Out (λb=>b=bs) w9 (w9.setCell ⟨bs,1,none⟩ (.int .i64 1)):=Out.set (M:=λb=>b=bs) (Out.refl _ _) rfl _ _;generalize w9.setCell ⟨bs,1,none⟩ (.int .i64 1)=je at *;have f29:=TP.cell 29;have f30:=TP.cell 30;rw[Array.getElem?_setIfInBounds_ne aH,bG _ aH rfl]at f29 f30;have z29:=TP.thaw 29;have z30:=TP.thaw 30;have aib:=TP.lt;clear f1 z1
 go_upto_region 14 with(fail)
 have Yw:=(TP.set 29 (.int .i64 1)).set 30 (.int .i64 a2);have O11:Out (λb=>b=bs) w9 ((je.setCell ⟨bs,29,none⟩ (.int .i64 1)).setCell ⟨bs,30,none⟩ (.int .i64 a2)):=(O10.set rfl _ _).set rfl _ _;generalize (je.setCell ⟨bs,29,none⟩ (.int .i64 1)).setCell ⟨bs,30,none⟩ (.int .i64 a2)=cZ at *;have f23:=Yw.cell 23;have f24:=Yw.cell 24;rw[Array.getElem?_setIfInBounds_ne aH,Array.getElem?_setIfInBounds_ne aH,Array.getElem?_setIfInBounds_ne aH,bG _ aH rfl]at f23 f24;have z23:=Yw.thaw 23;have z24:=Yw.thaw 24;have aic:=Yw.lt;clear f29 f30 z29 z30 aib TP O10
 go_upto_region 15 with(fail)
 have A12:=(Yw.set 23 (.int .i64 1)).set 24 (.int .i64 a3);rw[XY,ad9]at A12;have O12:Out (λb=>b=bs) w9 ((cZ.setCell ⟨bs,23,none⟩ (.int .i64 1)).setCell ⟨bs,24,none⟩ (.int .i64 a3)):=(O11.set rfl _ _).set rfl _ _;generalize (cZ.setCell ⟨bs,23,none⟩ (.int .i64 1)).setCell ⟨bs,24,none⟩ (.int .i64 a3)=bS at *;have abe:Hid (Good bS tb L T1 n w1.heap.size):=ah ⟨⟨HG9.out.inv.rep.out (M:=λb=>b=bs) (λb hb e=>ho8 (e▸hb)) O12,HG9.out.inv.wf,HG9.out.inv.num⟩,HG9.out.own,HG9.out.fit⟩;have X3:=ah (agN.out.out (M:=λb=>b=bs) hne O12);have adz:=aJ Yk O12.size;have agO:Below w.heap.size w bS:=HB9.trans (O12.below HB9.size λb hb e=>by subst e;omega);have hxb:(-1048576<=a2/\a2<=1048576)/\(-1048576<=a3/\a3<=1048576):=by omega
 have hok2:=ad' (dx:=a2) (dy:=a3) ⟨HTM.out.2,HTM.out.1⟩ hxb.1 hxb.2;have aeb:qp T1 a1 (Pv s a2 a3)=0:=by
  unfold qp;rw[Yy.out.1,if_neg eZ,if_neg (by rw[hok2.1];decide)]
 have kT2:=vR abe.out adz HW1.out (XZ HFS.out hxb.1 hxb.2);rw[aeb]at kT2;obtain⟨T2,Yv⟩:=aA (jv T1 a1 (Pv s a2 a3));rw[Yv]at kT2;clear f23 f24 z23 z24 aic Yw O11 A9 lb9 HG9 agN Yk HB9
 go_upto_region 16 with(first|(refine bq aX _ rfl rfl A12 ?_)|(go_at_call 13;(with_reducible refine kT2.mono ?_);rintro e eG ⟨rfl,g13,ab0,qw⟩))
 have agP:=agO.trans (qw.mono hs1);have agQ:=aJ adz qw.size;have aie:=X3.out.lt;have X4:=ah (X3.out.out ho1 ab0.1)
 have hq2:∀z,T2 z=if z=a1 then some { nd with sty:=Pv s a2 a3 }else T1 z:=λz=>by
  rw[<-Yv];unfold Fix.jv;rw[if_pos aeb];unfold Tr.yE;rw[Yy.out.1];by_cases e:z=a1
  . rw[if_pos e,e];exact Tr.aN _ _ _
  . rw[if_neg e];exact Tr.aK _ _ e
 have HMV:Hid (wQ (kg T1) (kg T2) a1 a2 a3):=ah (Tg (sB:=Pv s a2 a3) Yy.out.1 hq2 (λj h1 h2 h3 h4 h5=>by show(if j=1 then (1:Int)else if j=23 then 1 else if j=24 then a3 else if j=29 then 1 else if j=30 then a2 else s.c j)=if j=1 then 0 else s.c j;rw[if_neg h1,if_neg h2,if_neg h3,if_neg h4,if_neg h5,if_neg h1]) rfl rfl rfl rfl rfl rfl rfl hxb.1 hxb.2);have H2:Tr.WF T2:=Yv▸Yx.out.wf.alike (oF T1 a1 (Pv s a2 a3))
 have agR:∀x d,Tr.Dp T2 x d->d<=8:=λx d h=>by
  have:=((Tr.Alike.symm (Yv▸oF T1 a1 (Pv s a2 a3))).dp h);exact Yx.out.deep x d this
 have HV2:Hid (VT T2):=ah (Yv▸HV1.out.sty a1 hok2.2);have M2:xS T2 n:=⟨H2,g13.inv.num,Yx.out.few,agR,λz nd h=>(HV2.out z nd h).1⟩;have TN:=ah M2;have aec:=ah g13;have kL2:=Ms aec.out TN.out a4 a5;have HML:=ah λz=>Pp HMV.out Yx.out TN.out (show n<=32 by have:=ah'.out;omega) HV1.out h0 (ww:=max a4 0) (wh:=max a5 0) aj aj z;obtain⟨N1,hN1⟩:=aA ((qB T1 (max a4 0) (max a5 0)).length);obtain⟨G1,hG1⟩:=aA (pF T1 (max a4 0) (max a5 0));obtain⟨N2,hN2⟩:=aA ((qB T2 (max a4 0) (max a5 0)).length);obtain⟨G2,hG2⟩:=aA (pF T2 (max a4 0) (max a5 0));have aif:Hid (∀k,G1 k=none\/∃y,G1 k=some (rcv y)):=ah λk=>by rw[<-hG1];exact O6 T1 (kg T1) _ _ k
 simp only[hG1,hG2]at HML;rw[hN2,hG2]at kL2;rw[hN1,hG1]at X4;clear kT2 g13 ab0 qw X3 agO abe A12 O12 aeb hok2 hq2 H2 agR M2 Yv hN1 hN2 hG1 hG2 ho1 aie HMV HV1 HV2 Yy HTM HFS ho8
 go_upto_region 17 with(go_at_call 7;(with_reducible refine kL2.mono ?_);rintro e uP ⟨⟨b2,rfl,aii,hG2⟩,X5⟩)
 have agS:=agP.trans (X5.mono (aJ hs1 agQ));have agT:=ah (aec.out.after X5);have X6:=ah (show GM 3 uP b1 N1 G1/\GM 3 uP b2 N2 G2 from⟨X4.out.keep X5,hG2⟩);have kO:=OY agT.out;have aij:=aJ agQ X5.size;clear kL2 agP aec X4 X5 hG2 aii
 go_upto_region 18 with(go_at_call 8;(with_reducible refine kO.mono ?_);rintro e wa ⟨⟨v,rfl,hk⟩,hba⟩;obtain⟨A,c,rfl,hI,-⟩:=hk.row.ints)
 have HBa:=agS.trans (hba.mono (aJ hs1 aij));have Tj:=ah (show GM 3 wa b1 N1 G1/\GM 3 wa b2 N2 G2 from⟨X6.out.1.keep hba,X6.out.2.keep hba⟩);have HI:=ah hI
 have HOR:Hid (∀x∈Tr.ord T2,Wf x):=ah λx hx=>by
  obtain⟨nd,h⟩:=TN.out.wf.iV.1 hx;have:=TN.out.wf.range x nd h;exact(iX _).2 aj
 clear kO agS agT X6 hba hI hk;obtain⟨o,ho⟩:=aA (Tr.ord T2);rw[ho]at HI HOR ⊢;have hol:o.length<=64:=by rw[<-ho,TN.out.num];exact TN.out.few
 obtain⟨no,hno⟩:=aA o.length;rw[hno]at hol ⊢;have HNO:=ah hno;have hsa:=HBa.size;have hx1:=hxb.1.1;have hx2:=hxb.1.2;have hy1:=hxb.2.1;have hy2:=hxb.2.2;clear ho hno hxb;go_wp2
 go_loopw [21] (λi wr=>∃j:Nat,j<=no/\i=.int .i64 (j:Int)/\Below wa.heap.size wa wr) (λi _=>no-(intOf i).toNat)
 case atStart=>exact⟨0,by omega,rfl,Below.refl _ _⟩
 case round =>
  obtain⟨j,hj,rfl,hbr⟩:=hrel;have hsr:=hbr.size;by_cases hjn:j<no
  . have hjz:(j:Int)<(no:Int):=by omega
    obtain⟨ba,oa,rfl,lba,cx⟩:=(HI.out.after hbr).at_ (k:=j) (by rw[HNO.out];exact hjn);have hxw:Wf (o.getD j 0):=HOR.out _ (by rw[List.getD,List.getElem?_eq_getElem (by rw[HNO.out];exact hjn)];exact List.getElem_mem _);obtain⟨x,hx⟩:=aA (o.getD j 0);rw[hx]at cx hxw;have hml:=HML.out x
    have hab:∃(p0 p1 p2 p3 q0 q1:Int) (ok:Bool),(∀X,Below wa.heap.size wa X->(Instr.lookup 28 (.map (some b1)) (.int .i64 x) true).run Tryz.prog X=.ok (.tuple #[.agg #[.int .i64 p0,.int .i64 p1,.int .i64 p2,.int .i64 p3],.bool ok]) X) /\
      (∀X,Below wa.heap.size wa X->(Instr.lookup 28 (.map (some b2)) (.int .i64 x) true).run Tryz.prog X=.ok (.tuple #[.agg #[.int .i64 q0,.int .i64 q1,.int .i64 p2,.int .i64 p3],.bool ok]) X) /\
      ((((x==a1)&&ok)=false/\q0=p0/\q1=p1)\/(((x==a1)&&ok)=true/\q0=p0+a2/\q1=p1+a3/\Ab p0 1000000000000/\Ab p1 1000000000000)):=by
     rcases hml with⟨hne,e⟩|⟨he,e1,e2⟩|⟨he,p0,p1,p2,p3,e1,e2,b0,b1⟩
     . obtain⟨p0,p1,p2,p3,okk,hlk⟩:=ad8 G1 (aif.out _) hxw
       exact⟨p0,p1,p2,p3,p0,p1,okk,λX h=>hlk G1 rfl X _ _ (Tj.out.1.keep h),λX h=>hlk G2 e X _ _ (Tj.out.2.keep h),.inl ⟨by simp[hne],rfl,rfl⟩⟩
     . exact⟨0,0,0,0,0,0,false,λX h=>Cx G1 hxw none e1 (Tj.out.1.keep h),λX h=>Cx G2 hxw none e2 (Tj.out.2.keep h),.inl ⟨by simp,rfl,rfl⟩⟩
     . exact⟨p0,p1,p2,p3,p0+a2,p1+a3,true,λX h=>Cx G1 hxw (some (p0,p1,p2,p3)) e1 (Tj.out.1.keep h),λX h=>Cx G2 hxw (some (p0+a2,p1+a3,p2,p3)) e2 (Tj.out.2.keep h),.inr ⟨by simp[he],rfl,rfl,b0,b1⟩⟩
    obtain⟨p0,p1,p2,p3,q0,q1,ok,hl1,hl2,hcase⟩:=hab;have HL2:=ah hl2;have k1:=hl1 wr hbr;clear hml hl1 hl2 hxw hx
    go_upto_region 22 with(fail)
    have abu:Below wr.heap.size wr (wr.alloc (.cells #[.int .i64 p0,.int .i64 p1,.int .i64 p2,.int .i64 p3] 51)):=Below.alloc' aF _;have ru:At (wr.alloc (.cells #[.int .i64 p0,.int .i64 p1,.int .i64 p2,.int .i64 p3] 51)) wr.heap.size (.cells #[.int .i64 p0,.int .i64 p1,.int .i64 p2,.int .i64 p3] 51):=At.new _ _;generalize wr.alloc (.cells #[.int .i64 p0,.int .i64 p1,.int .i64 p2,.int .i64 p3] 51)=wd at *;have hbd:=hbr.trans (abu.mono hsr);have WQ:=(abu.cell (p:=⟨ba,oa+j,none⟩) lba).trans cx;have agU:ba<wd.heap.size:=by have:=abu.size;omega
    have hrw:wa.heap.size<=wr.heap.size:=hsr;generalize hRb:wr.heap.size=R1 at *;have k2:=HL2.out wd hbd;clear k1 cx hRb abu hbr lba
    go_upto_region 23 with(fail)
    have X7:Below wd.heap.size wd (wd.alloc (.cells #[.int .i64 q0,.int .i64 q1,.int .i64 p2,.int .i64 p3] 51)):=Below.alloc' aF _;have hR2:At (wd.alloc (.cells #[.int .i64 q0,.int .i64 q1,.int .i64 p2,.int .i64 p3] 51)) wd.heap.size (.cells #[.int .i64 q0,.int .i64 q1,.int .i64 p2,.int .i64 p3] 51):=At.new _ _;have hl12:=ru.lt;generalize wd.alloc (.cells #[.int .i64 q0,.int .i64 q1,.int .i64 p2,.int .i64 p3] 51)=we at *;have X8:=ru.keep X7;have cx3:=(X7.cell (p:=⟨ba,oa+j,none⟩) agU).trans WQ;have ajz:ba<we.heap.size:=by have:=X7.size;omega
    have hbe:Below wa.heap.size wa we:=hbd.trans (X7.mono (by have:=hbd.size;omega));generalize hRc:wd.heap.size=R2 at *;have ab1:R1≠R2:=by omega
    obtain⟨l1,c10,c11,c12,c13⟩:=At.four X8;obtain⟨l2,c20,c21,c22,c23⟩:=At.four hR2;clear k2 WQ X7 ru hbd agU hl12;rcases hcase with⟨hc,rfl,rfl⟩|⟨hc,rfl,rfl,hp0,hp1⟩
    . cases hxa:(x==a1)
      . go_wp2
        go_roundw
        case rel=>exact⟨j+1,by omega,by go_num,hbe⟩
        case measure=>simp[intOf];omega
      . rw[hxa]at hc
        have hok:ok=false:=by simpa using hc
        subst hok;go_wp2
        go_roundw
        case rel=>exact⟨j+1,by omega,by go_num,hbe⟩
        case measure=>simp[intOf];omega
    . have hxa:(x==a1)=true:=by cases h:(x==a1);(· rw[h]at hc;simp at hc);rfl
      have hok:ok=true:=by cases ok;(· simp at hc);rfl
      subst hok;obtain⟨p01,p02⟩:=hp0;obtain⟨p11,p12⟩:=hp1;have z10:=X8.thaw 0;have z11:=X8.thaw 1
      go_upto_region 25 with(fail)
      generalize hW:World.setCell _ _ _=wf;have abv:At wf R1 (.cells #[.int .i64 (p0+a2),.int .i64 p1,.int .i64 p2,.int .i64 p3] 51):=hW▸X8.set 0 (.int .i64 (p0+a2));have agV:At wf R2 (.cells #[.int .i64 (p0+a2),.int .i64 (p1+a3),.int .i64 p2,.int .i64 p3] 51):=hW▸At.off hR2 ab1.symm _ _;have hbf:Below wa.heap.size wa wf:=hW▸Below.setCell hbe hrw _;obtain⟨m1,d10,d11,d12,d13⟩:=At.four abv;have z21:=abv.thaw 1;clear hW l1 c10 c11 c12 c13 l2 c20 c21 c22 c23 z10 z11 X8 hR2 hbe
      go_upto_region 26 with(fail)
      generalize hW:World.setCell _ _ _=wg;have aik:At wg R1 (.cells #[.int .i64 (p0+a2),.int .i64 (p1+a3),.int .i64 p2,.int .i64 p3] 51):=hW▸abv.set 1 (.int .i64 (p1+a3));have ail:At wg R2 (.cells #[.int .i64 (p0+a2),.int .i64 (p1+a3),.int .i64 p2,.int .i64 p3] 51):=hW▸At.off agV ab1.symm _ _;have hbg:Below wa.heap.size wa wg:=hW▸Below.setCell hbf hrw _;clear hW m1 d10 d11 d12 d13 z21 abv agV hbf;obtain⟨l1,c10,c11,c12,c13⟩:=At.four aik;obtain⟨l2,c20,c21,c22,c23⟩:=At.four ail;go_wp2
      go_roundw
      case rel=>exact⟨j+1,by omega,by go_num,hbg⟩
      case measure=>simp[intOf];omega
  . have hjz:¬ (j:Int)<(no:Int):=by omega
    go_wp2
    go_ret
    exact⟨rfl,HBa.trans (hbr.mono hsa)⟩
end Go.Proofs.YtmidaiklolmkcaaGreat.Fix
