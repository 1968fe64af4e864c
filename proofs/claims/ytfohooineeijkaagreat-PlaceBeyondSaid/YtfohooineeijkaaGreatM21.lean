/- Steps of the program (21); no conditions. -/
import Derived.Test.YtfohooineeijkaaGreatM20
set_option linter.all false
set_option maxRecDepth 100000
set_option maxHeartbeats 16000000
namespace Go.Proofs.YtfohooineeijkaaGreat.Fix
open Go.ChangeShapes Go.WideShapes Go.ChangeAt Go.RowKit
open Go.Proofs.Tryz renaming prog → ja0
section
open Go.Deep
open World renaming alloc → ja5
open List renaming getElem?_eq_getElem → ja6,mem_cons_of_mem → ja7,mem_cons_self → jb1
variable {R:Int->Option Pr}{z:Int}{S:Int->Option (Pr×Pr)}{nd:Tr.Nd}{l:List Int}{d:Nat}
theorem Aw{T:Tr.T}(h:T z=some nd)(f:Nat):cnt T R (f+1) z=((R z).isSome&&cnt T R f nd.up):=by simp only[cnt,h]
theorem Ol{T:Tr.T}(h:T z=none):∀f,cnt T R f z=true
 | 0=>rfl
 | f+1=>by simp only[cnt,h]
theorem F7{T:Tr.T}(H:Tr.WF T)(hd:Tr.Dp T z d):∀f,d+1<=f->cnt T R f z=cnt T R (d+1) z:=by
 induction hd with
 | root h =>
   intro f hf;obtain⟨g,rfl⟩:∃g,f=g+1:=⟨f-1,by omega⟩;rw[Aw h,Aw h,Ol (H.iF h▸H.low ak),Ol (H.iF h▸H.low ak)]
 | step h h0 _ ih =>
   intro f hf;obtain⟨g,rfl⟩:∃g,f=g+1:=⟨f-1,by omega⟩;rw[Aw h,Aw h,ih g ak]
def cA(T:Tr.T)(R:Int->Option Pr)(z:Int):Bool:=cnt T R 65 z
theorem qI{T:Tr.T}{u:Int}(h:T u=some nd)(f:Nat):Gy T (f+1) u=if nd.sty.c 2=2 then u else Gy T f nd.up:=by simp only[Gy,h]
theorem pE{T:Tr.T}(h:T (-1)=none):∀f,Gy T f (-1) = -1
 | 0=>rfl
 | f+1=>by simp only[Gy,h]
theorem aaj{T:Tr.T}(H:Tr.WF T){u:Int}(hd:Tr.Dp T u d):∀f,d+1<=f->Gy T f u=Gy T (d+1) u:=by
 have hm:=H.low (x := -1) ak
 induction hd with
 | root h =>
   intro f hf;obtain⟨g,rfl⟩:∃g,f=g+1:=⟨f-1,by omega⟩;rw[qI h,qI h,H.iF h,pE hm,pE hm]
 | step h h0 _ ih =>
   intro f hf;obtain⟨g,rfl⟩:∃g,f=g+1:=⟨f-1,by omega⟩;rw[qI h,qI h,ih g ak]
theorem aak{T:Tr.T}(H:Tr.WF T){u:Int}(hd:Tr.Dp T u d):∀f,Gy T f u = -1\/∃d',d'<=d/\Tr.Dp T (Gy T f u) d':=by
 have hm:=H.low (x := -1) ak
 induction hd with
 | root h =>
   intro f;cases f with
   | zero=>exact .inl rfl
   | succ f =>
     rw[qI h];split
     . exact .inr ⟨0,aO _,.root h⟩
     . rw[H.iF h,pE hm];exact .inl rfl
 | step h h0 hk ih =>
   intro f;cases f with
   | zero=>exact .inl rfl
   | succ f =>
     rw[qI h];split
     . exact .inr ⟨_,aO _,.step h h0 hk⟩
     . rcases ih f with e|⟨d',h1,h2⟩
       . exact .inl e
       . exact .inr ⟨d',by omega,h2⟩
def F8(T:Tr.T)(z:Int):Int:=Gy T 64 (jP T z)
theorem xX{T:Tr.T}(h:T z=some nd):jP T z=nd.up:=by unfold jP;rw[h]
theorem Om{T:Tr.T}(H:Tr.WF T)(h:T z=some nd)(h0:z≠0)(hd:Tr.Dp T nd.up d):F8 T z = -1\/∃d',d'<=d/\Tr.Dp T (F8 T z) d':=by
 unfold F8;rw[xX h];exact aak H hd 64
def yH(T:Tr.T)(R:Int->Option Pr)(z:Int):Int×Int :=
 if (dU T z).c 2=2/\cA T R z=true then (bey (Fx.hi (VJ T R 63 z ⟨0,0,0,0⟩).x (VJ T R 63 z ⟨0,0,0,0⟩).w) ((dU T z).c 38) (((R z).getD p0).prt (dU T z)).w,bey (Fx.hi (VJ T R 63 z ⟨0,0,0,0⟩).y (VJ T R 63 z ⟨0,0,0,0⟩).h) ((dU T z).c 35) (((R z).getD p0).prt (dU T z)).h)else (0,0)
section
variable {w:World} {t n:Nat} {L:Lay} {T:Tr.T} {m:Nat} {R:Int->Option Pr}
theorem Oo(H:Tr.WF T):∀z nd,T z=some nd->nd.kids.length<=5000/\∀k∈nd.kids,∃kd,T k=some kd:=λz nd h =>
 ⟨aK (H.uG h) ak,λk hk=>by obtain⟨_,kd,h1,_⟩:=H.kid z nd k h hk;exact⟨kd,h1⟩⟩
theorem zh(h:fE w t L T n)(hmm:RM w m R)(H:Tr.WF T)(hz:Wf z):Calls ja0 11 #[t,.map (some m),z] w λe w'=>e=.returned (pt (yH T R z).1 (yH T R z).2)/\Below w w w':=by
 unfold yH;by_cases h2:(dU T z).c 2=2
 . cases hT:T z with
   | none =>
     exfalso;unfold dU at h2;rw[hT]at h2;exact absurd h2 aN
   | some nd =>
     obtain⟨d,PW,hd⟩:=H.deep z nd hT;have hs:nd.sty=dU T z:=by unfold dU;rw[hT];rfl
     have hc:cA T R z=cnt T R (d+1) z:=F7 H hd 65 ak;rw[hc];by_cases hcn:cnt T R (d+1) z=true
     . rw[if_pos ⟨h2,hcn⟩]
       exact Oe h hmm (λ_ h=>H.iF h) hd 63 hT (H.iO hT) (Oo H) _ hs h2 hcn
     . rw[if_neg (λq=>hcn q.2)]
       exact Og h hmm (λ_ h=>H.iF h) hd (by simpa using hcn)
 . rw[if_neg (λq=>h2 q.1)]
   exact F3 h hz h2
theorem xD(h:fE w t L T n)(H:Tr.WF T)(hz:Wf z):Calls ja0 21 #[t,z] w λe w'=>e=.returned (.int .i64 (F8 T z))/\Below w w w':=by
 have hm:=H.low (x := -1) ak;unfold F8;cases hT:T z with
 | none =>
   rw[show jP T z = -1 by unfold jP;rw[hT],pE hm];exact Dw h hz hT
 | some nd =>
   rw[xX hT];obtain⟨d,PW,hd⟩:=H.deep z nd hT;have e:Gy T 64 nd.up=Gy T d nd.up:=by
    cases hd with
    | root h0=>rw[h0]at hT;cases hT;rw[H.iF h0,pE hm];rfl
    | step h1 _ h2=>rw[hT]at h1;cases h1;exact aaj H h2 64 ak
   rw[e];exact Dx h (λ_ h=>H.iF h) hd hT
theorem Oq(h:fE w t L T n)(hmm:RM w m R)(H:Tr.WF T)(hz:Wf z):Calls ja0 20 #[t,.map (some m),z] w λe w'=>e=.returned (if (T z).isSome=true/\cA T R z=true then rch T R 64 z else p0).ag/\Below w w w':=by
 cases hT:T z with
 | none=>simpa using Le h hmm hz hT
 | some nd =>
   obtain⟨d,PW,hd⟩:=H.deep z nd hT;have key:=Lf h hmm (λ_ h=>H.iF h) hd 64 (H.iO hT) (Oo H);rw[<-F7 H hd 65 ak]at key;simpa[cA]using key
end
def Rp(T:Tr.T)(R:Int->Option Pr)(O:Int->Option (Int×Int))(q:Pr)(S:Int->Option (Pr×Pr))(z k:Int):Pr×Pr :=
 if (dU T k).c 1=3 then ((R k).getD p0,q)
 else (if (dU T k).c 1=4 then stk (dU T k) ((((S z).getD (p0,p0)).1.ins (dU T z)).mv (-(Tf O z (yH T R z).1 (yH T R z).2).1) (-(Tf O z (yH T R z).1 (yH T R z).2).2)) (ptO T S q (F8 T k)) ((((R k).getD p0).mv ((S z).getD (p0,p0)).1.x ((S z).getD (p0,p0)).1.y).mv (-(Tf O z (yH T R z).1 (yH T R z).2).1) (-(Tf O z (yH T R z).1 (yH T R z).2).2))
  else (((R k).getD p0).mv ((S z).getD (p0,p0)).1.x ((S z).getD (p0,p0)).1.y).mv (-(Tf O z (yH T R z).1 (yH T R z).2).1) (-(Tf O z (yH T R z).1 (yH T R z).2).2),clO (dU T z) ((S z).getD (p0,p0)).1 ((S z).getD (p0,p0)).2)
theorem VQ{T:Tr.T}{O:Int->Option (Int×Int)}{q:Pr}{S S':Int->Option (Pr×Pr)}{z k:Int}(h1:S z=S' z)(h2:F8 T k ≠ -1->S (F8 T k)=S' (F8 T k)):Rp T R O q S z k=Rp T R O q S' z k:=by
 have e:ptO T S q (F8 T k)=ptO T S' q (F8 T k):=by
  unfold ptO;split
  . rfl
  . rename_i h;rw[h2 h]
 unfold Rp;rw[h1,e]
def qJ(T:Tr.T)(R:Int->Option Pr)(O:Int->Option (Int×Int))(q:Pr)(S:Int->Option (Pr×Pr))(z:Int):Int->Option (Pr×Pr):=λy=>if y∈kf R (dV T z)then some (Rp T R O q S z y)else S y
def Ot(T:Tr.T)(R:Int->Option Pr)(O:Int->Option (Int×Int))(q:Pr)(l:List Int)(S:Int->Option (Pr×Pr)):Int->Option (Pr×Pr):=l.foldl (λS z=>if (S z).isSome=true then qJ T R O q S z else S) S
def Gz(T:Tr.T)(R:Int->Option Pr)(q:Pr):Int->Option (Pr×Pr):=λy=>if y=0/\cA T R 0=true then some ((R 0).getD p0,q)else none
def spF(T:Tr.T)(R:Int->Option Pr)(O:Int->Option (Int×Int))(q:Pr):Int->Option (Pr×Pr):=Ot T R O q (Tr.ord T) (Gz T R q)
theorem vv{y:Int}:y∈kf R l↔y∈l/\(R y).isSome=true:=by unfold kf;rw[List.mem_filter]
structure Ie(T:Tr.T)(R:Int->Option Pr)(O:Int->Option (Int×Int))(q:Pr)(l:List Int)(S:Int->Option (Pr×Pr)):Prop where
 root:S 0=if cA T R 0=true then some ((R 0).getD p0,q)else none
 live:∀z,(S z).isSome=true->z=0\/∃nd,T z=some nd/\nd.up∈l
 says:∀z nd,T z=some nd->z≠0->nd.up∈l->S z=if (R z).isSome=true/\(S nd.up).isSome=true then some (Rp T R O q S nd.up z)else none
section
variable {T:Tr.T} {R:Int->Option Pr} {O:Int->Option (Int×Int)} {q:Pr}
theorem Ie.start(hl:∀z,z≠0->True):Ie T R O q [] (Gz T R q) where
 root:=by unfold Gz;simp
 live:=λz h=>by
  unfold Gz at h;split at h
  . rename_i h1;exact .inl h1.1
  . cases h
 says:=λz nd _ _ h=>by cases h
theorem Tg(H:Tr.WF T){z k:Int}(h:k∈dV T z):k≠0/\∃nd kd,T z=some nd/\T k=some kd/\kd.up=z:=by
 unfold dV at h;cases hT:T z with
 | none=>rw[hT]at h;cases h
 | some nd =>
   rw[hT]at h;obtain⟨h0,kd,h1,h2⟩:=H.kid z nd k hT h;exact⟨h0,nd,kd,rfl,h1,h2⟩
def Closed(T:Tr.T)(l:List Int):Prop:=∀x∈l,x≠0->∀nd,T x=some nd->nd.up∈l
theorem Closed.anc(H:Tr.WF T)(hc:Closed T l){f:Nat}:∀{u:Int},u∈l->(∃nd,T u=some nd)->Gy T f u = -1\/Gy T f u∈l:=by
 have hm:=H.low (x := -1) ak
 induction f with
 | zero=>intro u _ _;exact .inl rfl
 | succ f ih =>
   rintro u hu ⟨nd,hT⟩;rw[qI hT];split
   . exact .inr hu
   . by_cases h0:u=0
     . subst h0;rw[H.iF hT,pE hm];exact .inl rfl
     . obtain⟨p,hp,_⟩:=H.up u nd hT h0
       exact ih (hc u hu h0 nd hT) ⟨p,hp⟩
theorem Ie.step(H:Tr.WF T){x:Int}(h:Ie T R O q l S)(hc:Closed T l)(hx:x ∉ l)(hc':Closed T (l++[x]))(hn:∃nd,T x=some nd):Ie T R O q (l++[x]) (if (S x).isSome=true then qJ T R O q S x else S):=by
 obtain⟨xd,hxT⟩:=hn
 have stay:∀y,(∀nd,T y=some nd->y≠0->nd.up≠x)->(if (S x).isSome=true then qJ T R O q S x else S) y=S y:=λy hy=>by
  split
  . unfold qJ
    rw[if_neg];intro hm;obtain⟨h0,nd,kd,_,h1,h2⟩:=Tg H (vv.1 hm).1;exact hy kd h1 h0 h2
  . rfl
 have inl:∀y,y∈l->(if (S x).isSome=true then qJ T R O q S x else S) y=S y:=λy hy=>stay y λnd h1 h0 he=>hx (he▸hc y hy h0 nd h1)
 have adn:(if (S x).isSome=true then qJ T R O q S x else S) x=S x:=stay x λnd h1 h0 he=>by
  obtain⟨d,_,hd⟩:=H.deep x nd h1;cases hd with
  | root h=>exact h0 rfl
  | step h2 _ h3 =>
    rw[h1]at h2;cases h2;rw[he]at h3;obtain⟨d',_,hd'⟩:=H.deep x nd h1;have e1:=h3.Xb hd';have e2:=(Tr.Dp.step h1 h0 (he.symm▸h3)).Xb hd';omega
 have zero:(if (S x).isSome=true then qJ T R O q S x else S) 0=S 0:=stay 0 λnd _ h0=>absurd rfl h0
 have same:∀z nd,T z=some nd->z≠0->nd.up∈l++[x]->Rp T R O q (if (S x).isSome=true then qJ T R O q S x else S) nd.up z=Rp T R O q S nd.up z:=λz nd h1 h0 hu=>by
  obtain⟨p,hp,_⟩:=H.up z nd h1 h0
  have hin:∀y,y∈l++[x]->(if (S x).isSome=true then qJ T R O q S x else S) y=S y:=λy hy=>by
   rcases List.mem_append.1 hy with h|h
   . exact inl y h
   . rw[List.mem_singleton.1 h];exact adn
  refine VQ (hin _ hu) λhs => ?_;unfold F8 at hs ⊢;rw[xX h1]at hs ⊢;rcases Closed.anc H hc' (f:=64) hu ⟨p,hp⟩with e|e
  . exact absurd e hs
  . exact hin _ e
 refine⟨zero.trans h.root,λz hz => ?_,λz nd h1 h0 hu => ?_⟩
 . by_cases hk:(S x).isSome=true/\z∈kf R (dV T x)
   . obtain⟨_,nd,kd,_,h3,h4⟩:=Tg H (vv.1 hk.2).1
     exact .inr ⟨kd,h3,by rw[h4];simp⟩
   . have e:(if (S x).isSome=true then qJ T R O q S x else S) z=S z:=by
      split
      . rename_i hs;unfold qJ;rw[if_neg λhm=>hk ⟨hs,hm⟩]
      . rfl
     rw[e]at hz;rcases h.live z hz with q0|⟨nd,q1,q2⟩
     . exact .inl q0
     . exact .inr ⟨nd,q1,List.mem_append_left _ q2⟩
 . rw[same z nd h1 h0 hu]
   rcases List.mem_append.1 hu with hul|hux
   . rw[inl _ hul,stay z λnd' h1' _ he=>by rw[h1]at h1';cases h1';exact hx (he▸hul)]
     exact h.says z nd h1 h0 hul
   . have hux:=List.mem_singleton.1 hux
     rw[hux,adn];have hzk:z∈dV T x:=by
      obtain⟨p,hp,hm⟩:=H.up z nd h1 h0;rw[hux]at hp;unfold dV;rw[hp];exact hm
     have hz0:S z=none:=by
      cases e:S z with
      | none=>rfl
      | some v =>
        rcases h.live z (by rw[e];rfl)with q0|⟨nd',q1,q2⟩
        . exact absurd q0 h0
        . rw[h1]at q1;cases q1;rw[hux]at q2;exact absurd q2 hx
     by_cases hs:(S x).isSome=true
     . rw[if_pos hs]
       unfold qJ;by_cases hr:(R z).isSome=true
       . rw[if_pos (vv.2 ⟨hzk,hr⟩),if_pos ⟨hr,hs⟩]
       . rw[if_neg λhm=>hr (vv.1 hm).2,if_neg λhm=>hr hm.1,hz0]
     . rw[if_neg hs,if_neg λhm=>hs hm.2,hz0]
theorem Ou(l:List Int)(x:Int)(S:Int->Option (Pr×Pr)):Ot T R O q (l++[x]) S=if (Ot T R O q l S x).isSome=true then qJ T R O q (Ot T R O q l S) x else Ot T R O q l S:=by
 unfold Ot;rw[List.foldl_append];rfl
theorem F9(H:Tr.WF T){l1 l2:List Int}(h:Tr.ord T=l1++l2):Closed T l1:=λx hx h0 nd hT=>by
 obtain⟨a,b,e⟩:=List.append_of_mem hx;have h':Tr.sub T 64 0=a++x::(b++l2):=by
  show Tr.ord T=_;rw[h,e];simp
 rcases H.behind H.vT _ _ _ h' with⟨_,hx0⟩|⟨nd',h1,h2,h3⟩
 . exact absurd hx0 h0
 . rw[hT]at h1;cases h1
   rw[e];exact List.mem_append_left _ h3
theorem aal(H:Tr.WF T):∀(l1 l2:List Int),Tr.ord T=l1.reverse++l2->Ie T R O q l1.reverse (Ot T R O q l1.reverse (Gz T R q))
 | [],_,_=>Ie.start (λ_ _=>trivial)
 | x::l,l2,h=>by
   rw[List.reverse_cons]at h ⊢;have h':Tr.ord T=l.reverse++x::l2:=by rw[h];simp
   have hnd:=H.jl;rw[h']at hnd;have hx:x ∉ l.reverse:=λhm=>(List.nodup_append.1 hnd).2.2 x hm x jb1 rfl;rw[Ou];exact(aal H l (x::l2) h').step H (F9 H h') hx (F9 H h) (H.iE.1 (by rw[h'];simp))
end
def SN(W:World)(m n:Nat)(S:Int->Option (Pr×Pr)):Prop:=∃g,GM 3 W m n g/\∀z,g (.int .i64 z)=(S z).map λp => .agg (BQ p.1 p.2)
section
variable {W W':World} {m n:Nat} {S:Int->Option (Pr×Pr)}
theorem SN.sm(h:SN W m n S):SM W m S:=by obtain⟨g,h⟩:=h;exact⟨n,g,h⟩
theorem SN.lt(h:SN W m n S):m<W.heap.size:=h.sm.lt
theorem SN.out{M:Nat->Prop}(h:SN W m n S)(hm:¬ M m)(q:Out M W W'):SN W' m n S:=by obtain⟨g,h,r⟩:=h;exact⟨g,h.out hm q,r⟩
theorem SN.keep(h:SN W m n S)(hb:Below W W W'):SN W' m n S:=by obtain⟨g,h,r⟩:=h;exact⟨g,h.keep hb,r⟩
theorem SN.put(h:SN W m n S)(hn:n<maxLen)(hz:Wf z)(hf:S z=none)(p:Pr×Pr):∃W',(Instr.mapUpdate 32 (.map (some m)) (.int .i64 z) (.agg (BQ p.1 p.2))).run ja0 W=.ok () W'/\SN W' m (n+1) (λy=>if y=z then some p else S y)/\Out (λx=>x=m) W W':=by
 obtain⟨g,h,r⟩:=h;obtain⟨W',h1,h2,h3⟩:=h.store jH Tryz.underlying32 hn (jh hz) (v:=.agg (BQ p.1 p.2)) (by rw[r,hf];rfl);refine⟨W',h1,⟨_,h2,λy => ?_⟩,h3⟩;dsimp only;by_cases e:y=z
 . subst e;rw[jL,if_pos rfl];rfl
 . rw[mO (by intro e';cases e';exact e rfl),if_neg e];exact r y
end
theorem BS{T:TypeId}{n:Nat}(hi:∀W,(isAgg T).run ja0 W=.ok true W)(hz:∀W,(sizeOf T).run ja0 W=.ok n W){ops:Array Oper}{S:World->Prop}{o:Oper}{a:Act}(p:Operand){b:Nat}{vs:Array Value}(hs:vs.size=n)(hw:Region.wanted o (yielded ops a.tmps)=true)(ho:o.op=.load T p)(hp:a.eval p=.pointer b)(h:∀X,S X->At X b (.cells vs T)):aj.Reads ja0 ops S o (.agg vs) a :=
 .inl ⟨hw,λX hX=>iH hi hz p ho hp hs λj hj=>by rw[Nat.zero_add];exact(h X hX).cell j⟩
theorem aam(W:World):(isAgg 98).run ja0 W=.ok true W:=by kernel_rfl
theorem Rq(W:World):(sizeOf 98).run ja0 W=.ok 8 W:=by kernel_rfl
theorem aff(W:World):(isAgg 153).run ja0 W=.ok true W:=by kernel_rfl
def aan(T:Tr.T)(R:Int->Option Pr)(S:Int->Option (Pr×Pr))(q:Pr)(x bx qK kx ky:Int)(cl hd:Pr):Pr×Pr :=
 if (dU T x).c 1=3 then ((R x).getD p0,q)
 else (if (dU T x).c 1=4 then stk (dU T x) hd (ptO T S q (F8 T x)) ((((R x).getD p0).mv bx qK).mv (-kx) (-ky))else (((R x).getD p0).mv bx qK).mv (-kx) (-ky),cl)
section
variable {w:World} {t n:Nat} {L:Lay} {T:Tr.T} {m:Nat} {R:Int->Option Pr} {S:Int->Option (Pr×Pr)} {O:Int->Option (Int×Int)}
theorem afg(h:fE w t L T n)(H:Tr.WF T)(z:Int):Wf (F8 T z):=by
 have hm:Wf (-1):=by rw[jZ];omega
 cases hT:T z with
 | none =>
   unfold F8;rw[show jP T z = -1 by unfold jP;rw[hT],pE (H.low ak)];exact hm
 | some nd =>
   by_cases h0:z=0
   . subst h0
     unfold F8;rw[xX hT,H.iF hT,pE (H.low ak)];exact hm
   . obtain⟨p,hp,_⟩:=H.up z nd hT h0
     obtain⟨d,_,hd⟩:=H.deep _ _ hp;rcases Om H hT h0 hd with e|⟨d',_,hd'⟩
     . rw[e];exact hm
     . obtain⟨nd',h'⟩:=hd'.live
       exact h.wf h'
theorem Lp(h:fE w t L T n)(hmm:RM w m R)(H:Tr.WF T)(mo ms:Nat)(hsm:SM w ms S){x:Int}(hx:Wf x)(q:Pr)(bx qK kx ky:Int)(cl hd:Pr):Calls ja0 74 #[.agg (vw t m mo q ms),x,.agg (inA bx qK kx ky cl hd)] w λe w'=>e=.returned (.agg (BQ (aan T R S q x bx qK kx ky cl hd).1 (aan T R S q x bx qK kx ky cl hd).2))/\Below w w w':=by
 unfold aan;by_cases h3:(dU T x).c 1=3
 . rw[if_pos h3]
   exact Lj h hmm mo ms x hx q _ rfl h3 bx qK kx ky cl hd
 . rw[if_neg h3]
   by_cases h4:(dU T x).c 1=4
   . rw[if_pos h4]
     exact Lm h hmm mo ms x hx q _ rfl h3 h4 bx qK kx ky cl hd _ λX hb=>Lg (h.after hb) mo ms (hsm.keep hb) x (F8 T x) (afg h H x) q λY hb'=>xD (h.after (hb.trans (hb'.mono hb.size))) H hx
   . rw[if_neg h4]
     exact Ll h hmm mo ms x hx q _ rfl h3 h4 bx qK kx ky cl hd
def Sk(T:Tr.T)(R:Int->Option Pr)(O:Int->Option (Int×Int))(q:Pr)(S:Int->Option (Pr×Pr))(z:Int)(K:List Int)(k:Nat):Int->Option (Pr×Pr):=λy=>if y∈K.take k then some (Rp T R O q S z y)else S y
theorem acB(T:Tr.T)(R:Int->Option Pr)(O:Int->Option (Int×Int))(q:Pr)(S:Int->Option (Pr×Pr))(z:Int)(K:List Int){k:Nat}(h:k<K.length):(λy=>if y=K.getD k 0 then some (Rp T R O q S z (K.getD k 0))else Sk T R O q S z K k y)=Sk T R O q S z K (k+1):=by
 funext y;have e:K.getD k 0=K[k]:=by rw[List.getD,ja6 h];rfl
 unfold Sk;rw[List.take_succ_eq_append_getElem h,e];by_cases hy:y=K[k]
 . rw[if_pos hy,if_pos (List.mem_append_right _ (List.mem_singleton.2 hy)),hy]
 . rw[if_neg hy];simp only[hy,List.mem_append,List.mem_singleton,or_false]
theorem Ov{w0:World}(h:fE w0 t L T n)(hmm:RM w0 m R)(H:Tr.WF T)(mo ms:Nat)(ho:OM w0 mo O)(hw:Below w0 w0 w)(hms:w0.heap.size<=ms){ns:Nat}(hsm:SN w ms ns S)(hT:T z=some nd)(hnk:∀k∈kf R nd.kids,S k=none)(hns:ns+(kf R nd.kids).length<maxLen)(q:Pr):Calls ja0 37 #[.agg (vw t m mo q ms),z] w λe w'=>e=.returned (.tuple #[])/\SN w' ms (ns+(kf R nd.kids).length) (qJ T R O q S z)/\Out (λb=>b=ms) w w':=by
 have hX:∀X,Below w w X->Below w0 w0 X:=λX hb=>hw.trans (hb.mono hw.size);have LP:=h.wf hT;obtain⟨⟨a,b⟩,hab⟩:=aC ((S z).getD (p0,p0));obtain⟨s,hs⟩:=aC (dU T z);obtain⟨kx,hkx⟩:=aC ((Tf O z (yH T R z).1 (yH T R z).2).1);obtain⟨ky,hky⟩:=aC ((Tf O z (yH T R z).1 (yH T R z).2).2)
 have pK:=λX (hb:Below w w X)=>Oi (h.after (hX X hb)) mo ms (hsm.sm.keep hb) z LP q a b hab s hs kx ky (λY hb'=>by
  have:=F4 O (yH T R z).1 (yH T R z).2 mo (ho.keep ((hX X hb).trans (hb'.mono (hX X hb).size))) LP q ms (λV hb2=>by
   have hV:=hX V (hb.trans ((hb'.trans (hb2.mono hb'.size)).mono hb.size))
   exact zh (h.after hV) (hmm.keep hV) H LP)
  rw[hkx,hky]at this
  exact this)
 have hkw:∀x∈nd.kids,Wf x:=λx hx=>by obtain⟨_,kd,q,_⟩:=H.kid z nd x hT hx;exact h.wf q
 have su:=λX (hb:Below w w X)=>E5 (h.after (hX X hb)) (hmm.keep (hX X hb)) hT nd.kids rfl hkw (aK (H.uG hT) ak);have ekz:dV T z=nd.kids:=by unfold dV;rw[hT];rfl
 have hnd:=H.nodup z nd hT;obtain⟨K,hK⟩:=aC (kf R nd.kids);have hKw:Hid (∀x∈K,Wf x):=ah λx hx=>hkw x (vv.1 (hK▸hx)).1;have ajq:Hid K.Nodup:=ah (hK▸hnd.filter _);have hKl:K.length<=5000:=by
  rw[<-hK];exact aK (List.length_filter_le _ _) (aK (H.uG hT) ak)
 have ajr:Hid (Sk T R O q S z K K.length=qJ T R O q S z):=ah (by
  unfold Sk qJ
  rw[List.take_length,ekz,hK])
 have hSc:Hid (∀x∈K,F8 T x = -1\/F8 T x ∉ K):=ah λx hx=>by
  obtain⟨h0,kd,h1,h2⟩:=H.kid z nd x hT (vv.1 (hK▸hx)).1;obtain⟨d,_,hd⟩:=H.deep z nd hT;rcases Om H h1 h0 (h2.symm▸hd)with e|⟨d',hd1,hd2⟩
  . exact .inl e
  . refine .inr λhm => ?_
    have:=hd2.Xb (H.sS hT (vv.1 (hK▸hm)).1 hd);omega
 have ahL:Hid (∀x∈K,∀k,aan T R (Sk T R O q S z K k) q x a.x a.y kx ky (clO s a b) ((a.ins s).mv (-kx) (-ky))=Rp T R O q S z x):=ah λx hx k=>by
  have e:ptO T (Sk T R O q S z K k) q (F8 T x)=ptO T S q (F8 T x):=by
   unfold ptO;split
   . rfl
   . rename_i hne
     have:F8 T x ∉ K.take k:=λhm=>((hSc.out x hx).resolve_left hne) (List.mem_of_mem_take hm);unfold Sk;rw[if_neg this]
  unfold aan Rp;rw[e,hab,hs,hkx,hky]
 rw[hK]at su hnk hns ⊢;have HX:=ah hX;have HR:=ah h;have HM:=ah hmm;have HO:=ah ho;have HH:=ah H;have HNK:=ah hnk;have HNS:=ah hns;obtain⟨cl,hcl⟩:=aC (clO s a b);obtain⟨hd,hhd⟩:=aC ((a.ins s).mv (-kx) (-ky));rw[hcl,hhd]at ahL;simp only[hcl,hhd]at pK;obtain⟨q0,q1,q2,q3⟩:=q;obtain⟨c0,c1,c2,c3⟩:=cl;obtain⟨d0,d1,d2,d3⟩:=hd;simp only[vw,inA]at *;have HW:=ah hw;have HMS:=ah hms;have HSN:=ah hsm;clear hX h hmm ho H hnk hns hcl hhd hkw ekz hnd hK hSc hab hs hkx hky hT LP hw hsm;go_enter Tryz.func37,Tryz.ntmps37
 go_upto_region 1 with(fail)
 generalize hW:ja5 _ _=W0;have A0:At W0 w (.cells (vw t m mo ⟨q0,q1,q2,q3⟩ ms) 98):=hW▸At.new _ _;have hB:Below w w W0:=hW▸aD aG _;clear hW;obtain⟨l0,c00,Kv,U9,c03,c04,c05,c06,c07⟩:=A0.eight;have kI:=pK W0 hB;clear pK
 go_upto_region 2 with(first|(go_at_call 72;(with_reducible refine kI.mono ?_);rintro e w2 ⟨rfl,hb2⟩)|(refine iq (q:=0) Rf bB _ _ rfl rfl rfl (At.new _ _) rfl bI (aae _ _ _ _ _ _ _ _ _ _ _ _) ?_))
 rw[fM (cs:=#[.complex .f64 0 0,.complex .f64 0 0,(),(),(),(),(),(),(),()]) (vs:=#[pt a.x a.y,ng kx ky,c0,c1,c2,c3,d0,d1,d2,d3]) rfl];obtain⟨Bi,hBi⟩:=aC w2.heap.size;generalize hW:World.setRow _ _ _=W3;have AI:At W3 Bi (.cells #[pt a.x a.y,ng kx ky,c0,c1,c2,c3,d0,d1,d2,d3] 153):=hW▸hBi▸At.setRow (At.new _ _) _;have hb3:Below W0 W0 W3:=hW▸aU (aD hb2 _) hb2.size _;rw[hBi];have hB3:=hB.trans (hb3.mono hB.size);have A03:=A0.keep hb3;have hs3:=hb3.size;have gBi:w.heap.size<Bi:=by have:=hb2.size;omega
 have lBi:=AI.lt;have ado:=λX (hb:Below W3 W3 X)=>su X (hB3.trans (hb.mono hB3.size));clear hW hBi hb2 hb3 kI A0 hB l0 c00 Kv U9 c03 c04 c05 c06 c07 su hs3;obtain⟨l0,c00,Kv,U9,c03,c04,c05,c06,c07⟩:=A03.eight;have kk:=ado W3 aG;clear ado
 go_upto_region 3 with(go_at_call 73;(with_reducible refine kk.mono ?_);rintro e w4 ⟨⟨v,rfl,hv⟩,hb4⟩;obtain⟨A,cc,rfl,hI,-⟩:=KS.ints (fD hv qh))
 have hap:Hid (∀a,A=some a->¬ a.block=ms):=ah λa ha e=>by
  have h1:=(hv.lt a.block (by rw[ha];rfl)).1;have h2:=HSN.out.lt;have h3:=hB3.size;omega
 have A04:=A03.keep hb4;have AI4:=AI.keep hb4;have hB4:=hB3.trans (hb4.mono hB3.size);have Ho:=HSN.out.keep hB4;have hs4:=hB4.size;have lms:ms<w.heap.size:=HSN.out.lt;have HI:=ah hI;clear hI hv hb4 kk A03 AI hB3 l0 c00 Kv U9 c03 c04 c05 c06 c07 lBi
 go_loopw [17] (λi wr=>∃k:Nat,k<=K.length/\i=.int .i64 (k:Int)/\SN wr ms (ns+k) (Sk T R O ⟨q0,q1,q2,q3⟩ S z K k)/\Out (λb=>b=ms) w4 wr) (λi _=>K.length-(intOf i).toNat)
 case atStart=>exact⟨0,by omega,rfl,by
  have e0:Sk T R O ⟨q0,q1,q2,q3⟩ S z K 0=S:=by funext y;unfold Sk;rw[List.take_zero,if_neg bI]
  rw[e0,Nat.add_zero]
  exact Ho,Out.refl _ _⟩
 case round =>
  clear Ho;obtain⟨k,hk,rfl,hSr,hO⟩:=hrel;have hsw:=HW.out.size;have akT:=HMS.out;have hB0:Below w0 w0 wr:=(HX.out _ hB4).trans (hO.below ak λb hb e=>by omega);have hsr:=hO.size;have Fb:=HI.out.ae9 (λa ha=>hap.out a ha) hO;by_cases hlt:k<K.length
  . have hkz:(k:Int)<(K.length:Int):=by omega
    obtain⟨b0,o0,rfl,le0,ce0⟩:=Fb.at_ (k:=k) hlt;have hxm:K.getD k 0∈K:=by rw[List.getD,ja6 hlt];exact List.getElem_mem _
    have hnew:Sk T R O ⟨q0,q1,q2,q3⟩ S z K k (K.getD k 0)=none:=by
     unfold Sk;rw[if_neg,HNK.out _ hxm];intro hm;have e:K.getD k 0=K[k]:=by rw[List.getD,ja6 hlt];rfl
     rw[e]at hm;obtain⟨j,hj,hj2⟩:=List.mem_take_iff_getElem.1 hm;have:=(List.getElem_inj ajq.out).1 hj2;omega
    have hsucc:=acB T R O ⟨q0,q1,q2,q3⟩ S z K hlt;obtain⟨x,hx⟩:=aC (K.getD k 0);rw[hx]at ce0 hxm hnew hsucc;have hxw:=hKw.out x hxm;have hsp:=ahL.out x hxm k;have kS:=λX (hb:Below wr wr X)=>Lp (HR.out.after (hB0.trans (hb.mono hB0.size))) (HM.out.keep (hB0.trans (hb.mono hB0.size))) HH.out mo ms (hSr.sm.keep hb) hxw ⟨q0,q1,q2,q3⟩ a.x a.y kx ky ⟨c0,c1,c2,c3⟩ ⟨d0,d1,d2,d3⟩;rw[hsp]at kS;obtain⟨sp,ahM⟩:=aC (Rp T R O ⟨q0,q1,q2,q3⟩ S z x);rw[ahM]at kS hsucc;simp only[inA]at kS;have HSR:=ah hSr;have HSU:=ah hsucc;have ajs:=ah hnew;have A0r:At wr w _:=A04.out (M:=λb=>b=ms) ak hO;have AIr:At wr Bi _:=AI4.out (M:=λb=>b=ms) ak hO;have hns:=HNS.out;obtain⟨l0,c00,Kv,U9,c03,c04,c05,c06,c07⟩:=A0r.eight;clear hSr hsucc hnew hsp ahM hx Fb
    go_upto_region 5 with(fail)
    have hSd:Below wr wr wr.drew:=Below.drew aG;refine jy (S:=λX=>Below wr wr X) 7 ?_ ?_
    . exact hSd
    intro hx;clear hSd;refine aS 0 ?_;refine aS 1 ?_;refine aS 2 ?_;refine mG 3 rfl (BS aam Rq (.tmp 2) rfl bB rfl rfl (λX h=>A0r.keep h)) ?_;refine aS 4 ?_;refine mG 5 rfl (BS aff Rf (.tmp 4) rfl bB rfl rfl (λX h=>AIr.keep h)) ?_;refine tk1 6 ?_;refine aj.Step.call eD (kS _ hx) ?_;rintro e w5 ⟨rfl,hb⟩;replace hx:=Below.ay hx aF hb;clear hb;refine⟨_,rfl,λ_=>hx,?_⟩
    (try simp only[bV,bW,bX,tks])
    obtain⟨w6,hrun,tX,jM⟩:=(HSR.out.keep hx).put ak hxw ajs.out sp;have Bg:=ah hrun;rw[HSU.out]at tX;have HS6:=ah tX;have Cq:Out (λb=>b=ms) w4 w6:=(hO.trans (Out.of_below hx)).trans jM;clear hrun tX kS;refine tk1 7 ?_;refine aj.Step.skip (rG (.tmp 22) (.tmp 23) (.tmp 27) rfl rfl rfl rfl Bg.out) ?_;refine⟨λhlt=>absurd hlt aN,?_⟩
    (try simp only[bV,bW,bX,tks])
    refine jk ?_;go_wp2
    go_roundw
    case rel=>exact⟨k+1,by omega,by go_num,HS6.out,Cq⟩
    case measure=>exact wF hlt
  . obtain rfl:k=K.length:=by omega
    rw[ajr.out]at hSr;have HSR:=ah hSr;have SG:Out (λb=>b=ms) w wr:=(Out.of_below hB4).trans hO;clear hSr;go_wp2;refine bodyPost_end (results_none rfl _ _ _) rfl ⟨rfl,HSR.out,SG⟩
end
def spC(S:Int->Option (Pr×Pr))(l:List Int):Nat:=l.countP λz=>(S z).isSome
theorem VR{p q:Int->Bool}(l:List Int)(h:∀x∈l,p x=true->q x=false):l.countP (λx=>p x||q x)=l.countP p+l.countP q:=by
 induction l with
 | nil=>rfl
 | cons x l ih =>
   have ih:=ih λy hy=>h y (ja7 _ hy);rw[List.countP_cons,List.countP_cons,List.countP_cons,ih];have hx:=h x jb1;cases e:p x with
   | true=>rw[hx e];simp;omega
   | false=>simp;omega
theorem Ga:∀{K l:List Int},K.Nodup->l.Nodup->(∀x∈K,x∈l)->l.countP (λx=>decide (x∈K))=K.length:=by
 intro K l hK hl h;rw[List.countP_eq_length_filter];refine List.Perm.length_eq ((List.perm_ext_iff_of_nodup (hl.filter _) hK).2 λx => ?_);rw[List.mem_filter,decide_eq_true_iff];exact⟨λq=>q.2,λq=>⟨h x q,q⟩⟩
theorem acC{T:Tr.T}{O:Int->Option (Int×Int)}{q:Pr}(H:Tr.WF T)(hT:T z=some nd)(hn:∀k∈kf R nd.kids,S k=none):spC (qJ T R O q S z) (Tr.ord T)=spC S (Tr.ord T)+(kf R nd.kids).length:=by
 have ek:dV T z=nd.kids:=by unfold dV;rw[hT];rfl
 have e:(λy=>(qJ T R O q S z y).isSome)=λy=>(S y).isSome||decide (y∈kf R nd.kids):=by
  funext y;unfold qJ;rw[ek];by_cases hy:y∈kf R nd.kids
  . rw[if_pos hy,hn y hy];simp[hy]
  . rw[if_neg hy];simp[hy]
 unfold spC
 rw[e,VR _ λx _ hx=>by
  rw[decide_eq_false_iff_not];intro hm
  rw[hn x hm]at hx;cases hx]
 rw[Ga (K:=kf R nd.kids) ((H.nodup z nd hT).filter _) H.jl λx hx=>by
  obtain⟨_,kd,h1,_⟩:=H.kid z nd x hT (vv.1 hx).1
  exact H.iE.2 ⟨kd,h1⟩]
theorem afh(S:Int->Option (Pr×Pr))(l:List Int):spC S l<=l.length:=List.countP_le_length
theorem ahN{T:Tr.T}{q:Pr}(H:Tr.WF T):spC (Gz T R q) (Tr.ord T)=if cA T R 0=true then 1 else 0:=by
 obtain⟨nd,h0,_⟩:=H.root;unfold spC Gz;by_cases hc:cA T R 0=true
 . rw[if_pos hc]
   have e:(λz:Int=>(if z=0/\cA T R 0=true then some ((R 0).getD p0,q)else none:Option (Pr×Pr)).isSome)=λz=>decide (z∈[(0:Int)]):=by
    funext z;by_cases hz:z=0<;>simp[hz,hc]
   rw[e,Ga (K:=[0]) bI H.jl λx hx=>by rw[List.mem_singleton.1 hx];exact H.iE.2 ⟨nd,h0⟩];rfl
 . rw[if_neg hc,List.countP_eq_zero]
   intro z _;rw[if_neg λe=>hc e.2];simp
def Rs(ww wh:Int):Pr:=⟨0,0,Fx.mx (Fx.cut ww) 0,Fx.mx (Fx.cut wh) 0⟩
theorem SN.look_ok{W:World}{m n:Nat}(h:SN W m n S)(hz:Wf z){a b:Pr}(hs:(S z).getD (p0,p0)=(a,b)):(Instr.lookup 32 (.map (some m)) (.int .i64 z) true).run ja0 W=.ok (.tuple #[.agg #[a.x,a.y,a.w,a.h,b.x,b.y,b.w,b.h],.bool (S z).isSome]) W:=by
 obtain⟨g,h,r⟩:=h;have k:=h.look_ok jH Tryz.underlying32 (z:=.agg #[(),(),(),(),(),(),(),()]) bE (jh hz);rw[r]at k;rw[k];cases e:S z with
 | none=>rw[e]at hs;cases hs;rfl
 | some p=>rw[e]at hs;cases hs;rfl
theorem afi(t m mo ms:Nat)(q:Pr):∀z∈(vw t m mo q ms).toList,z.oneCell'=true:=by
 intro z hz;simp[vw]at hz;rcases hz with rfl|rfl|rfl|rfl|rfl|rfl|rfl|rfl<;>rfl
theorem aao(t m mo ms:Nat)(x y u v:Int)(W:World):(Instr.build 98 #[(0,.pointer t),(1,.map (some m)),(2,.map (some mo)),(3,.agg #[x,y,u,v]),(4,.map (some ms))]).run ja0 W=.ok (.agg #[t,.map (some m),.map (some mo),x,y,u,v,.map (some ms)]) W:=by kernel_rfl
section
variable {w:World} {t n:Nat} {L:Lay} {T:Tr.T} {m:Nat} {R:Int->Option Pr} {O:Int->Option (Int×Int)}
theorem Ls(h:fE w t L T n)(hmm:RM w m R)(H:Tr.WF T)(hz:Wf z):Calls ja0 35 #[t,.map (some m),z] w λe w'=>e=.returned (.bool ((T z).isSome&&cA T R z))/\Below w w w':=by
 cases hT:T z with
 | none=>exact(yC h hmm hz hT).mono λe w' ⟨h1,h2⟩=>⟨h1,h2▸Below.refl _ _⟩
 | some nd =>
   obtain⟨d,PW,hd⟩:=H.deep z nd hT;have key:=oN h hmm (λ_ h=>H.iF h) hd;rw[<-F7 H hd 65 ak]at key;exact key
theorem Ie.fresh{q:Pr}(h:Ie T R O q l S){x:Int}(H:Tr.WF T)(hT:T x=some nd)(hx:x ∉ l):∀k∈kf R nd.kids,S k=none:=λk hk=>by
 obtain⟨h0,kd,h1,h2⟩:=H.kid x nd k hT (vv.1 hk).1;cases e:S k with
 | none=>rfl
 | some v =>
   rcases h.live k (by rw[e];rfl)with q0|⟨nd',q1,q2⟩
   . exact absurd q0 h0
   . rw[h1]at q1;cases q1;rw[h2]at q2;exact absurd q2 hx
theorem xE(h:fE w t L T n)(hmm:RM w m R)(H:Tr.WF T)(mo:Nat)(ho:OM w mo O)(ww wh:Int):Calls ja0 9 #[t,.map (some m),.map (some mo),ww,wh] w λe w'=>(∃ms,e=.returned (.map (some ms))/\w.heap.size<=ms/\SN w' ms (spC (spF T R O (Rs ww wh)) (Tr.ord T)) (spF T R O (Rs ww wh)))/\Below w w w':=by
 have HR:=ah h;have HM:=ah hmm;have HO:=ah ho;have HH:=ah H;have hmk:=@run_makeMap ja0;obtain⟨nd0,hT0,ajt⟩:=H.root;have z0w:Wf 0:=h.wf hT0;have kC:=λX (hb:Below w w X)=>Ls (h.after hb) (hmm.keep hb) H z0w;simp only[hT0,Option.isSome_some,Bool.true_and]at kC;have kO:=λX=>uQ 0 0 ww wh X;rw[show Fx.cut 0=0 from rfl]at kO;obtain⟨q2,hq2⟩:=aC (Fx.mx (Fx.cut ww) 0);obtain⟨q3,hq3⟩:=aC (Fx.mx (Fx.cut wh) 0);have ew:Rs ww wh=⟨0,0,q2,q3⟩:=by unfold Rs;rw[hq2,hq3]
 rw[hq2,hq3]at kO;rw[ew];have hbv:=aao;obtain⟨c,hc⟩:=aC (cA T R 0);rw[hc]at kC;have aju:=H.jm;have HC:=ah hc;have kT:=λX (hb:Below w w X)=>EJ (h.after hb) H.vT ak;clear h hmm ho H hq2 hq3 ew hc hT0 ajt;go_enter Tryz.func9,Tryz.ntmps9
 go_upto_region 2 with(first|(go_at_call 16;(with_reducible refine(kO _).mono ?_);rintro e w1 ⟨rfl,hb1⟩)|(refine iq (q:=0) Rq bB _ _ rfl rfl rfl (At.new _ _) rfl bI (afi t m mo w1.heap.size ⟨0,0,q2,q3⟩) ?_))
 obtain⟨ms,hms⟩:=aC w1.heap.size;have hG:SN (w1.alloc (.map #[] 0)) ms 0 (λ_=>none):=⟨λ_=>none,hms▸GM.made _ _,λz=>rfl⟩;generalize hW:ja5 _ _=W2;have A2:At W2 (ms+1) (.cells (vw t m mo ⟨0,0,q2,q3⟩ ms) 98):=by
  rw[<-hW,<-hms];exact At.new' _ bI
 have hb2:Below w1 w1 W2:=hW▸aD (aD aG _) _;have hS2:SN W2 ms 0 (λ_=>none):=hG.keep (hW▸aD aG _);have hB2:=hb1.trans (hb2.mono hb1.size);have gms:w.heap.size<=ms:=hms▸hb1.size;have lms:=hS2.lt;have kC2:=kC W2 hB2;rw[hms];clear hW hms hG hb1 hb2 kO hbv hmk kC
 go_upto_if 26 with(go_at_call 35;(with_reducible refine kC2.mono ?_);rintro e w3 ⟨rfl,hb3⟩)
 have A3:=A2.keep hb3;have rY:=hS2.keep hb3;have hB3:=hB2.trans (hb3.mono hB2.size);have ajv:=rY.lt;clear A2 hS2 hB2 hb3 kC2 lms;go_cut []from 27 to 30 (λW=>SN W ms (if c=true then 1 else 0) (Gz T R ⟨0,0,q2,q3⟩)/\Out (λb=>b=ms) w3 W)
 case first =>
  cases c with
  | false =>
    have e0:Gz T R ⟨0,0,q2,q3⟩=λ_=>none:=by
     funext y;unfold Gz;rw[if_neg λh=>by rw[HC.out]at h;cases h.2]
    have HS3:=ah rY;rw[<-e0]at HS3;clear rY e0;go_wp2
    go_meet
    case rel=>exact⟨HS3.out,Out.refl _ _⟩
  | true =>
    have e0:(λy=>if y=0 then some ((R 0).getD p0,(⟨0,0,q2,q3⟩:Pr))else none)=Gz T R ⟨0,0,q2,q3⟩:=by
     funext y;unfold Gz;rw[HC.out];by_cases h:y=0<;>simp[h]
    have kU:=λX (hb:Below w3 w3 X)=>yG (t:=t) (HM.out.keep (hB3.trans (hb.mono hB3.size))) z0w ⟨0,0,q2,q3⟩ mo ms;obtain⟨l0,c00,Kv,U9,c03,c04,c05,c06,c07⟩:=A3.eight;have HS3:=ah rY;have HE:=ah e0;clear rY e0
    go_upto_region 3 with(fail)
    have hSd:Below w3 w3 w3.drew:=Below.drew aG;refine jy (S:=λX=>Below w3 w3 X) 4 ?_ ?_
    . exact hSd
    intro hx;clear hSd;refine aS 0 ?_;refine aS 1 ?_;refine mG 2 rfl (BS aam Rq (.tmp 11) rfl bB rfl rfl (λX h=>A3.keep h)) ?_;refine tk1 3 ?_;refine aj.Step.call eD (kU _ hx) ?_;rintro e w5 ⟨rfl,hb⟩;replace hx:=Below.ay hx aF hb;clear hb;refine⟨_,rfl,λ_=>hx,?_⟩
    (try simp only[bV,bW,bX,tks])
    obtain⟨w6,hrun,tX,jM⟩:=(HS3.out.keep hx).put (by simp[maxLen]) z0w rfl ((R 0).getD p0,(⟨0,0,q2,q3⟩:Pr));have Bg:=ah hrun;rw[HE.out]at tX;have HS6:=ah tX;have Cq:Out (λb=>b=ms) w3 w6:=(Out.of_below hx).trans jM;clear hrun tX kU;refine tk1 4 ?_;refine aj.Step.skip (rG (.tmp 28) (.const (.int .i64 0)) (.tmp 30) rfl rfl rfl rfl Bg.out) ?_;refine⟨λhlt=>absurd hlt aN,?_⟩
    (try simp only[bV,bW,bX,tks])
    refine jk ?_;go_wp2
    go_meet
    case rel=>exact⟨HS6.out,Cq⟩
 case rest =>
  obtain⟨hSc,hOc⟩:=hcut;have hn0:(if c=true then 1 else 0)=spC (Gz T R ⟨0,0,q2,q3⟩) (Tr.ord T):=by rw[ahN HH.out,HC.out]
  rw[hn0]at hSc;have hs3:=hB3.size;have hBc:Below w w wc:=hB3.trans (hOc.below hs3 λb hb e=>by omega);have Ac:At wc (ms+1) _:=A3.out (M:=λb=>b=ms) ak hOc;have kTc:=kT wc hBc;clear hn0 kT A3 rY hOc hs3 hB3 ajv
  go_upto_region 5 with(go_at_call 12;(with_reducible refine kTc.mono ?_);rintro e w4 ⟨⟨v,rfl,hv⟩,hb4⟩;obtain⟨A,cc,rfl,hI,-⟩:=KS.ints (fD hv qh))
  have lms:=hSc.lt
  have hap:Hid (∀a,A=some a->¬ a.block=ms):=ah λa ha e=>by
   have h1:=(hv.lt a.block (by rw[ha];rfl)).1;omega
  have A4:=Ac.keep hb4;have hB4:=hBc.trans (hb4.mono hBc.size);have Ho:=hSc.keep hb4;have HI:=ah hI;have lm4:=A4.lt;clear hI hv hb4 kTc Ac hBc hSc lms;obtain⟨o,ho⟩:=aC (Tr.ord T);rw[ho]at HI Ho aju ⊢;have HOR:=ah ho;have hs4:=hB4.size;clear ho
  go_loopw [34] (λi wr=>∃k:Nat,k<=o.length/\i=.int .i64 (k:Int)/\SN wr ms (spC (Ot T R O ⟨0,0,q2,q3⟩ (o.take k) (Gz T R ⟨0,0,q2,q3⟩)) o) (Ot T R O ⟨0,0,q2,q3⟩ (o.take k) (Gz T R ⟨0,0,q2,q3⟩))/\Out (λb=>b=ms) w4 wr/\At wr (ms+1) (.cells (vw t m mo ⟨0,0,q2,q3⟩ ms) 98)) (λi _=>o.length-(intOf i).toNat)
  case atStart=>exact⟨0,by omega,rfl,by rw[List.take_zero];exact Ho,Out.refl _ _,A4⟩
  case round =>
   clear Ho A4;obtain⟨k,hk,rfl,hSr,hO,Ar⟩:=hrel;have hBr:Below w w wr:=hB4.trans (hO.below hs4 λb hb e=>by omega);have Fb:=HI.out.ae9 (λa ha=>hap.out a ha) hO;by_cases hlt:k<o.length
   . have hkz:(k:Int)<(o.length:Int):=by omega
     obtain⟨b0,o0,rfl,le0,ce0⟩:=Fb.at_ (k:=k) hlt;have hxm:o.getD k 0∈o:=by rw[List.getD,ja6 hlt];exact List.getElem_mem _
     have ek:o.getD k 0=o[k]:=by rw[List.getD,ja6 hlt];rfl
     have hnd:o.Nodup:=HOR.out▸HH.out.jl
     have hxn:o.getD k 0 ∉ o.take k:=λhm=>by
      rw[ek]at hm;obtain⟨j,hj,hj2⟩:=List.mem_take_iff_getElem.1 hm;have:=(List.getElem_inj hnd).1 hj2;omega
     have hsp:Ie T R O ⟨0,0,q2,q3⟩ (o.take k) (Ot T R O ⟨0,0,q2,q3⟩ (o.take k) (Gz T R ⟨0,0,q2,q3⟩)):=by
      have:=aal (R:=R) (O:=O) (q:=⟨0,0,q2,q3⟩) HH.out (o.take k).reverse (o.drop k) (by rw[List.reverse_reverse,List.take_append_drop];exact HOR.out)
      rwa [List.reverse_reverse]at this
     have hsucc:Ot T R O ⟨0,0,q2,q3⟩ (o.take (k+1)) (Gz T R ⟨0,0,q2,q3⟩)=if (Ot T R O ⟨0,0,q2,q3⟩ (o.take k) (Gz T R ⟨0,0,q2,q3⟩) (o.getD k 0)).isSome=true then qJ T R O ⟨0,0,q2,q3⟩ (Ot T R O ⟨0,0,q2,q3⟩ (o.take k) (Gz T R ⟨0,0,q2,q3⟩)) (o.getD k 0)else Ot T R O ⟨0,0,q2,q3⟩ (o.take k) (Gz T R ⟨0,0,q2,q3⟩):=by
      rw[List.take_succ_eq_append_getElem hlt,Ou,<-ek]
     have ahO:o.getD k 0∈Tr.ord T:=by rw[HOR.out];exact hxm
     obtain⟨nd,hT⟩:=HH.out.iE.1 ahO;clear ahO;have hfr:=hsp.fresh HH.out hT hxn;have hcnt:=acC (O:=O) (q:=⟨0,0,q2,q3⟩) HH.out hT hfr;rw[HOR.out]at hcnt;obtain⟨S,hS⟩:=aC (Ot T R O ⟨0,0,q2,q3⟩ (o.take k) (Gz T R ⟨0,0,q2,q3⟩));obtain⟨x,hx⟩:=aC (o.getD k 0);rw[hS]at hSr hsucc hfr hcnt;rw[hx]at ce0 hsucc hT hcnt;obtain⟨nS,hnS⟩:=aC (spC S o);have ahP:=afh S o;rw[hnS]at hSr hcnt ahP;have hxw:=HR.out.wf hT;obtain⟨⟨a,b⟩,hab⟩:=aC ((S x).getD (p0,p0));have hlk:=hSr.look_ok hxw hab;obtain⟨sb,hsb⟩:=aC ((S x).isSome);rw[hsb]at hlk;have HSU:=ah hsucc;have HSB:=ah hsb;have HCN:=ah hcnt;have HSR:=ah hSr;have HNS:=ah hnS;have hkl:=aK (List.length_filter_le (λk=>(R k).isSome) nd.kids) (HH.out.uG hT);have kE:=λX (hb:Below wr wr X)=>Ov HR.out HM.out HH.out mo ms HO.out (hBr.trans (hb.mono hBr.size)) gms (hSr.keep hb) hT hfr (show nS+(kf R nd.kids).length<maxLen by unfold kf;simp only[maxLen];omega) ⟨0,0,q2,q3⟩;obtain⟨l0,c00,Kv,U9,c03,c04,c05,c06,c07⟩:=Ar.eight;clear hsucc hsb hcnt hSr hnS hab hS hx hsp hxn ek hxm hnd Fb hfr ahP;cases sb with
     | false =>
       go_wp2
       go_roundw
       case rel =>
        have e1:=HSU.out;rw[if_neg (by rw[HSB.out];simp)]at e1;refine⟨k+1,by omega,by go_num,?_,hO.trans (Out.of_below (aD aG _)),Ar.keep (aD aG _)⟩;rw[e1,HNS.out];exact HSR.out.keep (aD aG _)
       case measure=>exact wF hlt
     | true =>
       go_upto_region 9 with(fail)
       generalize hW:ja5 _ _=W5;have hb5:Below wr wr W5:=hW▸aD aG _;have A5:=Ar.keep hb5;have Gq:=hO.trans (Out.of_below hb5);have kE5:=kE W5 hb5;simp only[vw]at kE5;clear hW l0 c00 Kv U9 c03 c04 c05 c06 c07 Ar hlk kE hb5;obtain⟨l0,c00,Kv,U9,c03,c04,c05,c06,c07⟩:=A5.eight
       go_wp2_with (go_at_call 37;(with_reducible refine kE5.mono ?_);rintro e w6 ⟨rfl,tX,jM⟩)
       go_roundw
       case rel =>
        have e1:=HSU.out;rw[if_pos HSB.out]at e1;refine⟨k+1,by omega,by go_num,?_,Gq.trans jM,A5.out (M:=λb=>b=ms) ak jM⟩;rw[e1,HCN.out];exact tX
       case measure=>exact wF hlt
   . obtain rfl:k=o.length:=by omega
     rw[List.take_length]at hSr;have e1:spF T R O ⟨0,0,q2,q3⟩=Ot T R O ⟨0,0,q2,q3⟩ o (Gz T R ⟨0,0,q2,q3⟩):=by unfold spF;rw[HOR.out]
     rw[<-e1]at hSr;have HSR:=ah hSr;obtain⟨l0,c00,Kv,U9,c03,c04,c05,c06,c07⟩:=Ar.eight;clear hSr e1;go_wp2
     go_ret
     exact⟨⟨ms,rfl,gms,by rw[HOR.out];exact HSR.out⟩,hBr⟩
end
end
section
open Go.Deep Go.Joins
open List renaming getElem?_eq_getElem → ja6
variable {a:Option Addr}
structure vB where
 k:Int
 a:Int
 b:Int
 c:Int
 s:Re.St
def fU(x:vB):Array Value:=#[.int .i64 x.k,.int .i64 x.a,.int .i64 x.b,.int .i64 x.c]++cells x.s
structure Ow(x:vB):Prop where
 k:Wf x.k
 a:Wf x.a
 b:Wf x.b
 c:Wf x.c
 s:Fits x.s
theorem CF(x:vB):(fU x).size=59:=by simp[fU,dB]
theorem zi(x:vB){j:Nat}(h:j<55):(fU x)[4+j]? = some (cell x.s j):=by
 unfold fU;rw[Array.getElem?_append_right bI,show 4+j-(#[x.k,x.a,x.b,x.c]:Array Value).size=j by simp,iT x.s h]
theorem ou(x:vB){j:Nat}(h:j<4):(fU x)[j]? = (#[Value.int .i64 x.k,.int .i64 x.a,.int .i64 x.b,.int .i64 x.c]:Array Value)[j]? := by
 unfold fU;rw[Array.getElem?_append_left (by simpa using h)]
def Jv(W:World)(b o:Nat)(x:vB):Prop:=∀j,j<59->W.cell? ⟨b,o+j,none⟩=(fU x)[j]?
theorem aap{W:World}{b o:Nat}{x:vB}(h:Jv W b o x):(Instr.loadAt 76 (.pointer (some ⟨b,o,none⟩))).run ja0 W=.ok (.agg (fU x)) W:=by
 have hl:=run_loadCells_list (P:=ja0) W ⟨b,o,none⟩ (fU x).toList (λj v hj=>by
  have hj':j<59:=by have:=(List.getElem?_eq_some_iff.1 hj).1;simpa[CF]using this
  rw[addr_add,h j hj'];rw[Array.getElem?_toList]at hj
  exact hj)
 rw[Array.length_toList,CF]at hl;have hi:(isAgg 76).run ja0 W=.ok true W:=by kernel_rfl
 have hz:(sizeOf 76).run ja0 W=.ok 59 W:=by kernel_rfl
 simp only[Instr.loadAt,Instr.sureAddr,Sem.run_bind,Sem.run_pure,Result.andThen_ok,loadVar,hi,hz,hl,if_true]
theorem Dy{ops:Array Oper}{rest:List Oper}{o:Oper}{a:Act}{w:World}{Q:Exit->Act->World->Prop}(hw:Region.wanted o (yielded ops a.tmps)=true)(y:Operand)(ho:o.op=.load 76 y){b k:Nat}(hy:a.eval y=.pointer (some ⟨b,k,none⟩)){x:vB}(hs:Jv w b k x)
  (h:wpList ja0 ops Q rest (a.put o.dst (.agg (fU x))) w):wpList ja0 ops Q (o::rest) a w :=
 fq hw (by unfold execOp;simp only[ho,hy,Sem.run_bind,aap hs,Result.andThen_ok,Sem.run_pure]) h
theorem Ox:Tryz.prog.cellsOf 76=59:=by kernel_rfl
def Oy(w:World)(a:Option Addr)(len cap:Nat):Prop :=
 (a=none/\len=0/\cap=0)\/∃x,a=some x/\len<=cap/\cap<=maxLen/\∃l:Nat->vB,∀i,i<len->Ow (l i)/\∀j,j<59->w.cell? (x.add (i*59+j))=(fU (l i))[j]?
section
variable {H:Type} {enc:TypeId×Value->H} {w:World} {base:Nat} {spare:Nat->Bool} {held:Bool}
theorem aaq{n:Nat}{cs:List Value}{y:DataW H×List MemPlace}(h:DataW.trod enc ja0 w base spare held n 76 cs=some y):∃x:vB,cs=(fU x).toList/\Ow x:=by
 obtain⟨xs,k,rfl,_,hl,hxl,hf⟩:=DataW.trod_struct Tryz.underlying76 h;rw[Ox]at hl;have ex:∀i,i<5->∃y,xs[i]? = some y:=λi hi=>⟨_,ja6 (by rw[hxl];exact hi)⟩;obtain⟨y0,q0⟩:=ex 0 aN;obtain⟨y1,q1⟩:=ex 1 aN;obtain⟨y2,q2⟩:=ex 2 aN;obtain⟨y3,q3⟩:=ex 3 aN;obtain⟨y4,q4⟩:=ex 4 aN;have g0:DataW.trod enc ja0 w base spare held k 3 ((cs.drop 0).take (Tryz.prog.cellsOf 3))=some y0:=(hf 0 _ rfl).trans q0;have g1:DataW.trod enc ja0 w base spare held k 3 ((cs.drop 1).take (Tryz.prog.cellsOf 3))=some y1:=(hf 1 _ rfl).trans q1;have g2:DataW.trod enc ja0 w base spare held k 3 ((cs.drop 2).take (Tryz.prog.cellsOf 3))=some y2:=(hf 2 _ rfl).trans q2;have g3:DataW.trod enc ja0 w base spare held k 3 ((cs.drop 3).take (Tryz.prog.cellsOf 3))=some y3:=(hf 3 _ rfl).trans q3;have g4:DataW.trod enc ja0 w base spare held k 59 ((cs.drop 4).take (Tryz.prog.cellsOf 59))=some y4:=(hf 4 _ rfl).trans q4;rw[yT]at g0 g1 g2 g3;rw[zM]at g4;obtain⟨a0,e0,_,w0⟩:=DataW.trod_int Tryz.underlying3 g0;obtain⟨a1,e1,_,w1⟩:=DataW.trod_int Tryz.underlying3 g1;obtain⟨a2,e2,_,w2⟩:=DataW.trod_int Tryz.underlying3 g2;obtain⟨a3,e3,_,w3⟩:=DataW.trod_int Tryz.underlying3 g3;have g5:DataW.Trod enc ja0 w base spare held 59 (.agg ((cs.drop 4).take 55).toArray) y4.1 y4.2:=⟨k,g4⟩;obtain⟨s,e4,ws⟩:=Qb g5;injection e4 with e4;have e4':(cs.drop 4).take 55=(cells s).toList:=by rw[<-e4]
 refine⟨⟨a0,a1,a2,a3,s⟩,?_,⟨w0,w1,w2,w3,ws⟩⟩;obtain⟨v0,v1,v2,v3,r,rfl⟩:∃v0 v1 v2 v3 r,cs=v0::v1::v2::v3::r:=by
  clear e0 e1 e2 e3 e4 e4' g0 g1 g2 g3 g4 g5 hf h;rcases cs with _ | ⟨v0,_ | ⟨v1,_ | ⟨v2,_ | ⟨v3,r⟩⟩⟩⟩<;>first|exact⟨_,_,_,_,_,rfl⟩|exact absurd hl bI
 simp at e0 e1 e2 e3 hl;subst e0 e1 e2 e3;have hr:(List.drop 4 (Value.int .i64 a0 :: .int .i64 a1 :: .int .i64 a2 :: .int .i64 a3::r)).take 55=r:=List.take_of_length_le jB;rw[hr]at e4';simp[fU,e4']
theorem VU{n:Nat}{cs:List Value}{x:DataW H×List MemPlace}(h:DataW.trod enc ja0 w base spare held n 22 cs=some x) :
  ∃a len cap,cs=[.slice a len cap]/\Oy w a len cap:=by
 rcases open_slice Tryz.underlying22 h with⟨rfl,_⟩|⟨a,len,cap,m,k,D,Pl,rfl,hb,hl,hm,hmm,rfl,hx⟩
 . exact⟨none,0,0,rfl,.inl ⟨rfl,rfl,rfl⟩⟩
 . refine⟨some a,len,cap,rfl,.inr ⟨a,rfl,hl,hm,?_⟩⟩
   have each:∀i,i<len->∃q:vB,Ow q/\∀j,j<59->w.cell? (a.add (i*59+j))=(fU q)[j]? := by
    intro i hi;have him:i<m:=by clear hx;rw[hmm];split<;>omega
    have h12:=hx i him;rw[Ox]at h12;obtain⟨cs',h1,h2⟩:=h12;have hcell:=(World.cells?_some h1).2.2;obtain⟨q,hcs,hq⟩:=aaq h2;refine⟨q,hq,λj hj => ?_⟩;have:=hcell j hj;rw[hcs,Array.getElem?_toList]at this;rw[<-this,add_add]
   have:Inhabited vB:=⟨⟨0,0,0,0,Re.zero⟩⟩;obtain⟨q,hq⟩:=choose_lt each;exact⟨q,hq⟩
end
theorem Oy.cap{w:World}{len cap:Nat}(h:Oy w a len cap):len<=cap/\len<=9223372036854775807:=by
 rcases h with⟨_,rfl,rfl⟩|⟨_,_,h,h2,_⟩
 . omega
 . simp only[maxLen]at h2;omega
def aar(w:World)(a:Option Addr)(len:Nat)(l:Nat->vB):Prop:=0<len->∃b off,a=some ⟨b,off,none⟩/\b<w.heap.size/\∀k,k<len->Ow (l k)/\Jv w b (off+k*59) (l k)
theorem Oy.acts{w:World}{len cap:Nat}(h:Oy w a len cap):∃l,aar w a len l:=by
 rcases h with⟨rfl,rfl,rfl⟩|⟨x,rfl,_,_,l,hc⟩
 . exact⟨λ_=>⟨0,0,0,0,Re.zero⟩,λh=>absurd h ak⟩
 . refine⟨l,λh0 => ?_⟩
   obtain⟨b,off,spot⟩:=x;have c0:=(hc 0 h0).2 0 ak;rw[ou _ ak]at c0;have hspot:spot=none:=by
    have:=World.cell?_spot c0;simpa[Addr.add]using this
   subst hspot;have hb:=World.block_lt_of_cell? _ _ c0;refine⟨b,off,rfl,by unfold Addr.add at hb;simpa using hb,λk hk=>⟨(hc k hk).1,λj hj => ?_⟩⟩;have e:=(hc k hk).2 j hj;simp only[addr_add,<-Nat.add_assoc]at e;exact e
theorem aar.after{W W':World}{n:Nat}{l:Nat->vB}(h:aar W a n l)(hb:Below W W W'):aar W' a n l:=λh0=>by
 obtain⟨b,off,e,hl,hc⟩:=h h0;have hsz:=hb.size;refine⟨b,off,e,by omega,λk hk=>⟨(hc k hk).1,λj hj => ?_⟩⟩;rw[<-(hc k hk).2 j hj];exact hb.cell (p:=⟨b,off+k*59+j,none⟩) hl
def CG(T:Tr.T):Prop:=∀z nd,T z=some nd->Fits nd.sty
theorem Jw:Fits Re.zero:=λi _ _=>bE
end
section
open Go.Deep Go.Joins Go.Shelf
variable {W W':World}{x:Int}{L:Lay}
def fu(T' T:Tr.T):Prop:=∀z nd,T' z=some nd->nd.sty=Re.zero\/∃q,T z=some q/\q.sty=nd.sty
theorem fu.refl(T:Tr.T):fu T T:=λz nd h => .inr ⟨nd,h,rfl⟩
theorem fu.trans{T T' T'':Tr.T}(h:fu T'' T')(k:fu T' T):fu T'' T:=λz nd hz=>by
 rcases h z nd hz with e|⟨q,hq,e⟩
 . exact .inl e
 . rw[<-e];exact k z q hq
theorem fu.set{T:Tr.T}{p nd:Tr.Nd}(hx:T x=some p)(he:nd.sty=p.sty):fu (Tr.set T x nd) T:=λz q hz=>by
 by_cases e:z=x
 . subst e;rw[Tr.aX]at hz;cases hz;exact .inr ⟨p,hx,he.symm⟩
 . rw[Tr.aT _ _ e]at hz;exact .inr ⟨q,hz,rfl⟩
theorem fu.leave(T:Tr.T)(x:Int):fu (Tr.leave T x) T:=by
 unfold Tr.leave;split
 . exact fu.refl _
 . split
   . exact fu.refl _
   . rename_i p hp;exact fu.set hp rfl
theorem fu.enter(T:Tr.T)(x u:Int)(i:Nat):fu (Tr.enter T x u i) T:=by
 unfold Tr.enter;split
 . rename_i p nd hu hx
   have h1:fu (Tr.set T u { p with kids:=Tr.wi p.kids i x }) T:=fu.set hu rfl;intro z q hz;by_cases e:z=x
   . subst e;rw[Tr.aX]at hz;cases hz;exact .inr ⟨nd,hx,rfl⟩
   . rw[Tr.aT _ _ e]at hz;exact h1 z q hz
 . exact fu.refl _
theorem fu.del(T:Tr.T)(l:List Int):fu (Tr.del T l) T:=λz q hz=>by
 unfold Tr.del at hz;split at hz
 . cases hz
 . exact .inr ⟨q,hz,rfl⟩
theorem fu.lG(T:Tr.T)(u a:Int):fu (Tr.lG T u a) T:=by
 unfold Tr.lG;split
 . unfold Tr.pU
   refine(fu.enter _ _ _ _).trans λz q hz => ?_;by_cases e:z=Tr.free T
   . subst e;rw[Tr.aX]at hz;cases hz;exact .inl rfl
   . rw[Tr.aT _ _ e]at hz;exact .inr ⟨q,hz,rfl⟩
 . exact fu.refl _
theorem fu.nX(T:Tr.T)(x:Int):fu (Tr.nX T x) T:=by
 unfold Tr.nX;split
 . exact(fu.del _ _).trans (fu.leave _ _)
 . exact fu.refl _
theorem fu.mQ(T:Tr.T)(x u a:Int):fu (Tr.mQ T x u a) T:=by
 unfold Tr.mQ;split
 . exact(fu.enter _ _ _ _).trans (fu.leave _ _)
 . exact fu.refl _
theorem CG.le{T T':Tr.T}(h:CG T)(k:fu T' T):CG T':=λz nd hz=>by
 rcases k z nd hz with e|⟨q,hq,e⟩
 . rw[e];exact Jw
 . rw[<-e];exact h z q hq
theorem CG.lI{T:Tr.T}(h:CG T)(z:Int){s:Re.St}(hs:Fits s):CG (lI T z s):=by
 unfold Fix.lI;split
 . unfold Tr.GH
   split
   . exact h
   . intro y nd hy
     by_cases e:y=z
     . subst e;rw[Tr.aX]at hy;cases hy;exact hs
     . rw[Tr.aT _ _ e]at hy;exact h y nd hy
 . exact h
theorem Gc(T:Tr.T)(z:Int)(s:Re.St):Tr.Alike T (lI T z s):=by
 unfold Fix.lI;split
 . exact Tr.TW T z s
 . exact λ_=>rfl
theorem VW{t s:Tr.T}(H:Tr.WF t)(h:Tr.Alike t s){nd:Tr.Nd}(hx:t x=some nd):Tr.sub s 64 x=Tr.sub t 64 x/\Tr.hgt s 64 x=Tr.hgt t 64 x :=
 ((H.iO hx).congr λy _ nd hy=>by obtain⟨nd',h1,_,h2⟩:=h.some hy;exact⟨nd',h1,h2⟩).2
theorem VX{t s:Tr.T}(H:Tr.WF t)(h:Tr.Alike t s):Tr.ord s=Tr.ord t:=by
 obtain⟨nd,h1,_⟩:=H.root;exact(VW H h h1).1
theorem Inv.set{t n:Nat}{T:Tr.T}(h:Inv W t L T n){z:Int}{s:Re.St}(hr:fE W' t L (lI T z s) n):Inv W' t L (lI T z s) n :=
 ⟨hr,h.wf.alike (Gc T z s),by rw[VX h.wf (Gc T z s)];exact h.num⟩
structure Good(W:World)(t:Nat)(L:Lay)(T:Tr.T)(n n0:Nat):Prop where
 inv:Inv W t L T n
 own:∀b,owned t L T b->n0<=b
 fit:CG T
theorem Good.step{t n n' n0:Nat}{L L':Lay}{T T':Tr.T}(h:Good W t L T n n0)(hi:Inv W' t L' T' n')(hg:Grow t L L' T T' W W')(hf:CG T')(h0:n0<=W.heap.size):Good W' t L' T' n' n0/\Below n0 W W' :=
 ⟨⟨hi,λb hb=>(hg.2 b hb).elim (h.own b) λq=>aK h0 q,hf⟩,hg.1.below h0 λb hb q=>absurd (h.own b q) ak⟩
theorem Good.after{t n n0:Nat}{T:Tr.T}(h:Good W t L T n n0)(hb:Below W W W'):Good W' t L T n n0:=⟨⟨h.inv.rep.after hb,h.inv.wf,h.inv.num⟩,h.own,h.fit⟩
theorem Inv.after{t n:Nat}{T:Tr.T}(h:Inv W t L T n)(hb:Below W W W'):Inv W' t L T n:=⟨h.rep.after hb,h.wf,h.num⟩
theorem Good.new{t:Nat}(h:Inv W' t L T0 1)(hb:∀b,owned t L T0 b->W.heap.size<=b):Good W' t L T0 1 W.heap.size:=⟨h,hb,λz nd hz=>by
 unfold T0 at hz;split at hz
 . cases hz;exact Jw
 . cases hz⟩
noncomputable def VY(T:Tr.T)(x:vB):Tr.T:=if x.k.tmod 5=2 then Tr.nX T x.a else if x.k.tmod 5=3 then Tr.mQ T x.a x.b x.c else if x.k.tmod 5=4 then lI T x.a x.s else Tr.lG T x.a x.b
section
variable {w:World} {t n n0:Nat} {L:Lay} {T:Tr.T}
theorem Oz(h:Good w t L T n n0)(hn:n<4096)(h0:n0<=w.heap.size){u a:Int}(hu:Wf u):Calls ja0 19 #[t,u,a] w λe w'=>e=.returned (.tuple #[Tr.uH T u a,Tr.nO T u a])/\∃L' n',Good w' t L' (Tr.lG T u a) n' n0/\n'<=n+1/\Grow t L L' T (Tr.lG T u a) w w'/\Below n0 w w':=by
 refine(XJ h.inv hn hu).mono ?_;rintro e w' ⟨rfl,L',n',hi,hl,hg⟩;obtain⟨g1,g2⟩:=h.step hi hg (h.fit.le (fu.lG _ _ _)) h0;exact⟨rfl,L',n',g1,hl,hg,g2⟩
theorem VZ(h:Good w t L T n n0)(h0:n0<=w.heap.size){x u a:Int}(hx:Wf x)(hu:Wf u):Calls ja0 59 #[t,x,u,a] w λe w'=>e=.returned (.int .i64 (Tr.jS T x u a))/\∃L',Good w' t L' (Tr.mQ T x u a) n n0/\Grow t L L' T (Tr.mQ T x u a) w w'/\Below n0 w w':=by
 refine(UE h.inv hx hu).mono ?_;rintro e w' ⟨rfl,L',hi,hg⟩;obtain⟨g1,g2⟩:=h.step hi hg (h.fit.le (fu.mQ _ _ _ _)) h0;exact⟨rfl,L',g1,hg,g2⟩
theorem OA(h:Good w t L T n n0)(h0:n0<=w.heap.size)(hx:Wf x):Calls ja0 57 #[t,x] w λe w'=>e=.returned (.tuple #[Tr.x9 T x,Tr.rV T x])/\∃L' n',Good w' t L' (Tr.nX T x) n' n0/\n'<=n/\Grow t L L' T (Tr.nX T x) w w'/\Below n0 w w':=by
 refine(MW h.inv hx).mono ?_;rintro e w' ⟨rfl,L',n',hi,hl,hg⟩;obtain⟨g1,g2⟩:=h.step hi hg (h.fit.le (fu.nX _ _)) h0;exact⟨rfl,L',n',g1,hl,hg,g2⟩
theorem Gd(h:Good w t L T n n0)(h0:n0<=w.heap.size)(hx:Wf x){s:Re.St}(hs:Fits s):Calls ja0 18 #[t,x,.agg (cells s)] w λe w'=>e=.returned (.int .i64 (tF T x s))/\Good w' t L (lI T x s) n n0/\Grow t L L T (lI T x s) w w'/\Below n0 w w':=by
 refine(XH h.inv.rep hx s).mono ?_;rintro e w' ⟨rfl,hr,hg⟩;obtain⟨g1,g2⟩:=h.step (h.inv.set hr) hg (h.fit.lI _ hs) h0;exact⟨rfl,g1,hg,g2⟩
theorem OB(w:World):Calls ja0 17 #[] w λe w'=>(∃t,e=.returned (.pointer (some ⟨t,0,none⟩))/\∃L,Good w' t L T0 1 w.heap.size)/\Below w w w':=by
 refine(XG w).mono ?_;rintro e w' ⟨⟨t,rfl,L,hr,ho⟩,hb⟩;refine⟨⟨t,rfl,L,Good.new ⟨hr,?_,?_⟩ ho⟩,hb⟩
 . have hT:T0 0=some ⟨-1,[],Re.zero⟩:=rfl
   have hz:∀x nd,T0 x=some nd->x=0/\nd=⟨-1,[],Re.zero⟩:=λx nd h=>by
    unfold T0 at h;split at h
    . cases h;exact⟨by assumption,rfl⟩
    . cases h
   refine⟨⟨_,hT,rfl⟩,λx nd h => ?_,λx nd h h0=>absurd (hz x nd h).1 h0,λu p x h hx => ?_,λu p h => ?_,λx nd h => ?_⟩
   . rw[(hz x nd h).1];omega
   . rw[(hz u p h).2]at hx;cases hx
   . rw[(hz u p h).2];exact List.nodup_nil
   . rw[(hz x nd h).1];exact⟨0,by omega,.root hT⟩
 . decide +kernel
theorem Rt(h:Good w t L T n n0):Calls ja0 12 #[t] w λe w'=>(∃v,e=.returned v/\Kept w' t L T v (Tr.ord T))/\Below w w w':=by
 refine(EJ h.inv.rep h.inv.wf.vT (by have:=h.inv.wf.jm;omega)).mono ?_;rintro e w' ⟨⟨v,rfl,ho⟩,hb⟩;exact⟨⟨v,rfl,Kept.new h.inv.rep ho aF⟩,hb⟩
def zk(T:Tr.T)(z:Int):List Int:=(T z).elim [] (·.kids)
theorem aas{T:Tr.T}(H:Tr.WF T)(z:Int) : -1<=Tr.dep T z/\Tr.dep T z<=63:=by
 cases hT:T z with
 | none=>rw[Tr.Mf hT];omega
 | some nd=>obtain⟨d,h1,h2,h3⟩:=H.jo hT;omega
end
def ajw:Re.St:=⟨λi=>if i=46 then 3 else 0,λ_=>false⟩
def A1:Tr.T:=Tr.pU T0 1 0 0
def A2:Tr.T:=Tr.pU A1 2 0 1
def A3:Tr.T:=Tr.mP A2 1 2 0
def A4:Tr.T:=Tr.GH A3 1 ajw
theorem V4{t:Tr.T}{z:Int}(h:(t z).isSome=true):t z≠none:=λe=>by rw[e]at h;cases h
theorem isSome_none{t:Tr.T}{z:Int}(h:(t z).isSome=false):t z=none:=by cases e:t z with
 | none=>rfl
 | some _=>rw[e]at h;cases h
section
variable {w:World} {t n n0:Nat} {L:Lay}
end
end
section
variable {T:Tr.T} (H:Tr.WF T) {x u:Int} {nd p:Tr.Nd} (hx:T x=some nd) (h0:x≠0) (hu:T u=some p) (hun:u ∉ Tr.sub T 64 x)
include H hx h0 hu hun
theorem afj(i:Nat){y:Int}{m:Nat}(h:Tr.Dp T y m):y ∉ Tr.sub T 64 x->Tr.Dp (Tr.mP T x u i) y m:=by
 have A:=λy=>H.yP hx h0 hu hun i y
 induction h with
 | root h =>
   intro _;have e:=A 0;rw[h]at e;exact .root e
 | @step z zd n h hz _ ih =>
   intro hn;have hzx:z≠x:=λe=>hn (H.sU hx h0 e);have e:=A z;rw[h]at e;simp only[Option.map_some,if_neg hzx]at e;exact .step e hz (ih (H.JN hx h hn hz))
end
structure Moved(T T':Tr.T)(x u a f:Int)(pl:Nat):Prop where
 up:jP T' x=u
 at_:∃n:Nat,a=n/\n<(zk T' u).length/\(zk T' u).getD n 0=x
 ok:Tr.jS T' x f pl=0
 back:Tr.mQ T' x f pl=T
theorem moved{T:Tr.T}(H:Tr.WF T){x u a:Int}(h:Tr.jS T x u a=0){pl:Nat}(hpl:(zk T (jP T x))[pl]? = some x):Moved T (Tr.mQ T x u a) x u a (jP T x) pl:=by
 have hR:Tr.mQ T x u a=Tr.mP T x u a.toNat:=by unfold Tr.mQ;rw[h,if_pos rfl]
 have W:=(H.mQ x u a).1;obtain⟨nd,p,hx,hu,h0,hun,ha,hal,hd⟩:=Tr.IK h;rw[hR]at W ⊢;have A:=λy=>H.yP hx h0 hu hun a.toNat y;obtain⟨q,hq,hqm⟩:=H.up x nd hx h0;have eup:jP T x=nd.up:=by unfold jP;rw[hx]
 rw[eup]at hpl ⊢;have ekq:zk T nd.up=q.kids:=by unfold zk;rw[hq];rfl
 rw[ekq]at hpl;have hxu:x≠u:=λe=>hun (H.sU hx h0 e.symm);have hxn:x≠nd.up:=λe=>H.qw hx h0 (H.sU hx h0 e.symm);have hku:(if u=nd.up then Tr.wo p.kids x else p.kids)=Tr.wo p.kids x:=by
  by_cases e:u=nd.up
  . rw[if_pos e]
  . rw[if_neg e,Tr.wI (λhm=>e (H.Md hx h0 hu hm))]
 have Au:Tr.mP T x u a.toNat u=some { p with kids:=Tr.wi (Tr.wo p.kids x) a.toNat x }:=by
  rw[A,hu];simp only[Option.map_some,if_neg (Ne.symm hxu),if_true,hku]
 have Ax:Tr.mP T x u a.toNat x=some { nd with up:=u }:=by
  rw[A,hx];simp only[Option.map_some,if_true,if_neg hxu,if_neg hxn]
 have hlen:=Tr.nI (Tr.wo p.kids x) a.toNat x;have hn1:nd.up ∉ Tr.sub (Tr.mP T x u a.toNat) 64 x:=by rw[(H.JO hx h0 hu hun a.toNat).1];exact H.qw hx h0
 have akU:pl<q.kids.length:=(List.getElem?_eq_some_iff.1 hpl).1;have hwq:=Tr.IJ (H.nodup _ _ hq) hqm;have hz:Tr.jS (Tr.mP T x u a.toNat) x nd.up pl=0:=by
  obtain⟨d,hd1,hd2,hd3⟩:=H.jo hq;have Pk:Tr.Dp T x (d+1):=.step hx h0 hd2;obtain⟨z,hz1,hz2⟩:=H.RQ (H.iO hx) Pk;have hb:=H.aaU hz2;have hdp:=afj H hx h0 hu hun a.toNat hd2 (H.qw hx h0);have hde:=W.JQ hdp;obtain⟨p',hp'⟩:=hdp.live;have hkp:Tr.wo p'.kids x=Tr.wo q.kids x:=by
   have e:=A nd.up;rw[hq,hp']at e;simp only[Option.map_some,if_true,if_neg (Ne.symm hxn)]at e;injection e with e;rw[e];simp only;have hno:x ∉ Tr.wo q.kids x:=λhm=>(Tr.yO.1 hm).2 rfl;by_cases e2:nd.up=u
   . rw[if_pos e2,Tr.acO hno]
   . rw[if_neg e2,Tr.wI hno]
  unfold Tr.jS;rw[Ax,hp'];simp only;rw[if_neg h0,if_neg hn1,hkp,if_neg ak,hde,(H.JO hx h0 hu hun a.toNat).2,if_neg ak]
 refine⟨by unfold jP;rw[Ax],?_,hz,?_⟩
 . have ek:zk (Tr.mP T x u a.toNat) u=Tr.wi (Tr.wo p.kids x) a.toNat x:=by unfold zk;rw[Au];rfl
   refine⟨a.toNat,by omega,by rw[ek,hlen];omega,?_⟩;rw[ek];have hl:((Tr.wo p.kids x).take a.toNat).length=a.toNat:=by rw[List.length_take];omega
   unfold Tr.wi;rw[List.getD,List.getElem?_append_right ak,hl];simp
 . unfold Tr.mQ
   rw[hz,if_pos rfl];have e:=H.Xh hx h0 hu hun hq hpl W
   rwa [show((pl:Int).toNat)=pl by omega]
section
open List renaming mem_cons_of_mem → ja7
def ldt(x:Fw.Ld):List Int:=[x.id,Fx.cut x.a0,Fx.cut x.a1,Fx.cut x.s0,Fx.cut x.s1]
theorem GM.ge{W:World}{b n:Nat}{g:Lit->Option Value}(h:GM 3 W b n g){l:List Int}(hn:l.Nodup)(hl:∀z∈l,Wf z/\(g (.int .i64 z)).isSome=true):l.length<=n:=by
 obtain⟨D,h1,h2,h3⟩:=h;obtain⟨es,rfl⟩:=(h1.tidy jH).isMap
 have hk:∀z∈l,Lit.int .i64 z∈es.map (·.1):=λz hz=>by
  obtain⟨hw,hs⟩:=hl z hz;have hh:=(h3 (.int .i64 z) (jH.key (jh hw))).2;rw[hs,Maps.has_eq,List.any_eq_true]at hh;obtain⟨p,hp,hq⟩:=hh;rw[<-WideAt.sameKey_eq hq];exact List.mem_map_of_mem hp
 have hlen:∀(l:List Int) (ks:List Lit),l.Nodup->(∀z∈l,Lit.int .i64 z∈ks)->l.length<=ks.length:=by
  intro l
  induction l with
  | nil=>intro ks _ _;exact gF _
  | cons z l ih =>
    intro ks hn hm;obtain⟨a,c,rfl⟩:=List.append_of_mem (hm z bI)
    have h1:=ih (a++c) (List.nodup_cons.1 hn).2 λy hy=>by
     have h2:=hm y (ja7 _ hy);simp only[List.mem_append,List.mem_cons]at h2 ⊢;rcases h2 with h2|h2|h2
     . exact .inl h2
     . injection h2 with _ h2
       subst h2;exact absurd hy (List.nodup_cons.1 hn).1
     . exact .inr h2
    simp only[List.length_append,List.length_cons]at h1 ⊢;omega
 have h4:=hlen l _ hn hk;rw[List.length_map]at h4;rw[<-h2,Maps.size_eq];exact h4
theorem Gf(g:Lit->Option Value)(x:Fw.Ld)(l:List Fw.Ld):mI g (x::l)=mI (zQ g (.int .i64 x.id) (rcv x)) l:=rfl
theorem Ru{a b:Int}(h:a≠b):Lit.int .i64 a≠Lit.int .i64 b:=λq=>h (by injection q)
theorem Jy(l:List Fw.Ld):∀(g:Lit->Option Value) (z:Int),z ∉ l.map (·.id)->mI g l (.int .i64 z)=g (.int .i64 z):=by
 induction l with
 | nil=>intro g z h;rfl
 | cons x l ih =>
   intro g z h;simp only[List.map_cons,List.mem_cons,not_or]at h;rw[Gf,ih _ z h.2,mO (Ru h.1)]
theorem OC(l:List Fw.Ld):∀(g:Lit->Option Value) (x:Fw.Ld),(l.map (·.id)).Nodup->x∈l->mI g l (.int .i64 x.id)=some (rcv x):=by
 induction l with
 | nil=>intro g x _ h;simp at h
 | cons y l ih =>
   intro g x hn h;simp only[List.map_cons,List.nodup_cons]at hn;rw[Gf];rcases List.mem_cons.1 h with rfl|h
   . rw[Jy l _ _ hn.1,jL]
   . exact ih _ x hn.2 h
def ldP(x:Fw.Ld):Pr:=⟨Fx.cut x.a0,Fx.cut x.a1,Fx.cut x.s0,Fx.cut x.s1⟩
def RLl(l:List Fw.Ld)(z:Int):Option Pr:=(l.find? λx=>x.id==z).map ldP
def RL(T:Tr.T)(ww wh:Int)(z:Int):Option Pr:=RLl (Ic T ww wh) z
theorem afk{l:List Fw.Ld}(hn:(l.map (·.id)).Nodup)(z:Int):mI (λ_=>none) l (.int .i64 z)=(RLl l z).map Pr.ag:=by
 unfold RLl;cases h:l.find? λx=>x.id==z with
 | none =>
   rw[Jy l _ z λhm=>by
    obtain⟨x,hx,he⟩:=List.mem_map.1 hm;have:=List.find?_eq_none.1 h x hx
    simp[he]at this]
   rfl
 | some x =>
   have h1:=List.mem_of_find?_eq_some h;have h2:=List.find?_some h;rw[beq_iff_eq]at h2;rw[<-h2,OC l _ x hn h1];rfl
theorem RM.of{W:World}{b n:Nat}{T:Tr.T}{ww wh:Int}(h:GM 3 W b n (ae1 T ww wh))(hn:((Ic T ww wh).map (·.id)).Nodup):RM W b (RL T ww wh):=⟨n,_,h,λz=>afk hn z⟩
def sP0:Re.St:=⟨λi=>if i=2 then 2 else if i=5 then 1 else if i=6 then 50 else 0,λ_=>false⟩
def sP1:Re.St:=⟨λi=>if i=5 then 1 else if i=6 then 80 else 0,λ_=>false⟩
def sPb:Re.St:=⟨λi=>if i=35 then 1 else if i=36 then 1 else if i=37 then 1 else if i=38 then 1 else 0,λ_=>false⟩
def TP0:Tr.T:=Tr.GH T0 0 sP0
def TP1:Tr.T:=Tr.pU TP0 1 0 0
def TP:Tr.T:=Tr.GH TP1 1 sP1
def RX:Int->Option Pr:=λz=>if z=0 then some ⟨0,0,100,50⟩else if z=1 then some ⟨0,0,100,80⟩else none
def OX:Int->Option (Int×Int):=λz=>if z=0 then some (0,90)else none
theorem afl:(Ic TP 100 100).map ldt=[[0,0,0,100,50],[1,0,0,100,80]]:=by decide +kernel
theorem Ti:tF T0 0 sP0=0:=by decide +kernel
theorem ahQ:lI T0 0 sP0=TP0:=by unfold lI;rw[Ti,if_pos rfl];rfl
theorem ahR:Tr.free TP0=1:=Tr.free_eq ⟨by decide,isSome_none (by decide +kernel),λy h0 h1=>by
 obtain rfl:y=0:=by omega
 exact V4 (by decide +kernel)⟩
theorem afm:Tr.nO TP0 0 0=0:=by decide +kernel
theorem ajx:Tr.uH TP0 0 0=1:=by unfold Tr.uH;rw[afm,if_pos rfl,ahR]
theorem ajy:Tr.lG TP0 0 0=TP1:=by unfold Tr.lG;rw[afm,if_pos rfl,ahR];rfl
theorem Tj:tF TP1 1 sP1=0:=by decide +kernel
theorem ahS:lI TP1 1 sP1=TP:=by unfold lI;rw[Tj,if_pos rfl];rfl
theorem afn:Fw.cst (sN TP) 64 0+o9 (sN TP) 64 0<1000:=by decide +kernel
theorem ahT:(tl (sN TP) 100 100 64 (FX TP 100 100)).length<1000:=by decide +kernel
theorem afo:(nT TP 64 0).length<1000:=by decide +kernel
theorem aat(s:Re.St)(h:∀i:Fin 55,(Lit.int .i64 (s.c i)).wf=true):Fits s:=λi hi _=>h ⟨i,hi⟩
theorem ahU:RL TP 100 100=RX/\((Ic TP 100 100).map (·.id)).Nodup:=by
 have h:=afl;unfold RL;generalize Ic TP 100 100=l at h;rcases l with _ | ⟨x0,_ | ⟨x1,_ | ⟨x2,l⟩⟩⟩
 . simp at h
 . simp at h
 . simp only[List.map_cons,List.map_nil,ldt,List.cons.injEq,and_true]at h
   obtain⟨⟨h1,h2,h3,h4,h5⟩,k1,k2,k3,k4,k5⟩:=h;refine⟨?_,by simp[h1,k1]⟩;funext z;unfold RLl RX;rw[List.find?_cons,List.find?_cons,h1,k1,List.find?_nil];by_cases e:z=0
   . subst e;simp[ldP,h2,h3,h4,h5]
   . by_cases e1:z=1
     . subst e1;simp[ldP,k2,k3,k4,k5]
     . have a:((0:Int)==z)=false:=by simpa using λh=>e h.symm
       have b:((1:Int)==z)=false:=by simpa using λh=>e1 h.symm
       simp[a,b,e,e1]
 . simp at h
theorem acD:yH TP RX 0=(0,30):=by decide +kernel
theorem aau:((TP 1).isSome=true/\cA TP RX 1=true)/\(rch TP RX 64 1).x=0/\(rch TP RX 64 1).y=0/\(rch TP RX 64 1).w=100/\(rch TP RX 64 1).h=80:=by decide +kernel
def prL(p:Pr):List Int:=[p.x,p.y,p.w,p.h]
theorem acE:(spF TP RX OX (Rs 100 100) 1).map (λp=>(prL p.1,prL p.2))=some ([0,-30,100,80],[0,0,100,50]):=by decide +kernel
theorem afp:F8 TP 1=0:=by decide +kernel
theorem acF:prL ((⟨0,0,9,9⟩:Pr).prt sPb)=[1,1,7,7]:=by decide +kernel
theorem Tk(z:Int)(nd:Tr.Nd)(h:TP z=some nd):nd.kids.length<=64/\0<=nd.sty.c 0/\nd.sty.c 0<=3:=by
 by_cases h0:z=0
 . subst h0
   have e:TP 0=some ⟨-1,[1],sP0⟩:=rfl;rw[e]at h;injection h with h;subst h;exact⟨by decide,by decide,by decide⟩
 . by_cases h1:z=1
   . subst h1
     have e:TP 1=some ⟨0,[],sP1⟩:=rfl;rw[e]at h;injection h with h;subst h;exact⟨by decide,by decide,by decide⟩
   . exfalso
     have e:TP z=none:=by
      have e1:TP=Tr.set TP1 1 ⟨0,[],sP1⟩:=rfl;rw[e1,Tr.aT _ _ h1];have e2:=Tr.JM (t:=TP0) (x:=1) (u:=0) (i:=0) (p:=⟨-1,[],sP0⟩) rfl rfl z;show Tr.pU TP0 1 0 0 z=none;rw[e2,if_neg h1,if_neg h0];have e3:TP0=Tr.set T0 0 ⟨-1,[],sP0⟩:=rfl;rw[e3,Tr.aT _ _ h0];unfold T0;rw[if_neg h0]
     rw[e]at h;cases h
end
section
open Go.Deep
theorem oO(a b c d a' b' c' d':Int)(w:World):(binOp .eql 40 (.agg #[a,b,c,d]) (.agg #[.int .i64 a',.int .i64 b',.int .i64 c',.int .i64 d'])).run ja0 w=.ok (.bool (decide (a=a')&&decide (b=b')&&decide (c=c')&&decide (d=d'))) w:=by
 rw[run_eql_struct];by_cases h1:a=a'<;>by_cases h2:b=b'<;>by_cases h3:c=c'<;>by_cases h4:d=d'<;>go_simp<;>simp[h1,h2,h3,h4]
theorem OD(a0 a1 a2 a3 b0 b1 b2 b3:Int)(W:World):(Instr.field 42 (.agg #[a0,a1,a2,a3,b0,b1,b2,b3]) 1).run ja0 W=.ok (.agg #[b0,b1,b2,b3]) W:=by kernel_rfl
theorem OE(w:World):Calls ja0 5 #[] w λe w'=>e=.returned (.bool true)/\Below w w w':=by
 have hl5:∀X,(Instr.build 50 #[(0,.int .i64 1),(1,.int .i64 50)]).run ja0 X=.ok (.agg #[.int .i64 1,.int .i64 50]) X:=λX=>by kernel_rfl
 have hl8:∀X,(Instr.build 50 #[(0,.int .i64 1),(1,.int .i64 80)]).run ja0 X=.ok (.agg #[.int .i64 1,.int .i64 80]) X:=λX=>by kernel_rfl
 have hs5:∀X,(Instr.build 59 #[(2,.int .i64 2),(4,.agg #[.int .i64 1,.int .i64 50])]).run ja0 X=.ok (.agg (cells sP0)) X:=λX=>by kernel_rfl
 have hs8:∀X,(Instr.build 59 #[(4,.agg #[.int .i64 1,.int .i64 80])]).run ja0 X=.ok (.agg (cells sP1)) X:=λX=>by kernel_rfl
 have hmk:=@run_makeMap ja0;go_enter Tryz.func5,Tryz.ntmps5
 go_upto_region 4 with(go_at_call 17;(with_reducible refine(OB w).mono ?_);rintro e w1 ⟨⟨t,rfl,L0,g0⟩,hb0⟩)
 have hz0:=hb0.size;have w0:Wf 0:=(jZ _).2 ak;have w1':Wf 1:=(jZ _).2 ak;have kS:=Gd g0 hz0 (x:=0) w0 (aat sP0 (by decide +kernel));rw[Ti,ahQ]at kS;clear g0
 go_upto_region 5 with(go_at_call 18;refine Calls.mono (show _ from kS) ?_;rintro e w2 ⟨rfl,g1,-, hb1⟩)
 have hz1:w.heap.size<=w2.heap.size:=aK hz0 hb1.size;have kA:=Oz g1 ak hz1 (u:=0) (a:=0) w0;rw[ajx,afm,ajy]at kA;clear kS g1
 go_upto_region 6 with(go_at_call 19;refine Calls.mono (show _ from kA) ?_;rintro e w3 ⟨rfl,L1,n1,g2,hn1,-, hb2⟩)
 have hz2:w.heap.size<=w3.heap.size:=aK hz1 hb2.size;have kT:=Gd g2 hz2 (x:=1) w1' (aat sP1 (by decide +kernel));rw[Tj,ahS]at kT;clear kA g2
 go_upto_region 7 with(go_at_call 18;refine Calls.mono (show _ from kT) ?_;rintro e w4 ⟨rfl,g3,-, hb3⟩)
 have hz3:w.heap.size<=w4.heap.size:=aK hz2 hb3.size;have em1:max (100:Int) 0=100:=by decide
 have kL:=ZY g3.inv.rep g3.inv.wf (λz nd h=>(Tk z nd h).1) (λz nd h=>(Tk z nd h).2) 100 100 (by have:=afn;unfold maxLen;omega) (by rw[em1];have:=ahT;unfold maxLen;omega) (by have:=afo;unfold maxLen;omega);rw[em1]at kL;clear em1 kT
 go_upto_region 8 with(go_at_call 7;(with_reducible refine kL.mono ?_);rintro e w5 ⟨⟨b,nr,rfl,gb,hG,-⟩,hb4⟩)
 clear kL;have Gu:=RM.of hG ahU.2;rw[ahU.1]at Gu;have g5:=(g3.after hb4);have hz4:w.heap.size<=w5.heap.size:=aK hz3 hb4.size;obtain⟨w6,p6,ahV,jM⟩:∃W',(Instr.mapUpdate 34 (.map (some w5.heap.size)) (.int .i64 0) (pt 0 90)).run ja0 (w5.alloc (.map #[] 0))=.ok () W'/\OM W' w5.heap.size OX/\Out (λx=>x=w5.heap.size) (w5.alloc (.map #[] 0)) W':=by
  obtain⟨W',h1,h2,h3⟩:=(GM.made 3 w5).store jH Tryz.underlying34 (by simp[maxLen]) (jh w0) (v:=pt 0 90) rfl;refine⟨W',h1,⟨_,_,h2,λz => ?_⟩,h3⟩;unfold OX;by_cases e:z=0
  . subst e;rw[jL,if_pos rfl];rfl
  . rw[mO (Ru e),if_neg e];rfl
 have hb5:Below w5 w5 w6:=(aD aG _).trans (jM.below bI λb hb e=>by omega);have hR6:=Gu.keep hb5;have g6:=g5.after hb5;have H6:=g6.inv.wf;have hz5:w.heap.size<=w6.heap.size:=aK hz4 hb5.size;have kP:=xE g6.inv.rep hR6 H6 w5.heap.size ahV 100 100;have ahW:Below w w w6:=(((((hb0.trans hb1).trans hb2).trans hb3).trans (hb4.mono hz3)).trans (hb5.mono hz4));have HG6:=ah g6;have HR6:=ah hR6;clear hG Gu g5 g3 hb0 hb1 hb2 hb3 hb4 hb5 jM ahV gb g6 hR6
 go_upto_region 9 with(first|(go_at_call 8;refine(qC _ _ _).mono ?_;rintro e w' ⟨rfl,rfl⟩)|(go_at_call 9;(with_reducible refine kP.mono ?_);rintro e w7 ⟨⟨ms,rfl,-, hS⟩,pG⟩))
 have hz6:w.heap.size<=w7.heap.size:=aK hz5 pG.size;have DN:Below w w w7:=ahW.trans (pG.mono hz5);have G7:=λX (h:Below w7 w7 X)=>(HG6.out.after (pG.trans (h.mono pG.size)));have R7:=λX (h:Below w7 w7 X)=>HR6.out.keep (pG.trans (h.mono pG.size));have hsp:=acE;obtain⟨⟨pa,pb⟩,hsp1,hsp2⟩:=Option.map_eq_some_iff.1 hsp;simp only[prL,Prod.mk.injEq,List.cons.injEq,and_true]at hsp2;obtain⟨⟨a1,a2,a3,a4⟩,b1,b2,b3,b4⟩:=hsp2;have hlk:=λX (h:Below w7 w7 X)=>(hS.keep h).sm.look w1' (a:=pa) (b:=pb) (by rw[hsp1];rfl);simp only[a1,a2,a3,a4,b1,b2,b3,b4]at hlk;have kM:=λX (h:Below w7 w7 X)=>zh (G7 X h).inv.rep (R7 X h) (G7 X h).inv.wf w0;simp only[acD]at kM;obtain⟨hrc,r1,r2,r3,r4⟩:=aau;have kR:=λX (h:Below w7 w7 X)=>Oq (G7 X h).inv.rep (R7 X h) (G7 X h).inv.wf w1';simp only[if_pos hrc,Pr.ag,r1,r2,r3,r4]at kR;have kC:=λX (h:Below w7 w7 X)=>xD (G7 X h).inv.rep (G7 X h).inv.wf w1';simp only[afp]at kC;have hpp:=acF;simp only[prL,List.cons.injEq,and_true]at hpp;obtain⟨p1,p2,p3,p4⟩:=hpp;have kQ:=λX=>vo ⟨0,0,9,9⟩ sPb X;simp only[Pr.ag,p1,p2,p3,p4]at kQ;have kO1:=λX=>uQ 0 0 100 80 X;have kO2:=λX=>uQ 0 (-30) 100 80 X;have kO3:=λX=>uQ 0 0 100 50 X;have kO4:=λX=>uQ 0 0 9 9 X;have kO5:=λX=>uQ 1 1 7 7 X;rw[show Fx.mx (Fx.cut 100) 0=100 from by decide,show Fx.mx (Fx.cut 80) 0=80 from by decide,show Fx.cut 0=0 from rfl]at kO1;rw[show Fx.mx (Fx.cut 100) 0=100 from by decide,show Fx.mx (Fx.cut 80) 0=80 from by decide,show Fx.cut 0=0 from rfl,show Fx.cut (-30) = -30 from by decide]at kO2;rw[show Fx.mx (Fx.cut 100) 0=100 from by decide,show Fx.mx (Fx.cut 50) 0=50 from by decide,show Fx.cut 0=0 from rfl]at kO3;rw[show Fx.mx (Fx.cut 9) 0=9 from by decide,show Fx.cut 0=0 from rfl]at kO4;rw[show Fx.mx (Fx.cut 7) 0=7 from by decide,show Fx.cut 1=1 from by decide]at kO5;have hb4:∀X,(Instr.build 52 #[(0,.int .i64 1),(1,.int .i64 1),(2,.int .i64 1),(3,.int .i64 1)]).run ja0 X=.ok (.agg #[.int .i64 1,.int .i64 1,.int .i64 1,.int .i64 1]) X:=λX=>by kernel_rfl
 have hbb:∀X,(Instr.build 59 #[(12,.agg #[.int .i64 1,.int .i64 1,.int .i64 1,.int .i64 1])]).run ja0 X=.ok (.agg (cells sPb)) X:=λX=>by kernel_rfl
 have er1:=λX=>oO 0 0 100 80 0 0 100 80 X;have er2:=λX=>oO 0 (-30) 100 80 0 (-30) 100 80 X;have er3:=λX=>oO 0 0 100 50 0 0 100 50 X;have er4:=λX=>oO 1 1 7 7 1 1 7 7 X;have ept:=λX=>Qm (P:=ja0) 30 0 30 0 30 X;have hgu:=λ(x y:Operand) (v:Value)=>XZ .eql 30 x y 0 30 v;have hf0:=CB 0 (-30) 100 80 0 0 100 50;have hf1:=OD 0 (-30) 100 80 0 0 100 50;simp only[decide_true,Bool.and_self]at er1 er2 er3 er4 ept;clear hS hsp hsp1 a1 a2 a3 a4 b1 b2 b3 b4 r1 r2 r3 r4 hrc p1 p2 p3 p4;have hSd:Below w7 w7 w7.drew:=Below.drew aG;refine jy (S:=λX=>Below w7 w7 X) 39 ?_ ?_
 . exact hSd
 intro hx;clear hSd;refine aS 0 ?_;refine aS 1 ?_;refine tk1 2 ?_;refine aj.Step.call eD (kM _ hx) ?_;rintro e y2 ⟨rfl,hb⟩;replace hx:=Below.ay hx aF hb;clear hb;refine⟨_,rfl,λ_=>hx,?_⟩
 (try simp only[bV,bW,bX,tks])
 refine tk1 3 ?_;refine aj.Step.call eD (qC 0 30 _) ?_;rintro e y3 ⟨rfl,rfl⟩;refine⟨_,rfl,λ_=>hx,?_⟩
 (try simp only[bV,bW,bX,tks])
 refine aS 4 ?_;refine aS 5 ?_;refine aS 6 ?_;refine aS 7 ?_;refine tk1 8 ?_;refine aj.Step.call eD (kR _ hx) ?_;rintro e y8 ⟨rfl,hb⟩;replace hx:=Below.ay hx aF hb;clear hb;refine⟨_,rfl,λ_=>hx,?_⟩
 (try simp only[bV,bW,bX,tks])
 refine tk1 9 ?_;refine aj.Step.call eD (kO1 _) ?_;rintro e y9 ⟨rfl,hb⟩;replace hx:=Below.ay hx aF hb;clear hb;refine⟨_,rfl,λ_=>hx,?_⟩
 (try simp only[bV,bW,bX,tks])
 refine aS 10 ?_;refine aS 11 ?_;refine aS 12 ?_;refine aS 13 ?_;refine mG 14 rfl (bU bB rfl rfl rfl (λX h=>hlk X h)) ?_;refine aS 15 ?_;refine tk1 16 ?_;refine aj.Step.call eD (kO2 _) ?_;rintro e y16 ⟨rfl,hb⟩;replace hx:=Below.ay hx aF hb;clear hb;refine⟨_,rfl,λ_=>hx,?_⟩
 (try simp only[bV,bW,bX,tks])
 refine aS 17 ?_;refine aS 18 ?_;refine aS 19 ?_;refine aS 20 ?_;refine mG 21 rfl (bU bB rfl rfl rfl (λX h=>hlk X h)) ?_;refine aS 22 ?_;refine tk1 23 ?_;refine aj.Step.call eD (kO3 _) ?_;rintro e y23 ⟨rfl,hb⟩;replace hx:=Below.ay hx aF hb;clear hb;refine⟨_,rfl,λ_=>hx,?_⟩
 (try simp only[bV,bW,bX,tks])
 refine aS 24 ?_;refine aS 25 ?_;refine aS 26 ?_;refine aS 27 ?_;refine tk1 28 ?_;refine aj.Step.call eD (kC _ hx) ?_;rintro e y28 ⟨rfl,hb⟩;replace hx:=Below.ay hx aF hb;clear hb;refine⟨_,rfl,λ_=>hx,?_⟩
 (try simp only[bV,bW,bX,tks])
 refine aS 29 ?_;refine aS 30 ?_;refine aS 31 ?_;refine aS 33 ?_;refine aS 34 ?_;refine tk1 32 ?_;refine aj.Step.call eD (kO4 _) ?_;rintro e y32 ⟨rfl,hb⟩;replace hx:=Below.ay hx aF hb;clear hb;refine⟨_,rfl,λ_=>hx,?_⟩
 (try simp only[bV,bW,bX,tks])
 refine tk1 35 ?_;refine aj.Step.call eD (kQ _) ?_;rintro e y35 ⟨rfl,hb⟩;replace hx:=Below.ay hx aF hb;clear hb;refine⟨_,rfl,λ_=>hx,?_⟩
 (try simp only[bV,bW,bX,tks])
 refine tk1 36 ?_;refine aj.Step.call eD (kO5 _) ?_;rintro e y36 ⟨rfl,hb⟩;replace hx:=Below.ay hx aF hb;clear hb;refine⟨_,rfl,λ_=>hx,?_⟩
 (try simp only[bV,bW,bX,tks])
 refine aS 37 ?_;refine aS 38 ?_;refine tk1 39 ?_;refine aj.Step.value eD ?_;refine⟨λhlt=>absurd hlt aN,?_⟩
 (try simp only[bV,bW,bX,tks])
 refine jk ?_;go_wp2
 go_ret
 exact⟨rfl,DN.trans (hx.mono hz6)⟩
end
theorem Tn(a b c:Int):0<=bey a b c:=by unfold bey Fx.mx;omega
theorem acG(T:Tr.T)(R:Int->Option Pr)(z:Int):0<=(yH T R z).1/\0<=(yH T R z).2:=by
 unfold yH;split
 . exact⟨Tn _ _ _,Tn _ _ _⟩
 . exact⟨Int.le_refl _,Int.le_refl _⟩
theorem aav{T:Tr.T}{R:Int->Option Pr}{O O':Int->Option (Int×Int)}{q:Pr}(h:∀z,Tf O z (yH T R z).1 (yH T R z).2=Tf O' z (yH T R z).1 (yH T R z).2):spF T R O q=spF T R O' q:=by
 have e:Rp T R O q=Rp T R O' q:=by
  funext S z k;unfold Rp;rw[h z]
 have e2:qJ T R O q=qJ T R O' q:=by
  funext S z y;unfold qJ;rw[e]
 unfold spF Ot;rw[e2]
def O1(id x y:Int):Int->Option (Int×Int):=λz=>if z=id then some (x,y)else none
theorem aaw{T:Tr.T}{R:Int->Option Pr}{q:Pr}(id x y:Int):spF T R (O1 id x y) q=spF T R (O1 id (Fx.clamp x 0 (yH T R id).1) (Fx.clamp y 0 (yH T R id).2)) q:=by
 refine aav λz => ?_;unfold Tf O1;by_cases e:z=id
 . subst e
   obtain⟨h1,h2⟩:=acG T R z;simp only[if_true,Option.getD_some];rw[Fx.BU h1,Fx.BU h2]
 . rw[if_neg e,if_neg e]
theorem Lv(a0 a1 a2 a3 b0 b1 b2 b3:Int)(W:World):(binOp .neq 42 (.agg #[a0,a1,a2,a3,b0,b1,b2,b3]) (.agg #[.int .i64 a0,.int .i64 a1,.int .i64 a2,.int .i64 a3,.int .i64 b0,.int .i64 b1,.int .i64 b2,.int .i64 b3])).run ja0 W=.ok (.bool false) W:=by
 rw[run_neq_struct];go_simp
section
variable {s:Re.St} (h3:s.c 0≠3) (hp2:s.c 1≠2) (hp3:s.c 1≠3)
include h3 hp2 hp3
end
end Go.Proofs.YtfohooineeijkaaGreat.Fix
