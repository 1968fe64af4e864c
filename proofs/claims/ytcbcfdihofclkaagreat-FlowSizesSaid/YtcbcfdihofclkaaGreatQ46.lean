/- Proved here: what functions of the program do, in plain numbers (part 46); no conditions but those in sight. -/
import Derived.Test.YtcbcfdihofclkaaGreatQK
import Derived.Test.YtcbcfdihofclkaaGreatQ37
import Derived.Test.YtcbcfdihofclkaaGreatQ41
import Derived.Test.YtcbcfdihofclkaaGreatQ42
set_option linter.unusedVariables false
set_option linter.unusedSimpArgs false
set_option linter.unusedSectionVars false
set_option maxRecDepth 100000
namespace Go.Proofs.YtcbcfdihofclkaaGreat.Fix
open Go.ChangeShapes Go.WideShapes Go.ChangeAt Go.RowKit
def BI(t:Int):Prop := -1<=t/\t<=9223372036854775807
theorem zX(s:Re.St)(y:Nat)(n base:Int):0<=Fw.lim s y n base/\Fw.lim s y n base<=1099511627776:=by
 unfold Fw.lim Fx.limit;generalize Fx.len _ _ base (-1099511627776)=lo;generalize Fx.len _ _ base 1099511627776=hi;unfold Fx.mx Fx.clamp Fx.cut
 repeat' split
 all_goals omega
theorem vT{s:Re.St}(hv:Re.valid s=true)(y:Nat):0<=Fw.nR s y/\Fw.nR s y<=4194304/\Fw.nR s y=Fw.ed s (Fw.sd y 0)+Fw.ed s (Fw.sd y 1):=by
 have h1:=sI hv (i:=Fw.sd y 0) (by unfold Fw.sd;(repeat' split)<;>omega);have h2:=sI hv (i:=Fw.sd y 1) (by unfold Fw.sd;(repeat' split)<;>omega);unfold Fw.nR Fw.wr;omega
theorem Er{x:Int}(h : -9223372036854775808<=x/\x<=9223372036854775807):Fw.wr x=x:=by unfold Fw.wr;omega
theorem Es{s:Re.St}(hv:Re.valid s=true)(y:Nat){n:Int}(h:0<=n/\n<=4611686018427387904):BI (Fw.wr (n+Fw.nR s y)):=by
 have:=vT hv y;rw[Er ak];unfold BI;omega
theorem Qj{s:Re.St}(hv:Re.valid s=true)(y:Nat)(r0 r:Int){t:Int}(ht:BI t)(h:t ≠ -1):0<=Fw.rz s y r0 r t/\Fw.rz s y r0 r t+Fw.nR s y<=9223372036854775807:=by
 have:=vT hv y;unfold BI at ht;unfold Fw.rz;rw[if_pos h,Er ak];omega
theorem Md(s:Re.St)(y:Nat)(r0 r:Int):(0<=Fw.rz s y r0 r (-1)/\Fw.rz s y r0 r (-1)<=1099511627776)\/(y≠0/\Fw.rz s y r0 r (-1) = -1):=by
 unfold Fw.rz;rw[if_neg aG];split
 . exact .inl (zX _ _ _ _)
 . split
   . exact .inl (zX _ _ _ _)
   . rename_i h;exact .inr ⟨h,rfl⟩
def Big(B:Int->Fw.Bx)(x:Fw.Ld):Prop:=(Fw.nR (B x.id).sty 0<=x.s0/\x.s0<=9223372036854775807)/\(Fw.nR (B x.id).sty 1<=x.s1/\x.s1<=9223372036854775807)
section
variable {B:Int->Fw.Bx} (hv:∀z,Re.valid (B z).sty=true)
include hv
theorem Big.wB(cont:Int->Int->Int->List Fw.Ld×Int)(z r0 r1:Int){t0 t1:Int}(h0:BI t0)(h1:BI t1):Big B (Fw.wB B cont z r0 r1 t0 t1):=by
 have e0:=vT (hv z) 0;have e1:=vT (hv z) 1;refine⟨?_,?_⟩
 . show Fw.nR (B z).sty 0<=Fw.wr (Fw.rz (B z).sty 0 r0 r0 t0+Fw.nR (B z).sty 0)/\Fw.wr (Fw.rz (B z).sty 0 r0 r0 t0+Fw.nR (B z).sty 0)<=9223372036854775807
   by_cases h:t0 = -1
   . rw[h]
     rcases Md (B z).sty 0 r0 r0 with q|⟨q,_⟩
     . rw[Er ak];omega
     . exact absurd rfl q
   . have q:=Qj (hv z) 0 r0 r0 h0 h
     rw[Er ak];omega
 . show Fw.nR (B z).sty 1<=Fw.wr ((if Fw.rz (B z).sty 1 r0 r1 t1 = -1 then Fw.lim (B z).sty 1 (cont z (Fw.rz (B z).sty 0 r0 r0 t0) (Fw.rz (B z).sty 1 r0 r1 t1)).2 r1 else Fw.rz (B z).sty 1 r0 r1 t1)+Fw.nR (B z).sty 1)/\Fw.wr ((if Fw.rz (B z).sty 1 r0 r1 t1 = -1 then Fw.lim (B z).sty 1 (cont z (Fw.rz (B z).sty 0 r0 r0 t0) (Fw.rz (B z).sty 1 r0 r1 t1)).2 r1 else Fw.rz (B z).sty 1 r0 r1 t1)+Fw.nR (B z).sty 1)<=9223372036854775807
   have hl:=zX (B z).sty 1 (cont z (Fw.rz (B z).sty 0 r0 r0 t0) (Fw.rz (B z).sty 1 r0 r1 t1)).2 r1;generalize Fw.lim (B z).sty 1 (cont z (Fw.rz (B z).sty 0 r0 r0 t0) (Fw.rz (B z).sty 1 r0 r1 t1)).2 r1=l at *;by_cases h:t1 = -1
   . rw[h]
     rcases Md (B z).sty 1 r0 r1 with q|⟨_,q⟩
     . rw[if_neg ak,Er ak];omega
     . rw[q,if_pos rfl,Er ak];omega
   . have q:=Qj (hv z) 1 r0 r1 h1 h
     rw[if_neg ak,Er ak];omega
theorem qo:BI (-1):=by unfold BI;omega
theorem Big.tok{x:Fw.Ld}(h:Big B x):BI x.s0/\BI x.s1:=by
 have e0:=vT (hv x.id) 0;have e1:=vT (hv x.id) 1;obtain⟨a,b⟩:=h;unfold BI;omega
omit hv in
theorem Me(l:Nat->Fe.It)(n:Nat)(x:Int)(i:Nat):0<=(Fw.sizes l n x).getD i 0/\(Fw.sizes l n x).getD i 0<=1048576:=by
 unfold Fw.sizes;rw[List.getD,List.getElem?_map];cases h:(List.range n)[i]? with
 | none=>simp
 | some k =>
   simp only[Option.map_some,Option.getD_some];rw[<-Fe.OP];exact Fe.lH _ _
theorem Sw{lay:Int->Int->Int->Int->Int->Fw.Ld}(hl:∀k r0 r1 t0 t1,BI t0->BI t1->Big B (lay k r0 r1 t0 t1))(f:Nat)(z i0 i1:Int):∀x∈(Fw.pV B lay f z i0 i1).1,Big B x:=by
 intro x hx;unfold Fw.pV at hx;simp only at hx;obtain⟨i,hi,rfl⟩:=List.mem_mapIdx.1 hx;rw[List.getElem_map];exact hl _ _ _ _ _ (qo hv) (qo hv)
theorem Xh{lay:Int->Int->Int->Int->Int->Fw.Ld}(hl:∀k r0 r1 t0 t1,BI t0->BI t1->Big B (lay k r0 r1 t0 t1))(z i0 i1 high:Int)(ks:List Int):∀x∈(Fw.jw B lay z i0 i1 high ks).1,Big B x:=by
 intro x hx;unfold Fw.jw at hx;simp only at hx;obtain⟨i,hi,rfl⟩:=List.mem_mapIdx.1 hx
 have hxs:∀y∈ks.mapIdx λi k=>lay k i0 i1 (Fw.wr ((Fw.mM B i0 i0 ((B z).sty.c 46) 0 (Fw.nS B i0) ks).getD i 0+Fw.nR (B k).sty 0)) (-1),Big B y:=λy hy=>by
  obtain⟨j,hj,rfl⟩:=List.mem_mapIdx.1 hy;refine hl _ _ _ _ _ (Es (hv _) 0 ?_) (qo hv);have:=Me (λi=>Fw.nS B i0 (ks.getD i 0)) ks.length (Fw.left B i0 i0 ((B z).sty.c 46) 0 ks) j;unfold Fw.mM;omega
 generalize (ks.mapIdx λi k=>lay k i0 i1 (Fw.wr ((Fw.mM B i0 i0 ((B z).sty.c 46) 0 (Fw.nS B i0) ks).getD i 0+Fw.nR (B k).sty 0)) (-1))=xs at *
 have hall:∀y∈(if (B z).sty.c 44=0 then xs.map λx=>if Fw.GZ (B x.id).sty 1 i1=true then x else lay x.id i0 i1 x.s0 (Fw.wr (Fw.lim (B x.id).sty 1 (max (Fw.wr ((if high = -1 then (xs.map (Fw.wC B i0 1)).foldl max 0 else high)-Fw.FX B i0 1 x.id)) 0) i1+Fw.nR (B x.id).sty 1))else xs),Big B y:=λy hy=>by
  split at hy
  . obtain⟨u,hu,rfl⟩:=List.mem_map.1 hy
    split
    . exact hxs u hu
    . refine hl _ _ _ _ _ ((hxs u hu).tok hv).1 (Es (hv _) 1 ?_)
      have:=zX (B u.id).sty 1 (max (Fw.wr ((if high = -1 then (xs.map (Fw.wC B i0 1)).foldl max 0 else high)-Fw.FX B i0 1 u.id)) 0) i1;omega
  . exact hxs y hy
 have h:=hall _ (List.getElem_mem hi);exact h
theorem Sy{lay:Int->Int->Int->Int->Int->Fw.Ld}(hl:∀k r0 r1 t0 t1,BI t0->BI t1->Big B (lay k r0 r1 t0 t1))(z i0 i1 high:Int)(fl:List Int):∀(ps:List (Nat×Nat)) (fst:Bool) (y:Int),∀x∈(Fw.cu B lay z i0 i1 high fl fst y ps).1,Big B x:=by
 intro ps
 induction ps with
 | nil=>intro fst y x hx;simp[Fw.cu]at hx
 | cons p ps ih =>
   intro fst y x hx;simp only[Fw.cu]at hx;rcases List.mem_append.1 hx with h|h
   . obtain⟨u,hu,rfl⟩:=List.mem_map.1 h
     exact Xh hv hl z i0 i1 high _ u hu
   . exact ih _ _ x h
theorem OV{lay:Int->Int->Int->Int->Int->Fw.Ld}(hl:∀k r0 r1 t0 t1,BI t0->BI t1->Big B (lay k r0 r1 t0 t1))(z i0 i1:Int):∀x∈(Fw.mo B lay z i0 i1).1,Big B x:=by
 intro x hx;unfold Fw.mo at hx;simp only at hx;obtain⟨i,hi,rfl⟩:=List.mem_mapIdx.1 hx
 have hc:∀k,BI (Fw.gY B z i0 k):=λk=>by
  unfold Fw.gY;split
  . unfold Fw.X9
    have:=zX (B k).sty 0 ((B k).sty.c 53) i0;exact Es (hv k) 0 ak
  . exact qo hv
 rw[List.getElem_mapIdx];refine hl _ _ _ _ _ (hc _) (Es (hv _) 1 ?_);split
 . unfold Fw.mM
   have:=Me (λi=>(λk=>Fw.SF (B k).sty 1 (Fw.wr ((lay k i0 i1 (Fw.gY B z i0 k) (-1)).s1-Fw.nR (B k).sty 1)) i1) ((B z).fl.getD i 0)) (B z).fl.length (Fw.left B i0 i1 ((B z).sty.c 46) 1 (B z).fl) i;omega
 . rw[List.getD,List.getElem?_map]
   cases h:(B z).fl[i]? with
   | none=>simp
   | some k =>
     simp only[Option.map_some,Option.getD_some];have:=Fe.lH (Fw.SF (B k).sty 1 (Fw.wr ((lay k i0 i1 (Fw.gY B z i0 k) (-1)).s1-Fw.nR (B k).sty 1)) i1) (Fw.SF (B k).sty 1 (Fw.wr ((lay k i0 i1 (Fw.gY B z i0 k) (-1)).s1-Fw.nR (B k).sty 1)) i1).b;omega
omit hv in
theorem Big.mv{i0 i1:Int}{x:Fw.Ld}(h:Big B x):Big B (Fw.mv B i0 i1 x):=by
 unfold Fw.mv;split
 . exact h
 . exact h
theorem Xi(f:Nat)(z i0 i1:Int):∀x∈(Fw.cont B f z i0 i1).1,Big B x:=by
 intro x hx;cases f with
 | zero=>simp[Fw.cont]at hx
 | succ f =>
   simp only[Fw.cont]at hx;split at hx
   . simp at hx
   . obtain⟨u,hu,rfl⟩:=List.mem_map.1 hx
     refine Big.mv ?_;have hl:∀k r0 r1 t0 t1,BI t0->BI t1->Big B (Fw.wB B (Fw.cont B f) k r0 r1 t0 t1):=λk r0 r1 t0 t1 a b=>Big.wB hv _ k r0 r1 a b;unfold Fw.kind at hu;split at hu
     . exact Sy hv hl _ _ _ _ _ _ _ _ u hu
     . split at hu
       . exact OV hv hl _ _ _ u hu
       . exact Sw hv hl _ _ _ _ u hu
theorem Xj(ww wh:Int)(f:Nat)(k:Int)(x:Fw.Ld):Big B (BA B ww wh f k x):=by
 have hsp:∀y ry r0,BI (Oi (B k).sty y ry r0):=λy ry r0=>by
  unfold Oi;split
  . exact qo hv
  . unfold BI Fw.wr
    omega
 have hap:∀r0,BI (apS (B k).sty r0):=λr0=>by
  unfold apS;split
  . unfold Fw.X9
    have:=zX (B k).sty 0 ((B k).sty.c 53) r0;exact Es (hv k) 0 ak
  . exact hsp _ _ _
 exact Big.wB hv _ k _ _ (hap _) (hsp _ _ _)
theorem adp(ww wh:Int):∀(f:Nat) (x:Fw.Ld),Big B x->∀y∈tl B ww wh f x,Big B y:=by
 intro f
 induction f with
 | zero=>intro x h y hy;rw[tl,List.mem_singleton]at hy;subst hy;exact h
 | succ f ih =>
   intro x h y hy;rw[tl]at hy;rcases List.mem_cons.1 hy with rfl|hy
   . exact h
   rcases List.mem_append.1 hy with hy|hy
   . obtain⟨k,hk,hy⟩:=List.mem_flatMap.1 hy
     have h2:Big B (edg (B x.id).sty k):=Xi hv (f+1) x.id x.i0 x.i1 k hk;exact ih _ h2 y hy
   . obtain⟨k,hk,hy⟩:=List.mem_flatMap.1 hy
     exact ih _ (Xj hv ww wh f k x) y hy
end
theorem Xk{T:Tr.T}(H:Tr.WF T):∀(f:Nat) (a z:Int),Tr.Fit T f a->z∈jy T f a->∀d e:Nat,Tr.Dp T a d->Tr.Dp T z e->su T (d+1) a=true->su T (e+1) z=true:=by
 intro f
 induction f with
 | zero=>intro a z h;exact h.elim
 | succ f ih =>
   intro a z hf hz d e hd he hs;obtain⟨nd,hT,hk⟩:=hf;rcases sD hz with rfl|⟨c,hc,hz⟩
   . rw[<-hd.TN he];exact hs
   . have hm:=jX hT hc
     have hcd:=H.rM hT hm hd;refine ih c z (hk c hm) hz (d+1) e hcd he ?_;obtain⟨_,kd,hkd,hup⟩:=H.kid a nd c hT hm;have h3:(eB T c).c 0≠3:=by
      rcases hc with h|h
      . exact Z2n
      . exact Z2n
     have es:eB T c=kd.sty:=by unfold eB;rw[hkd];rfl
     rw[es]at h3;rw[su,hkd];show((kd.sty.c 0 != 3)&&su T (d+1) kd.up)=true;rw[hup,hs];simpa using h3
theorem adq{T:Tr.T}(H:Tr.WF T){z:Int}{d:Nat}(hd:Tr.Dp T z d):su T (d+1) z=true->su T 1 0=true/\z∈jy T 64 0:=by
 induction hd with
 | root h=>intro hs;exact⟨hs,Ef H.qy⟩
 | @step x nd n h h0 hp ih =>
   intro hs;rw[su,h]at hs;have hs:((nd.sty.c 0 != 3)&&su T (n+1) nd.up)=true:=hs;rw[Bool.and_eq_true]at hs;obtain⟨h1,h2⟩:=ih hs.2;refine⟨h1,Eh H.qy h2 ?_⟩;obtain⟨p,hp2,hm⟩:=H.up x nd h h0;have ek:bS T nd.up=p.kids:=by unfold bS;rw[hp2];rfl
   have es:eB T x=nd.sty:=by unfold eB;rw[h];rfl
   rw[ek];cases ho:oM nd.sty
   . exact .inl (List.mem_filter.2 ⟨hm,by rw[es,ho,hs.1];rfl⟩)
   . exact .inr (List.mem_filter.2 ⟨hm,by rw[es,ho,hs.1];rfl⟩)
theorem aaO{T:Tr.T}(H:Tr.WF T){z:Int}{d:Nat}(hd:Tr.Dp T z d):su T (d+1) z=true↔su T 1 0=true/\z∈jy T 64 0 :=
 ⟨adq H hd,λ⟨h1,h2⟩=>by
  obtain⟨rd,hrd,_⟩:=H.root
  exact Xk H 64 0 z H.qy h2 0 d (.root hrd) hd h1⟩
theorem Xl{T:Tr.T}:∀{f:Nat} {a:Int},Tr.Fit T f a->jy T (f+1) a=jy T f a:=by
 intro f
 induction f with
 | zero=>intro a h;exact h.elim
 | succ f ih =>
   intro a hf;obtain⟨nd,hT,hk⟩:=hf;have q:∀l:List Int,(∀k∈l,k∈nd.kids)->l.flatMap (jy T (f+1))=l.flatMap (jy T f):=by
    intro l
    induction l with
    | nil=>intro _;rfl
    | cons k l ihl =>
      intro hl;rw[List.flatMap_cons,List.flatMap_cons,ih (hk k (hl k eY)),ihl λj hj=>hl j (by simp[hj])]
   rw[jy,q _ λk hk=>jX hT (.inl hk),q _ λk hk=>jX hT (.inr hk)]
   conv=>rhs;rw[jy]
theorem vP.told{T:Tr.T}{n:Nat}(M:vP T n)(ww wh:Int){z:Int}{d:Nat}(hd:Tr.Dp T z d) :
  (su T (d+1) z=false/\qA T ww wh (.int .i64 z)=none)\/(su T (d+1) z=true/\∃x∈oW T ww wh,x.id=z/\Big (iN T) x/\qA T ww wh (.int .i64 z)=some (rcv x)):=by
 have hval:∀z,Re.valid (iN T z).sty=true:=λz=>by
  show Re.valid (eB T z)=true;unfold eB;cases h:T z with
  | none=>exact(by decide +kernel:Re.valid Re.zero=true)
  | some nd=>exact M.val z nd h
 have hi:=aaO M.wf hd;have D5:=OC T ww wh 64 (nH T ww wh);rw[show(nH T ww wh).id=0 from rfl,Xl M.wf.qy]at D5;have hn:=(M.qm ww wh).1;by_cases hr:su T 1 0=true
 . have hL:oW T ww wh=tl (iN T) ww wh 64 (nH T ww wh):=by unfold oW;rw[if_pos hr]
   by_cases hm:z∈jy T 64 0
   . right
     refine⟨hi.2 ⟨hr,hm⟩,?_⟩;rw[<-D5]at hm;obtain⟨x,hx,hz⟩:=List.mem_map.1 hm;refine⟨x,by rw[hL];exact hx,hz,?_,?_⟩
     . exact adp hval ww wh 64 _ (Big.wB hval _ 0 ww wh (qo hval) (qo hval)) x hx
     . unfold qA
       rw[hL,<-hz];exact vN _ _ x hn hx
   . left
     refine⟨by
      cases h:su T (d+1) z with
      | false=>rfl
      | true=>exact absurd (hi.1 h).2 hm,?_⟩
     unfold qA;rw[hL,Gy _ _ z (by rw[D5];exact hm)]
 . left
   have hL:oW T ww wh=[]:=by unfold oW;rw[if_neg hr]
   refine⟨by
    cases h:su T (d+1) z with
    | false=>rfl
    | true=>exact absurd (hi.1 h).1 hr,?_⟩
   unfold qA;rw[hL];rfl
theorem vP.count{T:Tr.T}{n:Nat}(M:vP T n)(ww wh:Int):((Tr.ord T).filter λz=>(qA T ww wh (.int .i64 z)).isSome).length=(oW T ww wh).length:=by
 have hn:((oW T ww wh).map (·.id)).Nodup:=by
  unfold oW;split
  . exact(M.qm ww wh).1
  . exact .nil
 have h1:∀z,z∈(Tr.ord T).filter (λz=>(qA T ww wh (.int .i64 z)).isSome)↔z∈(oW T ww wh).map (·.id):=λz=>by
  rw[List.mem_filter];constructor
  . rintro⟨hz,hs⟩
    obtain⟨nd,hT⟩:=M.wf.gy.1 hz;obtain⟨d,_,hd⟩:=M.wf.deep z nd hT;rcases M.told ww wh hd with⟨_,h⟩|⟨_,x,hx,hxz,_⟩
    . rw[h]at hs;cases hs
    . rw[<-hxz];exact List.mem_map_of_mem hx
  . intro hz
    obtain⟨x,hx,rfl⟩:=List.mem_map.1 hz;refine⟨?_,?_⟩
    . have hm:x.id∈(tl (iN T) ww wh 64 (nH T ww wh)).map (·.id):=by
       unfold oW at hx;split at hx
       . exact List.mem_map_of_mem hx
       . simp at hx
      have D5:=OC T ww wh 64 (nH T ww wh);rw[show(nH T ww wh).id=0 from rfl]at D5;rw[D5]at hm;exact M.wf.gy.2 (nG M.Qd.1 hm)
    . unfold qA
      rw[vN _ _ x hn hx];rfl
 have hf:((Tr.ord T).filter λz=>(qA T ww wh (.int .i64 z)).isSome).Nodup:=M.wf.mR.filter _;have a:=hf.length_le_of_subset λz hz=>(h1 z).1 hz;have b:=hn.length_le_of_subset λz hz=>(h1 z).2 hz;rw[List.length_map]at a b;omega
end Go.Proofs.YtcbcfdihofclkaaGreat.Fix
namespace Go.Proofs.YtcbcfdihofclkaaGreat.Fix
open Go.ChangeShapes Go.WideShapes Go.ChangeAt Go.RowKit Go.Deep Go.Joins Go.Shelf
theorem mK{x e:Int}(h:e<=x)(he:e<=4194304):e<=Fx.cut x:=by unfold Fx.cut;omega
noncomputable def vU(G:Lit->Option Value)(o:List Int)(k:Nat):Nat:=((o.take k).filter λz=>(G (.int .i64 z)).isSome).length
theorem OW(G:Lit->Option Value){o:List Int}{k:Nat}(h:k<o.length):vU G o (k+1)=vU G o k+if (G (.int .i64 (o.getD k 0))).isSome=true then 1 else 0:=by
 unfold vU;rw[List.take_succ_eq_append_getElem h,List.filter_append,List.length_append,List.getD,List.getElem?_eq_getElem h,Option.getD_some,List.filter_cons];split<;>rfl
set_option maxHeartbeats 16000000 in
theorem Mf(a0:Option Addr)(jB cap0:Nat)(a1 a2:Int)(w:World)(w0:ze w a0 jB cap0):Calls Tryz.prog 3 #[.slice a0 jB cap0,.int .i64 a1,.int .i64 a2] w λe w'=>e=.returned (.bool true)/\Below w.heap.size w w':=by
 obtain⟨l,hA⟩:=w0.acts;clear w0;go_enter Tryz.func3,Tryz.ntmps3
 go_upto_region 4 with(go_at_call 15;(with_reducible refine(vO _).mono ?_);rintro e w1 ⟨rfl,hb1⟩)
 have kG:=xM cap0 (hA.after hb1);have hs1:=hb1.size;clear hA
 go_upto_region 5 with(go_at_call 16;(with_reducible refine kG.mono ?_);rintro e w2 ⟨⟨tb,rb,ok,rfl,hok⟩,hb2⟩)
 have HB2:=hb1.trans (hb2.mono hs1);have hs2:=hb2.size;clear kG hb1 hb2;cases ok with
 | false =>
   exact XV
 | true =>
 by_cases b4:(1048576:Int)<a1
 . exact XV
 by_cases b5:(1048576:Int)<a2
 . exact XV
 obtain⟨gg,cc,mm,n,L,K,T,two,hn,Sn,hdp⟩:=hok rfl;have g2:=two.good;have M:vP T n:=⟨g2.inv.wf,g2.inv.num,by omega,λx d h=>by have:=hdp x d h;omega,λz nd h=>(Sn z nd h).1⟩;have HM:=Lib.hid M;have HG2:=Lib.hid g2;have kL:=yQ HG2.out HM.out a1 a2;clear two M Sn hdp g2 hok
 go_upto_region 8 with(go_at_call 17;(with_reducible refine kL.mono ?_);rintro e w4 ⟨⟨b1,rfl,Ep,hG1⟩,hb4⟩)
 have htold:=Lib.hid λ(z:Int) (d:Nat) (hd:Tr.Dp T z d)=>HM.out.told (max a1 0) (max a2 0) hd;have hcount:=HM.out.count (max a1 0) (max a2 0);obtain⟨N,hN⟩:∃N,(oW T (max a1 0) (max a2 0)).length=N:=⟨_,rfl⟩;obtain⟨G,hG⟩:∃G,qA T (max a1 0) (max a2 0)=G:=⟨_,rfl⟩;obtain⟨LL,hLL⟩:∃LL,oW T (max a1 0) (max a2 0)=LL:=⟨_,rfl⟩;rw[hN,hG]at hG1;rw[hG,hLL]at htold;rw[hN,hG]at hcount;have Ji:=HB2.trans (hb4.mono HB2.size);have HG4:=Lib.hid (HG2.out.after hb4);have hs4:=aC hs2 hb4.size;have afY:=Lib.hid hG1;have kO:=xF HG4.out;clear kL HB2 HG2 hb4 hG1 hN hG hLL Ep
 go_upto_region 9 with(go_at_call 18;(with_reducible refine kO.mono ?_);rintro e wa ⟨⟨v,rfl,hk⟩,hba⟩;obtain⟨A,c,rfl,hI,-⟩:=hk.row.ints)
 have HBa:=Ji.trans (hba.mono (aC hs1 hs4));have BH:=Lib.hid (afY.out.keep hba);have HGa:=Lib.hid (HG4.out.after hba);have HI:=Lib.hid hI;have HOR:Hid (∀x∈Tr.ord T,∃nd,T x=some nd):=Lib.hid λx hx=>HM.out.wf.gy.1 hx;clear kO Ji HG4 afY hba hI hk;obtain⟨o,ho⟩:∃o,Tr.ord T=o:=⟨_,rfl⟩;rw[ho]at HI HOR hcount ⊢;have hol:o.length<=64:=by rw[<-ho,HM.out.num];exact HM.out.few
 obtain⟨no,hno⟩:∃k,o.length=k:=⟨_,rfl⟩;rw[hno]at hol ⊢;have HNO:=Lib.hid hno;have HCN:Hid (vU G o no=N):=Lib.hid (by unfold vU;rw[<-hno,List.take_length];exact hcount);have hT0:Hid (∀nd,T 0=some nd->nd.up = -1):=Lib.hid λnd h=>HM.out.wf.o9 h;have hsa:=HBa.size;clear ho hno hcount;go_wp2
 go_loopw [13,14] (λnv i wr=>∃j:Nat,j<=no/\i=.int .i64 (j:Int)/\nv=.int .i64 (vU G o j:Int)/\Below wa.heap.size wa wr) (λ_ i _=>no-(intOf i).toNat)
 case atStart=>exact⟨0,by omega,rfl,rfl,Below.refl _ _⟩
 case round =>
  obtain⟨j,hj,rfl,rfl,hbr⟩:=hrel;have hsr:=hbr.size;have hnj:vU G o j<=64:=by
   unfold vU;have h1:=List.length_filter_le (λz=>(G (.int .i64 z)).isSome) (o.take j);rw[List.length_take]at h1;omega
  by_cases hjn:j<no
  . have hjz:(j:Int)<(no:Int):=by omega
    have hsucc:=OW G (o:=o) (k:=j) Z5e;obtain⟨cn,hcn⟩:∃q,vU G o j=q:=⟨_,rfl⟩;rw[hcn]at hsucc hnj ⊢;clear hcn;obtain⟨ba,oa,rfl,XH,cx⟩:=(HI.out.after hbr).at_ (k:=j) Z5e;obtain⟨nd,hnd⟩:=HOR.out (o.getD j 0) Z50;obtain⟨x,hx⟩:∃x,o.getD j 0=x:=⟨_,rfl⟩;rw[hx]at cx hnd hsucc;have hxw:Wf x:=(eT _).2 (by have:=HM.out.wf.range x nd hnd;omega);obtain⟨d,_,hd⟩:=HM.out.wf.deep x nd hnd;have kSh:=λX (h:Below wa.heap.size wa X)=>qH (HGa.out.after h).inv.rep hT0.out hd;have htx:=htold.out x d hd;clear hx;rcases htx with⟨hsf,hgx⟩|⟨hst,u,hu,hui,hbig,hgx⟩
    . rw[hsf]at kSh
      have HSH:=Lib.hid kSh
      have hlk:∀X,Below wa.heap.size wa X->(Instr.lookup 28 (.map (some b1)) (.int .i64 x) true).run Tryz.prog X=.ok (.tuple #[.agg #[.int .i64 0,.int .i64 0,.int .i64 0,.int .i64 0],.bool false]) X:=λX h=>by
       have k:=(BH.out.keep h).look_ok jr Tryz.underlying28 (z:=.agg #[.int .i64 0,.int .i64 0,.int .i64 0,.int .i64 0]) fV (j4 hxw);rw[hgx]at k;exact k
      have k1:=hlk wr hbr;rw[hgx]at hsucc;have hs2:vU G o (j+1)=cn:=by simpa using hsucc
      clear kSh hlk hgx hsucc
      go_upto_region 14 with(fail)
      have tY:Below wr.heap.size wr (wr.alloc (.cells #[.int .i64 0,.int .i64 0,.int .i64 0,.int .i64 0] 33)):=Below.alloc' (Below.refl _ _) _;generalize wr.alloc (.cells #[.int .i64 0,.int .i64 0,.int .i64 0,.int .i64 0] 33)=wd at *;have hbd:=hbr.trans (tY.mono hsr);have IY:=(tY.cell (p:=⟨ba,oa+j,none⟩) XH).trans cx;have Je:ba<wd.heap.size:=by have:=tY.size;omega
      have kS2:=HSH.out wd hbd;clear k1 cx tY hbr XH
      go_wp2_with (go_at_call 19;(with_reducible refine kS2.mono ?_);rintro e we ⟨rfl,hbe⟩)
      go_roundw
      case rel=>exact⟨j+1,by omega,by go_num,by rw[hs2],hbd.trans (hbe.mono hbd.size)⟩
      case measure=>simp[intOf];omega
    . rw[hst]at kSh
      have HSH:=Lib.hid kSh;obtain⟨p0,hp0⟩:∃p,Fx.cut u.a0=p:=⟨_,rfl⟩;obtain⟨p1,hp1⟩:∃p,Fx.cut u.a1=p:=⟨_,rfl⟩;obtain⟨p2,hp2⟩:∃p,Fx.cut u.s0=p:=⟨_,rfl⟩;obtain⟨p3,hp3⟩:∃p,Fx.cut u.s1=p:=⟨_,rfl⟩;have er:rcv u=.agg #[.int .i64 p0,.int .i64 p1,.int .i64 p2,.int .i64 p3]:=by unfold rcv;rw[hp0,hp1,hp2,hp3]
      have hlk:∀X,Below wa.heap.size wa X->(Instr.lookup 28 (.map (some b1)) (.int .i64 x) true).run Tryz.prog X=.ok (.tuple #[.agg #[.int .i64 p0,.int .i64 p1,.int .i64 p2,.int .i64 p3],.bool true]) X:=λX h=>by
       have k:=(BH.out.keep h).look_ok jr Tryz.underlying28 (z:=.agg #[.int .i64 0,.int .i64 0,.int .i64 0,.int .i64 0]) fV (j4 hxw);rw[hgx,er]at k;exact k
      have k1:=hlk wr hbr;rw[hgx]at hsucc;have hs2:vU G o (j+1)=cn+1:=by simpa using hsucc
      have afZ:eB T x=nd.sty:=by unfold eB;rw[hnd];rfl
      have hval:=HM.out.val x nd hnd;have hbx:Fw.nR nd.sty 0<=u.s0/\Fw.nR nd.sty 1<=u.s1:=by
       obtain⟨⟨q1,_⟩,q2,_⟩:=hbig;rw[show(iN T u.id).sty=nd.sty by show eB T u.id=_;rw[hui];exact afZ]at q1 q2;exact⟨q1,q2⟩
      have e0:=vT hval 0;have e1:=vT hval 1;have v0:=sI hval (i:=0) aG;have v1:=sI hval (i:=1) aG;have v2:=sI hval (i:=2) aG;have v3:=sI hval (i:=3) aG;have hW:Fw.ed nd.sty 1+Fw.ed nd.sty 3<=p2:=by
       have:=mK hbx.1 e0.2.1;rw[e0.2.2,show Fw.sd 0 0=3 from rfl,show Fw.sd 0 1=1 from rfl]at this;omega
      have hH:Fw.ed nd.sty 0+Fw.ed nd.sty 2<=p3:=by
       have:=mK hbx.2 e1.2.1;rw[e1.2.2,show Fw.sd 1 0=0 from rfl,show Fw.sd 1 1=2 from rfl]at this;omega
      have hso:(T x).elim Re.zero (·.sty)=nd.sty:=by rw[hnd];rfl
      have hky:=λX (h:Below wa.heap.size wa X)=>qc (HGa.out.after h).inv.rep hxw;simp only[hso]at hky;have HKY:=Lib.hid hky;clear hky;have hke:=λX=>xu nd.sty X;obtain⟨e0v,he0⟩:∃v,Fw.ed nd.sty 0=v:=⟨_,rfl⟩;obtain⟨e1v,he1⟩:∃v,Fw.ed nd.sty 1=v:=⟨_,rfl⟩;obtain⟨e2v,he2⟩:∃v,Fw.ed nd.sty 2=v:=⟨_,rfl⟩;obtain⟨e3v,he3⟩:∃v,Fw.ed nd.sty 3=v:=⟨_,rfl⟩;simp only[he0,he1,he2,he3]at hke hW hH v0 v1 v2 v3;have HKE:=Lib.hid hke;clear hke;clear kSh hlk hgx hsucc er hp0 hp1 hp2 hp3 hbx e0 e1 he0 he1 he2 he3 hbig hu hui afZ hval hso
      go_upto_region 14 with(fail)
      have tY:Below wr.heap.size wr (wr.alloc (.cells #[.int .i64 p0,.int .i64 p1,.int .i64 p2,.int .i64 p3] 33)):=Below.alloc' (Below.refl _ _) _;have pF:At (wr.alloc (.cells #[.int .i64 p0,.int .i64 p1,.int .i64 p2,.int .i64 p3] 33)) wr.heap.size (.cells #[.int .i64 p0,.int .i64 p1,.int .i64 p2,.int .i64 p3] 33):=At.new _ _;generalize wr.alloc (.cells #[.int .i64 p0,.int .i64 p1,.int .i64 p2,.int .i64 p3] 33)=wd at *;have hbd:=hbr.trans (tY.mono hsr);have IY:=(tY.cell (p:=⟨ba,oa+j,none⟩) XH).trans cx;have Je:ba<wd.heap.size:=by have:=tY.size;omega
      generalize hRb:wr.heap.size=R1 at *;have kS2:=HSH.out wd hbd;clear k1 cx hRb tY hbr XH hsr
      go_upto_region 18 with(go_at_call 19;(with_reducible refine kS2.mono ?_);rintro e we ⟨rfl,hbe⟩)
      have aaP:=hbd.trans (hbe.mono hbd.size);have SS:=(hbe.cell (p:=⟨ba,oa+j,none⟩) Je).trans IY;have ado:ba<we.heap.size:=by have:=hbe.size;omega
      have hR2:=pF.keep hbe;have kY:=HKY.out we aaP;clear kS2 IY hbd hbe pF Je
      go_upto_region 19 with(first|(go_at_call 21;(with_reducible refine kY.mono ?_);rintro e wf ⟨rfl,hbf⟩)|(go_at_call 20;(with_reducible refine(HKE.out _).mono ?_);rintro e wg ⟨rfl,hbg⟩))
      have adr:=hbf.trans (hbg.mono hbf.size);have hbh:Below we.heap.size we (wg.alloc (.cells #[.int .i64 e0v,.int .i64 e1v,.int .i64 e2v,.int .i64 e3v] 36)):=Below.alloc adr adr.size _;have hE:At (wg.alloc (.cells #[.int .i64 e0v,.int .i64 e1v,.int .i64 e2v,.int .i64 e3v] 36)) wg.heap.size (.cells #[.int .i64 e0v,.int .i64 e1v,.int .i64 e2v,.int .i64 e3v] 36):=At.new _ _;generalize wg.alloc (.cells #[.int .i64 e0v,.int .i64 e1v,.int .i64 e2v,.int .i64 e3v] 36)=wi at *;generalize wg.heap.size=E at *;have BK:=hR2.keep hbh;have hbi:=aaP.trans (hbh.mono aaP.size);obtain⟨l1,c10,c11,c12,c13⟩:=At.four BK;obtain⟨l2,c20,c21,c22,c23⟩:=At.four hE;have x1:IntKind.i64.wrap (e1v+e3v)=e1v+e3v:=IntWalk.i64_in _ ak;have x2:IntKind.i64.wrap (e0v+e2v)=e0v+e2v:=IntWalk.i64_in _ ak;have y1:¬ p2<e1v+e3v:=by omega
      have y2:¬ p3<e0v+e2v:=by omega
      have y1b:decide (p2<e1v+e3v)=false:=decide_eq_false y1;have y2b:decide (p3<e0v+e2v)=false:=decide_eq_false y2;clear kY SS hbf hbg adr hbh hE hR2 BK aaP ado;go_wp2
      go_roundw
      case rel=>exact⟨j+1,by omega,by go_num,by rw[hs2];go_num,hbi⟩
      case measure=>simp[intOf];omega
  . have hjz:¬ (j:Int)<(no:Int):=by omega
    obtain rfl:j=no:=by omega
    have hn1:=(BH.out.keep hbr).len Tryz.underlying28;rw[HCN.out];go_wp2
    go_ret
    exact⟨rfl,HBa.trans (hbr.mono hsa)⟩
end Go.Proofs.YtcbcfdihofclkaaGreat.Fix
