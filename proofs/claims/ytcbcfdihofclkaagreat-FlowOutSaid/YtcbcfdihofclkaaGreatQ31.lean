/- Proved here: what functions of the program do, in plain numbers (part 31); no conditions but those in sight. -/
import Derived.Test.YtcbcfdihofclkaaGreatQK
import Derived.Test.YtcbcfdihofclkaaGreatQ02
import Derived.Test.YtcbcfdihofclkaaGreatQ20
import Derived.Test.YtcbcfdihofclkaaGreatQ21
import Derived.Test.YtcbcfdihofclkaaGreatQ26
import Derived.Test.YtcbcfdihofclkaaGreatQ27
import Derived.Test.YtcbcfdihofclkaaGreatQ29
import Derived.Test.YtcbcfdihofclkaaGreatQ30
set_option linter.unusedVariables false
set_option linter.unusedSimpArgs false
set_option linter.unusedSectionVars false
set_option maxRecDepth 100000
namespace Go.Proofs.YtcbcfdihofclkaaGreat.Fix
open Go.ChangeShapes Go.WideShapes Go.ChangeAt Go.RowKit
structure Wk(B:Int->Fw.Bx)(F:Int->Nat)(D:Int->Prop):Prop where
 down:∀z,D z->∀k∈(B z).fl,D k/\F z=F k+1
 len:∀z,D z->(B z).fl.length<=64
 kind:∀z,D z->(B z).sty.c 0=0\/(B z).sty.c 0=1\/(B z).sty.c 0=2
 deep:∀z,D z->F z<=1000
theorem mW.lt{X:World}{b:Nat}(h:mW X b):b<X.heap.size:=by
 obtain⟨n,g,h1,_⟩:=h;exact h1.lt
section
variable {Y:rV} {B:Int->Fw.Bx} {F:Int->Nat} {D:Int->Prop}
def acz(Y:rV)(B:Int->Fw.Bx)(F:Int->Nat)(D:Int->Prop)(f:Nat):Prop :=
 ∀(z i0 i1:Int) (w:World) (n:Nat) (P:Nat->Prop),D z->F z=f->Wf i0->Wf i1->RO w Y B D mW->Kp Y B F n P w->(∀b,P b->b<w.heap.size)->n+Fw.cst B f z<maxLen ->
  Calls Tryz.prog 119 #[.pointer (some ⟨Y.lb,0,none⟩),.agg #[.int .i64 z,.int .i64 i0,.int .i64 i1]] w λe w' =>
   ∃v n' P',e=.returned v/\CV w' P' v (Fw.cont B f z i0 i1)/\n'<=n+Fw.cst B f z/\Kp Y B F n' P' w'/\(∀b,P' b->P b\/w.heap.size<=b)/\Out (λb=>b=Y.pm) w w'
theorem aag(B:Int->Fw.Bx)(f:Nat)(z:Int):1<=Fw.cst B f z:=by
 cases f<;>simp only[Fw.cst]<;>omega
set_option maxHeartbeats 4000000 in
theorem abb(W:Wk B F D)(f:Nat)(hL:∀f',f=f'+1->vF Y B F D mW f'):acz Y B F D f:=by
 intro z i0 i1 w n P hz hf h0 h1 hR EA hP hn;have hc1:=aag B f z;by_cases hne:(B z).fl=[]
 . have hc:Fw.cont B f z i0 i1=([],(B z).sty.c 54):=by
    cases f with
    | zero=>rfl
    | succ f=>simp only[Fw.cont];rw[if_pos hne]
   refine(Iu mW.keep z i0 i1 hz w hR hne).mono λe w' ⟨he,hb⟩ => ?_;refine⟨_,n,P,he,?_,by omega,EA.out (M:=λ_=>False) (Out.of_below hb) λ_ _ q=>q,λb h => .inl h,Out.of_below hb⟩;rw[hc];exact⟨none,0,rfl,.inl rfl⟩
 . obtain⟨f',rfl⟩:∃f',f=f'+1:=by
    cases hfl:(B z).fl with
    | nil=>exact absurd hfl hne
    | cons k l =>
      have:=(W.down z hz k (by rw[hfl];simp)).2;exact⟨F k,by omega⟩
   have hdn:∀k∈(B z).fl,D k/\F k=f':=λk hk=>by
    have:=W.down z hz k hk;exact⟨this.1,by omega⟩
   obtain⟨hpP,g,hg,hgv⟩:=EA;have EA:Kp Y B F n P w:=⟨hpP,g,hg,hgv⟩;have hzw:=hR.wf z hz;cases hgk:g (klit z i0 i1)with
   | some v =>
     have hcv:=hgv z i0 i1 v hzw h0 h1 hgk;rw[hf]at hcv;obtain⟨A,cap,rfl,hld⟩:=hcv;refine(Iw mW.keep z i0 i1 hz w hR n h0 h1 hne g hg _ _ _ _ hgk).mono λe w' ⟨he,hb⟩ => ?_;exact⟨_,n,P,he,⟨A,cap,rfl,hld.out (M:=λ_=>False) (Out.of_below hb) (λ_ _ q=>q) λ_ q=>q⟩,by omega,EA.out (M:=λ_=>False) (Out.of_below hb) λ_ _ q=>q,λb h => .inl h,Out.of_below hb⟩
   | none =>
     obtain⟨xs,hxs⟩:∃l,(Fw.kind B (Fw.lay B f') f' z i0 i1).1=l:=⟨_,rfl⟩;obtain⟨hi,hhi⟩:∃l,(Fw.kind B (Fw.lay B f') f' z i0 i1).2=l:=⟨_,rfl⟩;have hk:Fw.kind B (Fw.lay B f') f' z i0 i1=(xs,hi):=by rw[<-hxs,<-hhi]
     have D5:xs.map (·.id)=(B z).fl:=by rw[<-hxs];exact Fw.JG B f' z i0 i1
     have hcn:Fw.cont B (F z) z i0 i1=(xs.map (Fw.mv B i0 i1),hi):=by
      rw[hf];simp only[Fw.cont];rw[if_neg hne];show((Fw.kind B (Fw.lay B f') f' z i0 i1).1.map (Fw.mv B i0 i1),(Fw.kind B (Fw.lay B f') f' z i0 i1).2)=_;rw[hxs,hhi]
     have hDx:∀x∈xs,D x.id:=λx hx=>(hdn x.id (by rw[<-D5];exact List.mem_map_of_mem hx)).1;have hlx:xs.length=(B z).fl.length:=by rw[<-D5,List.length_map]
     have acA:=W.len z hz;have acB:f'<=1000:=by have:=W.deep z hz;omega
     have ZO:Fw.cst B (f'+1) z=1+3*((B z).fl.map (Fw.cst B f')).sum:=rfl;rw[ZO]at hn hc1 ⊢
     have hxne:xs≠[]:=λe=>by
      rw[e]at D5;exact hne D5.symm
     have key:∀(kf:FuncId),(∀(args:Array Value) (X:World),(callFunc kf args).run Tryz.prog X=.ok (.enter kf args) X)->(∀X,mW X Y.km->(Instr.lookup 117 (.map (some Y.km)) (.int .i64 ((B z).sty.c 0)) false).run Tryz.prog X=.ok (.func (.func kf) #[] #[]) X) ->
       (∀X,RO X Y B D mW->Kp Y B F n P X->(∀b,P b->b<X.heap.size)->Calls Tryz.prog kf #[.pointer (some ⟨Y.lb,0,none⟩),.agg #[.int .i64 z,.int .i64 i0,.int .i64 i1]] X λe X'=>∃R cap cs P' n',e=.returned (.agg #[.slice (some ⟨R,0,none⟩) xs.length cap,.int .i64 hi])/\X.heap.size<=R/\At X' R (.cells cs 114)/\oL cs xs/\n'<=n+2*((B z).fl.map (Fw.cst B f')).sum/\Kp Y B F n' P' X'/\(∀b,P' b->P b\/X.heap.size<=b)/\¬ P' R/\Out (λb=>b=Y.pm) X X') ->
       Calls Tryz.prog 119 #[.pointer (some ⟨Y.lb,0,none⟩),.agg #[.int .i64 z,.int .i64 i0,.int .i64 i1]] w λe w' =>
        ∃v n' P',e=.returned v/\CV w' P' v (Fw.cont B (f'+1) z i0 i1)/\n'<=n+(1+3*((B z).fl.map (Fw.cst B f')).sum)/\Kp Y B F n' P' w'/\(∀b,P' b->P b\/w.heap.size<=b)/\Out (λb=>b=Y.pm) w w':=λkf hcf Mj hkind =>
      (KP mW.keep mW.out F z i0 i1 hz w hR n P EA hP h0 h1 hne kf hcf hR.kinds.lt Mj xs hi hcn hDx (2*((B z).fl.map (Fw.cst B f')).sum) ak ak g hg hgk hkind).mono λe w' ⟨v,P',n',h1,h2,h3,h4,h5,h6⟩=>⟨v,n',P',h1,by rw[hf]at h2;exact h2,by omega,h4,h5,h6⟩
     rcases W.kind z hz with hq|hq|hq
     . refine key 171 (λ_ _=>rfl) (λX h=>h.look _ _ (.inl ⟨hq,rfl⟩)) λX XF hKX hPX => ?_
       refine acd (hL f' rfl) mW.keep mW.out W.down (λz hz=>aC (W.len z hz) ak) acB XF XF.kinds.lt z i0 i1 hz hdn hne acA n hKX hPX ak xs hi ?_;rw[<-hk];unfold Fw.kind;rw[if_neg ak,if_neg ak]
     . refine key 172 (λ_ _=>rfl) (λX h=>h.look _ _ (.inr (.inl ⟨hq,rfl⟩))) λX XF hKX hPX => ?_
       refine agN (hL f' rfl) mW.keep mW.out XF XF.kinds.lt z i0 i1 hz hdn hne acA n hKX hPX ak xs hi ?_ hxne;rw[<-hk];unfold Fw.kind;rw[if_pos hq]
     . refine key 173 (λ_ _=>rfl) (λX h=>h.look _ _ (.inr (.inr ⟨hq,rfl⟩))) λX XF hKX hPX => ?_
       refine aae (hL f' rfl) mW.keep mW.out XF XF.kinds.lt z i0 i1 hz hdn hne acA n hKX hPX ak xs hi ?_;rw[<-hk];unfold Fw.kind;rw[if_neg ak,if_pos hq]
theorem Gq(W:Wk B F D)(f:Nat)(hI:acz Y B F D f):vF Y B F D mW f:=by
 intro z r0 r1 t0 t1 w n P hz hf hR EA hP hkm hn
 refine(YV (Iv:=λP X=>Kp Y B F n P X/\∀b,P b->b<X.heap.size) (Iv2:=λP X=>∃n',n'<=n+Fw.cst B f z/\Kp Y B F n' P X) mW.keep
  (λ{P M X X'} h k hm=>⟨h.1.out k hm,λb hb=>aR (h.2 b hb) k.size⟩)
  (λ{P M X X'} h k hm=>by obtain⟨n',h1,h2⟩:=h;exact⟨n',h1,h2.out k hm⟩)
  (λ{P X} h=>⟨n,by omega,h.1⟩) P z r0 r1 t0 t1 hz w hR ⟨EA,hP⟩ hP (Fw.cont B f) ?_).mono λe w' ⟨he,⟨P',⟨n',h1,h2⟩,h3⟩,h4⟩=>⟨he,n',P',h1,h2,h3,h4⟩
 intro X i0 XF hKX hi0;have hb:=Fw.CF (B z).sty 0 r0 r0 t0;refine(hI z i0 (-1) X n P hz hf (by rw[eT,hi0];omega) Z57 XF hKX.1 hKX.2 hn).mono λe X' ⟨v,n',P',he,hcv,hn',hK',hP',hO⟩ => ?_;obtain⟨A,cap,rfl,_⟩:=hcv;exact⟨⟨_,he⟩,⟨P',⟨n',hn',hK'⟩,hP'⟩,hO⟩
theorem IV(Y:rV)(W:Wk B F D):∀f,acz Y B F D f/\vF Y B F D mW f:=by
 intro f
 induction f with
 | zero =>
   have h:=abb (Y:=Y) W 0 λf' e=>by omega
   exact⟨h,Gq W 0 h⟩
 | succ f ih =>
   have h:=abb (Y:=Y) W (f+1) λf' e=>by obtain rfl:f=f':=ak;exact ih.2
   exact⟨h,Gq W (f+1) h⟩
end
def Oi(s:Re.St)(y:Nat)(ry r0:Int):Int:=if Fw.GZ s y ry=true\/Fw.Et s y 0 ry=false\/Fw.Et s y 1 ry=false then -1 else max (Fw.wr (Fw.wr (Fw.wr (ry-Fw.ins s y 0 ry)-Fw.ins s y 1 ry)-Fw.X8 s y r0)) 0
set_option maxHeartbeats 8000000 in
theorem acC(b:Nat)(s:Re.St)(fl ap:Value)(ib:Bool)(r0 r1:Int)(w:World)(h:aF w b s fl ap ib):Calls Tryz.prog 177 #[.pointer (some ⟨b,0,none⟩),.int .i64 0,.agg #[.int .i64 r0,.int .i64 r1]] w λx w'=>x=.returned (.int .i64 (Oi s 0 r0 r0))/\Below w.heap.size w w':=by
 have i0:∀(a b c d:Int) (w:World),(Instr.index 193 (.agg #[.int .i64 a,.int .i64 b,.int .i64 c,.int .i64 d]) (.int .i64 0)).run Tryz.prog w=.ok (.agg #[.int .i64 a,.int .i64 b]) w:=λ_ _ _ _ _=>by kernel_rfl
 have i1:∀(a b c d:Int) (w:World),(Instr.index 193 (.agg #[.int .i64 a,.int .i64 b,.int .i64 c,.int .i64 d]) (.int .i64 1)).run Tryz.prog w=.ok (.agg #[.int .i64 c,.int .i64 d]) w:=λ_ _ _ _ _=>by kernel_rfl
 obtain⟨ans,iK⟩:∃a,Oi s 0 r0 r0=a:=⟨_,rfl⟩;rw[iK];have hfd:Fw.GZ s 0 r0=Fx.mX (s.c 3) r0:=rfl;unfold Oi at iK;rw[hfd]at iK;have gX:=Lib.hid iK;clear iK hfd;go_enter Tryz.func177,Tryz.ntmps177
 go_upto_region 1 with(fail)
 generalize hW:World.alloc _ _=W0;have A0:At W0 w.heap.size (.cells #[.int .i64 r0,.int .i64 r1] 108):=hW▸At.new _ _;have A2:aF W0 b s fl ap ib:=hW▸aF.alloc h _;have hB:Below w.heap.size w W0:=hW▸Below.alloc' (Below.refl _ _) _;clear hW h;obtain⟨l0,aA,aB⟩:=A0.two
 go_upto_region 2 with((go_at_call 239;(with_reducible refine(vw b s fl ap ib r0 r1 _ A2).mono ?_);rintro e w3 ⟨rfl,hb⟩))
 replace A0:=A0.keep hb;replace A2:=A2.keep hb;replace hB:=Below.ay hB (ah _) hb;clear l0 aA aB hb;obtain⟨l0,aA,aB⟩:=A0.two
 go_upto_region 3 with((go_at_call 239;(with_reducible refine(yB b s fl ap ib r0 r1 _ A2).mono ?_);rintro e w4 ⟨rfl,hb⟩))
 replace A0:=A0.keep hb;replace A2:=A2.keep hb;replace hB:=Below.ay hB (ah _) hb;clear l0 aA aB hb;obtain⟨l0,aA,aB⟩:=A0.two;obtain⟨l2,aN,aO,aP,aQ,aZ,bq,aX,aY⟩:=At.bx0 A2;generalize Fw.ins s 0 0 r0=p0 at *;generalize Fw.ins s 0 1 r0=p1 at *;cases hfx:Fx.mX (s.c 3) r0 with
 | true =>
   have E:Hid (-1=ans):=Lib.hid (by rw[<-gX.out,hfx];simp);clear gX;exact Zv
 | false =>
   cases hg0:Fw.Et s 0 0 r0 with
   | false =>
     have E:Hid (-1=ans):=Lib.hid (by rw[<-gX.out,hg0];simp);clear gX hg0;exact Zv
   | true =>
     cases hg1:Fw.Et s 0 1 r0 with
     | false =>
       have E:Hid (-1=ans):=Lib.hid (by rw[<-gX.out,hg1];simp);clear gX hg1 hg0;exact Zv
     | true =>
       have E:Hid (max (Fw.wr (Fw.wr (Fw.wr (r0-p0)-p1)-Fw.X8 s 0 r0)) 0=ans):=Lib.hid (by rw[<-gX.out,hfx,hg0,hg1];simp);exact Z1a
set_option maxHeartbeats 8000000 in
theorem acD(b:Nat)(s:Re.St)(fl ap:Value)(ib:Bool)(r0 r1:Int)(w:World)(h:aF w b s fl ap ib):Calls Tryz.prog 177 #[.pointer (some ⟨b,0,none⟩),.int .i64 1,.agg #[.int .i64 r0,.int .i64 r1]] w λx w'=>x=.returned (.int .i64 (Oi s 1 r1 r0))/\Below w.heap.size w w':=by
 have i0:∀(a b c d:Int) (w:World),(Instr.index 193 (.agg #[.int .i64 a,.int .i64 b,.int .i64 c,.int .i64 d]) (.int .i64 0)).run Tryz.prog w=.ok (.agg #[.int .i64 a,.int .i64 b]) w:=λ_ _ _ _ _=>by kernel_rfl
 have i1:∀(a b c d:Int) (w:World),(Instr.index 193 (.agg #[.int .i64 a,.int .i64 b,.int .i64 c,.int .i64 d]) (.int .i64 1)).run Tryz.prog w=.ok (.agg #[.int .i64 c,.int .i64 d]) w:=λ_ _ _ _ _=>by kernel_rfl
 obtain⟨ans,iK⟩:∃a,Oi s 1 r1 r0=a:=⟨_,rfl⟩;rw[iK];have hfd:Fw.GZ s 1 r1=Fx.mX (s.c 5) r1:=rfl;unfold Oi at iK;rw[hfd]at iK;have gX:=Lib.hid iK;clear iK hfd;go_enter Tryz.func177,Tryz.ntmps177
 go_upto_region 1 with(fail)
 generalize hW:World.alloc _ _=W0;have A0:At W0 w.heap.size (.cells #[.int .i64 r0,.int .i64 r1] 108):=hW▸At.new _ _;have A2:aF W0 b s fl ap ib:=hW▸aF.alloc h _;have hB:Below w.heap.size w W0:=hW▸Below.alloc' (Below.refl _ _) _;clear hW h;obtain⟨l0,aA,aB⟩:=A0.two
 go_upto_region 2 with((go_at_call 239;(with_reducible refine(uI b s fl ap ib r0 r1 _ A2).mono ?_);rintro e w3 ⟨rfl,hb⟩))
 replace A0:=A0.keep hb;replace A2:=A2.keep hb;replace hB:=Below.ay hB (ah _) hb;clear l0 aA aB hb;obtain⟨l0,aA,aB⟩:=A0.two
 go_upto_region 3 with((go_at_call 239;(with_reducible refine(xU b s fl ap ib r0 r1 _ A2).mono ?_);rintro e w4 ⟨rfl,hb⟩))
 replace A0:=A0.keep hb;replace A2:=A2.keep hb;replace hB:=Below.ay hB (ah _) hb;clear l0 aA aB hb;obtain⟨l0,aA,aB⟩:=A0.two;obtain⟨l2,aN,aO,aP,aQ,aZ,bq,aX,aY⟩:=At.bx1 A2;generalize Fw.ins s 1 0 r1=p0 at *;generalize Fw.ins s 1 1 r1=p1 at *;cases hfx:Fx.mX (s.c 5) r1 with
 | true =>
   have E:Hid (-1=ans):=Lib.hid (by rw[<-gX.out,hfx];simp);clear gX;exact Zv
 | false =>
   cases hg0:Fw.Et s 1 0 r1 with
   | false =>
     have E:Hid (-1=ans):=Lib.hid (by rw[<-gX.out,hg0];simp);clear gX hg0;exact Zv
   | true =>
     cases hg1:Fw.Et s 1 1 r1 with
     | false =>
       have E:Hid (-1=ans):=Lib.hid (by rw[<-gX.out,hg1];simp);clear gX hg1 hg0;exact Zv
     | true =>
       have E:Hid (max (Fw.wr (Fw.wr (Fw.wr (r1-p0)-p1)-Fw.X8 s 1 r0)) 0=ans):=Lib.hid (by rw[<-gX.out,hfx,hg0,hg1];simp);exact Z1a
def Mr(s:Re.St)(y:Nat)(ry r0 pad long:Int):Int:=if Fw.Et s y 0 ry=true then Fw.wr (Fw.ins s y 0 ry+Fw.mg s y 0 r0)else if Fw.Et s y 1 ry=true then Fw.wr (Fw.wr (Fw.wr (ry-Fw.ins s y 1 ry)-Fw.mg s y 1 r0)-long)else Fw.wr (pad+Fw.mg s y 0 r0)
set_option maxHeartbeats 8000000 in
theorem VW(b:Nat)(s:Re.St)(fl ap:Value)(ib:Bool)(a0 a1 r0 r1 p0 p1 long:Int)(w:World)(h:aF w b s fl ap ib):Calls Tryz.prog 180 #[.pointer (some ⟨b,0,none⟩),.int .i64 0,.agg #[.int .i64 a0,.int .i64 a1,.int .i64 r0,.int .i64 r1,.int .i64 p0,.int .i64 p1],.int .i64 long] w λx w'=>x=.returned (.int .i64 (Mr s 0 r0 r0 p0 long))/\Below w.heap.size w w':=by
 have i0:∀(a b c d:Int) (w:World),(Instr.index 193 (.agg #[.int .i64 a,.int .i64 b,.int .i64 c,.int .i64 d]) (.int .i64 0)).run Tryz.prog w=.ok (.agg #[.int .i64 a,.int .i64 b]) w:=λ_ _ _ _ _=>by kernel_rfl
 have i1:∀(a b c d:Int) (w:World),(Instr.index 193 (.agg #[.int .i64 a,.int .i64 b,.int .i64 c,.int .i64 d]) (.int .i64 1)).run Tryz.prog w=.ok (.agg #[.int .i64 c,.int .i64 d]) w:=λ_ _ _ _ _=>by kernel_rfl
 obtain⟨ans,iK⟩:∃a,Mr s 0 r0 r0 p0 long=a:=⟨_,rfl⟩;rw[iK];unfold Mr at iK;have gX:=Lib.hid iK;clear iK;go_enter Tryz.func180,Tryz.ntmps180
 go_upto_region 1 with(fail)
 generalize hW:World.alloc _ _=W0;have A0:At W0 w.heap.size (.cells #[.int .i64 a0,.int .i64 a1,.int .i64 r0,.int .i64 r1,.int .i64 p0,.int .i64 p1] 239):=hW▸At.new _ _;have A2:aF W0 b s fl ap ib:=hW▸aF.alloc h _;have hB:Below w.heap.size w W0:=hW▸Below.alloc' (Below.refl _ _) _;clear hW h;obtain⟨l0,aA,aB,bB,lM,p8,p9⟩:=At.six A0
 go_upto_region 2 with((go_at_call 182;(with_reducible refine(fZ b s fl ap ib r0 r1 _ A2).mono ?_);rintro e w3 ⟨rfl,hb⟩))
 generalize hW:World.alloc _ _=W1;have A1:At W1 w3.heap.size (.cells #[.int .i64 (Fw.mg s 0 0 r0),.int .i64 (Fw.mg s 0 1 r0)] 192):=hW▸At.new _ _;have hb2:Below W0.heap.size W0 W1:=hW▸(hb.trans (Below.mono (Below.alloc' (Below.refl _ _) _) hb.size));clear hW hb;generalize w3.heap.size=T at *;replace A0:=A0.keep hb2;replace A2:=A2.keep hb2;replace hB:=Below.ay hB (ah _) hb2;clear l0 aA aB bB lM p8 p9 hb2;obtain⟨l0,aA,aB,bB,lM,p8,p9⟩:=At.six A0;generalize Fw.mg s 0 0 r0=m0 at *;generalize Fw.mg s 0 1 r0=m1 at *
 go_upto_region 3 with((go_at_call 239;(with_reducible refine(vw b s fl ap ib r0 r1 _ A2).mono ?_);rintro e w4 ⟨rfl,hb⟩))
 replace A0:=A0.keep hb;replace A1:=A1.keep hb;replace A2:=A2.keep hb;replace hB:=Below.ay hB (ah _) hb;clear l0 aA aB bB lM p8 p9 hb;obtain⟨l0,aA,aB,bB,lM,p8,p9⟩:=At.six A0;obtain⟨l1,aL,aM⟩:=A1.two;generalize Fw.ins s 0 0 r0=q0 at *;cases hg0:Fw.Et s 0 0 r0 with
 | true =>
   exact Z3i
 | false =>
   have HG:=Lib.hid hg0;clear hg0
   go_upto_region 6 with((go_at_call 239;(with_reducible refine(yB b s fl ap ib r0 r1 _ A2).mono ?_);rintro e w5 ⟨rfl,hb⟩))
   replace A0:=A0.keep hb;replace A1:=A1.keep hb;replace A2:=A2.keep hb;replace hB:=Below.ay hB (ah _) hb;clear l0 aA aB bB lM p8 p9 hb l1 aL aM;obtain⟨l0,aA,aB,bB,lM,p8,p9⟩:=At.six A0;obtain⟨l1,aL,aM⟩:=A1.two;generalize Fw.ins s 0 1 r0=q1 at *;cases hg1:Fw.Et s 0 1 r0 with
   | true =>
     have E:Hid (Fw.wr (Fw.wr (Fw.wr (r0-q1)-m1)-long)=ans):=Lib.hid Z5b;clear gX hg1 HG
     go_upto_region 7 with(fail)
     exact Z15
   | false =>
     have E:Hid (Fw.wr (p0+m0)=ans):=Lib.hid Z5b;clear gX hg1 HG
     go_upto_region 8 with(fail)
     exact Z15
set_option maxHeartbeats 8000000 in
theorem VX(b:Nat)(s:Re.St)(fl ap:Value)(ib:Bool)(a0 a1 r0 r1 p0 p1 long:Int)(w:World)(h:aF w b s fl ap ib):Calls Tryz.prog 180 #[.pointer (some ⟨b,0,none⟩),.int .i64 1,.agg #[.int .i64 a0,.int .i64 a1,.int .i64 r0,.int .i64 r1,.int .i64 p0,.int .i64 p1],.int .i64 long] w λx w'=>x=.returned (.int .i64 (Mr s 1 r1 r0 p1 long))/\Below w.heap.size w w':=by
 have i0:∀(a b c d:Int) (w:World),(Instr.index 193 (.agg #[.int .i64 a,.int .i64 b,.int .i64 c,.int .i64 d]) (.int .i64 0)).run Tryz.prog w=.ok (.agg #[.int .i64 a,.int .i64 b]) w:=λ_ _ _ _ _=>by kernel_rfl
 have i1:∀(a b c d:Int) (w:World),(Instr.index 193 (.agg #[.int .i64 a,.int .i64 b,.int .i64 c,.int .i64 d]) (.int .i64 1)).run Tryz.prog w=.ok (.agg #[.int .i64 c,.int .i64 d]) w:=λ_ _ _ _ _=>by kernel_rfl
 obtain⟨ans,iK⟩:∃a,Mr s 1 r1 r0 p1 long=a:=⟨_,rfl⟩;rw[iK];unfold Mr at iK;have gX:=Lib.hid iK;clear iK;go_enter Tryz.func180,Tryz.ntmps180
 go_upto_region 1 with(fail)
 generalize hW:World.alloc _ _=W0;have A0:At W0 w.heap.size (.cells #[.int .i64 a0,.int .i64 a1,.int .i64 r0,.int .i64 r1,.int .i64 p0,.int .i64 p1] 239):=hW▸At.new _ _;have A2:aF W0 b s fl ap ib:=hW▸aF.alloc h _;have hB:Below w.heap.size w W0:=hW▸Below.alloc' (Below.refl _ _) _;clear hW h;obtain⟨l0,aA,aB,bB,lM,p8,p9⟩:=At.six A0
 go_upto_region 2 with((go_at_call 182;(with_reducible refine(fZ b s fl ap ib r0 r1 _ A2).mono ?_);rintro e w3 ⟨rfl,hb⟩))
 generalize hW:World.alloc _ _=W1;have A1:At W1 w3.heap.size (.cells #[.int .i64 (Fw.mg s 1 0 r0),.int .i64 (Fw.mg s 1 1 r0)] 192):=hW▸At.new _ _;have hb2:Below W0.heap.size W0 W1:=hW▸(hb.trans (Below.mono (Below.alloc' (Below.refl _ _) _) hb.size));clear hW hb;generalize w3.heap.size=T at *;replace A0:=A0.keep hb2;replace A2:=A2.keep hb2;replace hB:=Below.ay hB (ah _) hb2;clear l0 aA aB bB lM p8 p9 hb2;obtain⟨l0,aA,aB,bB,lM,p8,p9⟩:=At.six A0;generalize Fw.mg s 1 0 r0=m0 at *;generalize Fw.mg s 1 1 r0=m1 at *
 go_upto_region 3 with((go_at_call 239;(with_reducible refine(uI b s fl ap ib r0 r1 _ A2).mono ?_);rintro e w4 ⟨rfl,hb⟩))
 replace A0:=A0.keep hb;replace A1:=A1.keep hb;replace A2:=A2.keep hb;replace hB:=Below.ay hB (ah _) hb;clear l0 aA aB bB lM p8 p9 hb;obtain⟨l0,aA,aB,bB,lM,p8,p9⟩:=At.six A0;obtain⟨l1,aL,aM⟩:=A1.two;generalize Fw.ins s 1 0 r1=q0 at *;cases hg0:Fw.Et s 1 0 r1 with
 | true =>
   exact Z3i
 | false =>
   have HG:=Lib.hid hg0;clear hg0
   go_upto_region 6 with((go_at_call 239;(with_reducible refine(xU b s fl ap ib r0 r1 _ A2).mono ?_);rintro e w5 ⟨rfl,hb⟩))
   replace A0:=A0.keep hb;replace A1:=A1.keep hb;replace A2:=A2.keep hb;replace hB:=Below.ay hB (ah _) hb;clear l0 aA aB bB lM p8 p9 hb l1 aL aM;obtain⟨l0,aA,aB,bB,lM,p8,p9⟩:=At.six A0;obtain⟨l1,aL,aM⟩:=A1.two;generalize Fw.ins s 1 1 r1=q1 at *;cases hg1:Fw.Et s 1 1 r1 with
   | true =>
     have E:Hid (Fw.wr (Fw.wr (Fw.wr (r1-q1)-m1)-long)=ans):=Lib.hid Z5b;clear gX hg1 HG
     go_upto_region 7 with(fail)
     exact Z15
   | false =>
     have E:Hid (Fw.wr (p1+m0)=ans):=Lib.hid Z5b;clear gX hg1 HG
     go_upto_region 8 with(fail)
     exact Z15
end Go.Proofs.YtcbcfdihofclkaaGreat.Fix
