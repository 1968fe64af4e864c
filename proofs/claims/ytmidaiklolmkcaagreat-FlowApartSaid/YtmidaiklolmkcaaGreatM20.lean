/- What functions of the program do, in plain numbers, part 20; no conditions. -/
import Derived.Test.YtmidaiklolmkcaaGreatM19
set_option linter.unusedVariables false
set_option linter.unusedSimpArgs false
set_option linter.unusedSectionVars false
set_option maxRecDepth 100000
set_option maxHeartbeats 16000000
namespace Go.Proofs.YtmidaiklolmkcaaGreat.Fix
open Go.ChangeShapes Go.WideShapes Go.ChangeAt Go.RowKit
theorem Ep(v:Value)(h:Int)(W:World):(Instr.field 120 (.agg #[v,.int .i64 h]) 0).run Tryz.prog W=.ok v W:=by kernel_rfl
theorem aaV{W:World}{v:Value}{l:List Int}{A:Option Addr}{m cp:Nat}(hv:v=.slice A m cp)(h:KS W v l):Ints W A l:=by
 obtain⟨A',c,e,hI,_⟩:=h.ints;rw[hv]at e;injection e with e1 e2 e3;rw[e1];exact hI
section
variable {Y:sj} {B:Int->Fw.Bx} {F:Int->Nat} {D:Int->Prop}
def Er(Y:sj)(B:Int->Fw.Bx)(F:Int->Nat)(D:Int->Prop)(f:Nat):Prop :=
 ∀(x:Fw.Ld) (w:World) (n:Nat) (P:Nat->Prop) (nr:Nat) (g:Lit->Option Value),D x.id->F x.id=f->Wf x.i0->Wf x.i1->RO w Y B D nA->Kp Y B F n P w->(∀b,P b->b<w.heap.size)->¬ P Y.rm->GM 3 w Y.rm nr g->n+oW B f x.id<maxLen->nr+(tl B Y.ww Y.wh f x).length<maxLen ->
  Calls Tryz.prog 24 #[.pointer (some ⟨Y.lb,0,none⟩),.agg (eH x)] w λe w'=>e=.returned (.tuple #[]) /\
   ∃n' P' Ad,n'<=n+oW B f x.id/\Kp Y B F n' P' w'/\(∀b,P' b->P b\/w.heap.size<=b)/\Ad<=nr+(tl B Y.ww Y.wh f x).length/\GM 3 w' Y.rm Ad (jA g (tl B Y.ww Y.wh f x))/\Out (λb=>b=Y.pm\/b=Y.rm) w w'
theorem afR(B:Int->Fw.Bx)(ww wh:Int)(f:Nat)(x:Fw.Ld)(h:f=0->(B x.id).ap=[]):tl B ww wh f x=x::(((Fw.cont B f x.id x.i0 x.i1).1.flatMap λk=>tl B ww wh (f-1) (Qt (B x.id).sty k))++((B x.id).ap.flatMap λk=>tl B ww wh (f-1) (rG B ww wh (f-1) k x))):=by
 cases f with
 | zero=>simp[tl,Fw.cont,h rfl]
 | succ f=>rfl
theorem aaW(B:Int->Fw.Bx)(f:Nat)(z:Int)(h:f=0->(B z).ap=[])(h2:f=0->(B z).fl=[]):oW B f z=Fw.cst B f z+((B z).fl.map (oW B (f-1))).sum+((B z).ap.map λk=>Fw.cst B (f-1) k+oW B (f-1) k).sum:=by
 cases f with
 | zero=>simp[oW,Fw.cst,h rfl,h2 rfl]
 | succ f=>rfl
theorem wY{α:Type}(c:α->Nat){l:List α}{k:Nat}(h:k<l.length):((l.take (k+1)).map c).sum=((l.take k).map c).sum+c l[k]:=by
 rw[List.take_succ_eq_append_getElem h];exact Z30
theorem Bg{α:Type}(c:α->Nat)(l:List α)(k:Nat):((l.take k).map c).sum<=(l.map c).sum:=by
 conv=>rhs;rw[<-List.take_append_drop k l,List.map_append,List.sum_append]
 omega
theorem vO{α β:Type}(c:α->List β){l:List α}{k:Nat}(h:k<l.length):(l.take (k+1)).flatMap c=(l.take k).flatMap c++c l[k]:=by
 rw[List.take_succ_eq_append_getElem h,List.flatMap_append];simp
theorem wZ{α β:Type}(c:α->List β)(l:List α)(k:Nat):((l.take k).flatMap c).length<=(l.flatMap c).length:=by
 conv=>rhs;rw[<-List.take_append_drop k l,List.flatMap_append,List.length_append]
 omega
theorem Qu(W:Wk B F D)(WS:∀z,D z->∀k∈(B z).ap,D k/\F z=F k+1)(aaX:∀z,D z->(B z).ap.length<=10000)(hrb:Y.rm≠Y.bm)(Eo:Y.rm≠Y.km)(f:Nat)(hT:∀f',f=f'+1->Er Y B F D f'):Er Y B F D f:=by
 intro x w n P nr g hz hf h0 h1 hR ER hP Qp hG hn hnr;have Me:=hG.obj;have hrm:=hG.lt;obtain⟨es1,ck1,hrm1⟩:=hG.obj;obtain⟨es0,RG,pU⟩:=hR.EO;have hpl:=pU.lt
 have ads:f=0->(B x.id).fl=[]:=λe=>by
  cases hq:(B x.id).fl with
  | nil=>rfl
  | cons k l =>
    have:=(W.down x.id hz k (by rw[hq];simp)).2;omega
 have adt:f=0->(B x.id).ap=[]:=λe=>by
  cases hq:(B x.id).ap with
  | nil=>rfl
  | cons k l =>
    have:=(WS x.id hz k (by rw[hq];simp)).2;omega
 rw[afR B Y.ww Y.wh f x adt]at hnr ⊢;rw[aaW B f x.id adt ads]at hn ⊢;obtain⟨f1,hf1⟩:=aA (f-1);rw[hf1]at hnr hn ⊢;obtain⟨kids,Mf⟩:=aA ((Fw.cont B f x.id x.i0 x.i1).1);rw[Mf]at hnr ⊢;have hki:kids.map (·.id)=(B x.id).fl:=by rw[<-Mf];exact Fw.Md B f x.id x.i0 x.i1 ads
 obtain⟨s,hs⟩:=aA ((B x.id).sty);obtain⟨fl,hfl⟩:=aA ((B x.id).fl);obtain⟨ap,hap⟩:=aA ((B x.id).ap);rw[hs,hap]at hnr ⊢;rw[hfl,hap]at hn;rw[hfl];rw[hfl]at hki;obtain⟨T1,hT1⟩:∃T:Fw.Ld->List Fw.Ld,(λk=>tl B Y.ww Y.wh f1 (Qt s k))=T:=⟨_,rfl⟩;obtain⟨T2,Yv⟩:∃T:Int->List Fw.Ld,(λk=>tl B Y.ww Y.wh f1 (rG B Y.ww Y.wh f1 k x))=T:=⟨_,rfl⟩;obtain⟨c1,hc1⟩:∃c:Int->Nat,oW B f1=c:=⟨_,rfl⟩;obtain⟨c2,hc2⟩:∃c:Int->Nat,(λk=>Fw.cst B f1 k+oW B f1 k)=c:=⟨_,rfl⟩;obtain⟨cz,hcz⟩:=aA (Fw.cst B f x.id);rw[hT1,Yv]at hnr ⊢;rw[hcz,hc2]at hn ⊢;rw[hc1]at hn ⊢;have HT1:=ah hT1;have HT2:=ah Yv;have TR:=ah hc1;have HC2:=ah hc2
 have HKD:Hid (∀k∈kids,D k.id/\F k.id=f1/\Er Y B F D f1/\Wf k.i0/\Wf k.i1):=ah λk hk=>by
  have hm:k.id∈fl:=by rw[<-hki];exact List.mem_map_of_mem hk
  have h:=W.down x.id hz k.id (by rw[hfl];exact hm);have e:f=f1+1:=by omega
  rw[<-Mf,e]at hk;have hb:=Fw.Qs (Fw.Sz B f1 x.id x.i0 x.i1 k hk);exact⟨h.1,by omega,hT f1 e,by rw[iX];omega,by rw[iX];omega⟩
 have HAD:Hid (∀k∈ap,D k/\F k=f1/\Er Y B F D f1/\vJ Y B F D nA f1):=ah λk hk=>by
  have h:=WS x.id hz k (by rw[hap];exact hk);have e:f=f1+1:=by omega
  exact⟨h.1,by omega,hT f1 e,(Je Y W f1).2⟩
 have afS:kids.length<=10000:=by
  have h:=W.len x.id hz;rw[hfl,<-hki,List.length_map]at h;omega
 have hla:ap.length<=10000:=by
  have h:=aaX x.id hz;rw[hap]at h;exact h
 have HKI:=ah hki;have HS:=ah hs;have HAP:=ah hap;have HN:=ah hn;have HNR:=ah hnr;have HR:=ah hR;have afT:=ah Mf;have wH:=ah ((Je Y W f).1);have HCZ:=ah hcz;obtain⟨b0,hb0⟩:=aA (Y.bl x.id);obtain⟨hbx,_,afU⟩:=hR.box x.id hz;obtain⟨Aa,cpa,hva,hIa,_,_,_⟩:=afU.ints;rw[hap]at hva;have HVA:=ah hva;rw[hb0,hs,hva]at hbx;generalize Y.vf x.id=zvf at hbx;generalize (B x.id).ib=MR at hbx
 have n0p:b0≠Y.pm:=λe=>by
  rw[e]at hbx;exact absurd (At.uniq hbx pU) eZ
 have n0r:b0≠Y.rm:=λe=>by
  rw[e]at hbx;exact absurd (At.uniq hbx hrm1) eZ
 have nlr:Y.lb≠Y.rm:=λe=>by
  have h1:=hR.lay;rw[e]at h1;exact absurd (At.uniq h1 hrm1) eZ
 have R4:=hbx.lt;have hTS:TS Y B F D w P n P nr g w:=⟨hR,ER,hP,λb h => .inl h,Qp,hG,Out.refl _ _⟩;have b01:Below w.heap.size w (w.alloc (.cells (eH x) 77)):=Below.alloc' aF _;have A0:At (w.alloc (.cells (eH x) 77)) w.heap.size (.cells (eH x) 77):=At.new _ _;have WT:=hTS.after hrb Eo hR Me hrm b01;have Wo:=ah (aL.keep hbx b01);have hzw:=hR.wf x.id hz;clear hT1 Yv hc1 hc2 hki hfl hap hs hn hnr Mf hbx afU hva hIa hTS ER hcz hR pU hrm1 ads adt;have HZ:=ah hz;go_enter Tryz.func24,Tryz.ntmps24
 go_upto_region 1 with(fail)
 generalize hW:World.alloc _ _=w1;have e1:w.alloc (.cells (eH x) 77)=w1:=hW;rw[e1]at b01 A0 WT Wo;clear hW e1;have hsz:=b01.size;have hlk:=λX (h:Below w1.heap.size w1 X)=>(WT.ro.keep nA.keep h).look hz;simp only[hb0]at hlk;obtain⟨lY,xw,xA,zu,zw,zy,zA⟩:=At.six WT.ro.lay;obtain⟨lN,d0,d1,d2,d3,d4,d5,d6⟩:=At.seven (b:=w.heap.size) A0;have hSd:Below w1.heap.size w1 w1.drew:=Below.drew aF;refine lF (S:=λX=>Below w1.heap.size w1 X) 9 ?_ ?_
 . exact hSd
 intro hx;clear hSd;refine aM 0 ?_;refine aM 1 ?_;refine aM 2 ?_;refine aM 3 ?_;refine aM 4 ?_;refine aM 5 ?_;refine aM 6 ?_;refine rO 7 rfl (eB aX rfl rfl rfl (λX h=>hlk X h)) ?_;refine aM 8 ?_;refine ko ?_;have hx2:Below w1.heap.size w1 w1.drew:=hx;generalize w1.drew=w3 at *;have Es:=WT.after hrb Eo HR.out Me hrm hx2;have B3:=A0.keep hx2;have Ac:=ah (aL.keep Wo.out hx2);have aar:=hx2.size;clear hx hx2 hlk xw xA zu zw zy zA lY lN d0 d1 d2 d3 d4 d5 d6 A0 WT Wo b01 hb0;obtain⟨lY,xw,xA,zu,zw,zy,zA⟩:=At.six Es.ro.lay;obtain⟨lN,d0,d1,d2,d3,d4,d5,d6⟩:=At.seven (b:=w.heap.size) B3;obtain⟨W5,nr5,afV,hrun,hG5,JF⟩:=(show GM 3 w3.drew Y.rm nr g from Es.gm.out (M:=λ_=>False) (λq=>q) ((Out.refl _ _).drew)).put (v:=rcv x) mU Tryz.underlying28 (by have:=HNR.out;simp only[List.length_cons]at this;omega) (mJ hzw);have Hu:=ah hrun;have n1r:w.heap.size≠Y.rm:=by omega
 have hbr:∀X,(Instr.build 51 #[(0,.int .i64 (Fx.cut x.a0)),(1,.int .i64 (Fx.cut x.a1)),(2,.int .i64 (Fx.cut x.s0)),(3,.int .i64 (Fx.cut x.s1))]).run Tryz.prog X=.ok (rcv x) X:=λX=>by kernel_rfl
 clear hrun
 go_upto_region 2 with(fail)
 have hSd:Out (λb=>b=Y.rm) w3 w3.drew:=(Out.refl _ _).drew;refine lF (S:=λX=>Out (λb=>b=Y.rm) w3 X) 25 ?_ ?_
 . exact hSd
 intro hx;clear hSd;refine jJ 0 ?_;refine jJ 1 ?_;refine jJ 2 ?_;refine jJ 3 ?_;refine jJ 4 ?_;refine jJ 5 ?_;refine jJ 6 ?_;refine jJ 7 ?_;refine jJ 8 ?_;refine jJ 9 ?_;refine jJ 11 ?_;refine jJ 12 ?_;refine jJ 13 ?_;refine jJ 15 ?_;refine jJ 16 ?_;refine jJ 17 ?_;refine jJ 19 ?_;refine jJ 20 ?_;refine jJ 21 ?_;refine tk1 10 ?_;refine ak.Step.call dV (fI _ _) ?_;rintro e' w9 ⟨rfl,rfl⟩;refine⟨_,rfl,λ_=>hx,?_⟩
 (try simp only[bL,bM,bN,tks])
 refine tk1 14 ?_;refine ak.Step.call dV (fI _ _) ?_;rintro e' w9 ⟨rfl,rfl⟩;refine⟨_,rfl,λ_=>hx,?_⟩
 (try simp only[bL,bM,bN,tks])
 refine tk1 18 ?_;refine ak.Step.call dV (fI _ _) ?_;rintro e' w9 ⟨rfl,rfl⟩;refine⟨_,rfl,λ_=>hx,?_⟩
 (try simp only[bL,bM,bN,tks])
 refine tk1 22 ?_;refine ak.Step.call dV (fI _ _) ?_;rintro e' w9 ⟨rfl,rfl⟩;refine⟨_,rfl,λ_=>hx,?_⟩
 (try simp only[bL,bM,bN,tks])
 refine jJ 23 ?_;refine tk1 24 ?_;refine ak.Step.skip (Ba (.tmp 21) (.tmp 24) (.tmp 41) rfl rfl rfl rfl Hu.out) ?_;have Ji:Out (λb=>b=Y.rm) w3 W5:=((Out.refl _ w3).drew).trans JF;refine⟨λ_=>Ji,?_⟩
 (try simp only[bL,bM,bN,tks])
 refine ko ?_;clear hx hbr Hu;have B5:=B3.out (M:=λb=>b=Y.rm) n1r Ji;have FH:=ah (At.out (M:=λb=>b=Y.rm) Ac.out n0r Ji)
 have WU:TS Y B F D w P n P nr5 (xM g (.int .i64 x.id) (rcv x)) W5 :=
  Es.told hrb Eo HR.out Me hrm (Es.kp.out Ji λb hb e=>Es.nrm (e▸hb)) (λb h => .inl h) hG5 (Ji.mono λb _ h => .inr h) |> λh=>⟨h.ro,Es.kp.out Ji λb hb e=>Es.nrm (e▸hb),λb hb=>aV (Es.lt b hb) Ji.size,Es.new,Es.nrm,hG5,h.out⟩
 have hsz5:=Ji.size;clear Es B3 Ac Ji JF hG5 xw xA zu zw zy zA lY lN d0 d1 d2 d3 d4 d5 d6;obtain⟨lN,d0,d1,d2,d3,d4,d5,d6⟩:=At.seven (b:=w.heap.size) B5;have rF:=wH.out x.id x.i0 x.i1 W5 n P HZ.out hf h0 h1 WU.ro WU.kp WU.lt (by have:=HN.out;have:=HCZ.out;omega);rw[HCZ.out]at rF;have hfc:=λ(v:Value) (h:Int) (X:World)=>Ep v h X;have afW:=ah WU;clear WU
 go_upto_region 4 with(go_at_call 47;(with_reducible refine rF.mono ?_);rintro e' w6 ⟨v,n2,P2,rfl,hcv,hn2,hK2,hP2,mP⟩;obtain⟨Ak,cpk,rfl,hld⟩:=hcv;rw[afT.out]at hld ⊢)
 obtain⟨kl,hkl⟩:=aA kids.length;rw[hkl]at afS;rw[hkl];have HKL:=ah hkl;have Mg:fl.length=kl:=by rw[<-HKI.out,List.length_map,hkl]
 have SA:=ah Mg;have hs6:=mP.size;have aaY:=afW.out.laid hrb Eo HR.out Me hrm hK2 hP2 mP;have B6:=B5.out (M:=λb=>b=Y.pm) aj mP;have LJ:=ah (At.out (M:=λb=>b=Y.pm) FH.out n0p mP);obtain⟨bK,csK,hrow⟩:∃bK csK,kids=[]\/(Ak=some ⟨bK,0,none⟩/\At w6 bK (.cells csK 77)/\∀i (h:i<kids.length) j,j<7->csK[i*7+j]? = (eH kids[i])[j]?):=by
  rcases hld with h|⟨b,cs,e1,_,e2,e3⟩
  . exact⟨0,#[],.inl h⟩
  . exact⟨b,cs,.inr ⟨e1,e2,e3⟩⟩
 obtain⟨N6,hN6⟩:=aA w6.heap.size;have HN6:=ah hN6
 have Br:Hid (kids≠[]->Ak=some ⟨bK,0,none⟩/\bK<N6/\bK≠Y.pm/\bK≠Y.rm/\∀i (h:i<kids.length) j,j<7->csK[i*7+j]? = (eH kids[i])[j]?):=ah λhne=>by
  rcases hrow with h|⟨e1,e2,e3⟩
  . exact absurd h hne
  . refine⟨e1,by rw[<-hN6];exact e2.lt,λe => ?_,λe => ?_,e3⟩
    . obtain⟨es,ck,hp⟩:=aaY.ro.EO
      rw[e]at e2;exact absurd (At.uniq e2 hp) eZ
    . obtain⟨es,ck,hp⟩:=aaY.gm.obj
      rw[e]at e2;exact absurd (At.uniq e2 hp) eZ
 have afX:Hid (kids≠[]->At w6 bK (.cells csK 77)):=ah λhne=>by
  rcases hrow with h|⟨e1,e2,e3⟩
  . exact absurd h hne
  . exact e2
 have HC6:Hid (xM g (.int .i64 x.id) (rcv x)=jA (xM g (.int .i64 x.id) (rcv x)) ((kids.take 0).flatMap T1)):=ah (by simp[jA]);have hNw:w.heap.size<N6:=by have:=B6.lt;omega
 clear hkl Mg hld hrow hK2 hP2 mP B5 FH afW rF lN d0 d1 d2 d3 d4 d5 d6 hfc hN6
 go_loopw [48] (λiv wr=>∃(i n':Nat) (P':Nat->Prop) (Ad:Nat) (g':Lit->Option Value),i<=kl/\iv=.int .i64 i/\n'<=n+cz+((fl.take i).map c1).sum/\Ad<=nr+1+((kids.take i).flatMap T1).length/\TS Y B F D w P n' P' Ad g' wr/\Hid (g'=jA (xM g (.int .i64 x.id) (rcv x)) ((kids.take i).flatMap T1))/\At wr w.heap.size (.cells (eH x) 77)/\Hid (aL wr b0 s zvf (.slice Aa ap.length cpa) MR)/\Hid (kids≠[]->At wr bK (.cells csK 77))/\N6<=wr.heap.size) (λiv _=>kl-(intOf iv).toNat)
 case atStart=>exact⟨0,n2,_,nr5,_,fC _,rfl,by simpa using hn2,by simpa using afV,aaY,HC6,B6,LJ,afX,by rw[HN6.out];exact aG _⟩
 case round =>
  clear aaY HC6 B6 LJ afX hn2 afV;obtain⟨i,n',P',Ad,g',hi,rfl,hn',WV,FP,hgg,A0,wz,hAK,ES⟩:=hrel;by_cases hlt:i<kl
  . have hltz:(i:Int)<(kl:Int):=by omega
    have hik:i<kids.length:=by rw[HKL.out];exact hlt
    have ahV:i<fl.length:=by rw[SA.out];exact hlt
    have hne:kids≠[]:=λe=>by rw[e]at hik;simp at hik
    obtain⟨rfl,lK5,nKp,nKr,afY⟩:=Br.out hne;obtain⟨k0,hk0⟩:=aA (kids[i]);have hkd:=ah (HKD.out k0 (hk0▸List.getElem_mem _))
    have HKC:Hid (∀j,j<7->wr.cell? ⟨bK,i*7+j,none⟩=(eH k0)[j]?):=ah λj hj=>by
     rw[(hAK.out hne).cell,<-hk0];exact afY i hik j hj
    have adu:fl[i]=k0.id:=by
     have e:=HKI.out;rw[<-hk0];simp only[<-e,List.getElem_map]
    have HID:=ah adu;have HK0:=ah hk0;have vP:=ah FP;have lKr:=(hAK.out hne).lt;have aaF:((fl.take (i+1)).map c1).sum=((fl.take i).map c1).sum+c1 k0.id:=by rw[wY c1 ahV,adu]
    have aeV:=Bg c1 fl (i+1);have OL:(kids.take (i+1)).flatMap T1=(kids.take i).flatMap T1++T1 k0:=by rw[vO T1 hik,hk0]
    have adv:=wZ T1 kids (i+1);rw[OL,List.length_append]at adv;have WW:=ah OL;have hnn:=HN.out;have adw:=HNR.out;rw[List.length_cons,List.length_append]at adw;clear hk0 adu FP afY OL
    go_upto_region 6 with(first|(refine eY zU og aX _ rfl rfl (dG k0) HKC.out ?_)|(refine BP aX rfl ?_)|(refine Ae aX _ _ rfl rfl rfl Z59 ?_))
    generalize hW:World.setRow _ _ _=W7;obtain⟨K,hKq⟩:=aA wr.heap.size;have AK:At W7 K (.cells (eH k0) 77):=hW▸hKq▸At.setRow (At.new _ _) _;have wX:Below wr.heap.size wr W7:=hW▸bW (Below.alloc' aF _) aD _;have gK:wr.heap.size<=K:=Nat.le_of_eq hKq;rw[hKq];clear hW hKq lKr;have adx:=ah (aL.keep wz.out wX);have n0K:b0≠K:=by omega
    go_wp2;refine wp_loop_rounds 3 ?_;rw[rounds_succ];obtain⟨lb7,q55,q56,q57,q58,q59,q60,c67,c68⟩:=At.bx0 adx.out;obtain⟨lK,OM,OO,OP,OQ,OT,OU,OV⟩:=At.seven (b:=K) AK;have zK5:=AK.thaw 5;clear q55 q56 q57 q58 q59 q60 c68
    go_upto_region 9 with(fail)
    refine xq 14 1 ?_
    (repeat (first|refine nW ?_ | refine nX ?_ (hc:=by intro w2 hS;first|with_reducible exact nR hS (jm _))|refine nY ?_))
    refine ak.dN ?_;intro w2 hS;clear lb7 c67 lK OM OO OP OQ OT OU OV zK5;replace AK:=At.keep AK hS;have afZ:=ah (aL.keep adx.out hS);have wW:=Below.ay wX aD hS;obtain⟨lK,OM,OO,OP,OQ,OT,OU,OV⟩:=At.seven (b:=K) AK;have zK5:=AK.thaw 5;clear hS adx wX;refine x9 ?_;intro K hK;go_simp;refine hK _ _ (ak.bV ?_);clear hK K;generalize hW:World.setCell _ _ _=W9;obtain⟨p0,hp0⟩:=aA (IntKind.i64.wrap (k0.a0+Fw.ed s 3));have AK9:At W9 K (.cells (eH { k0 with a0:=p0 }) 77):=by
     rw[<-hW,<-hp0];exact At.set AK 5 _
    have gV:Below wr.heap.size wr W9:=by
     rw[<-hW];exact Below.setCell wW gK _
    have LV:=ah (show aL W9 b0 s zvf (.slice Aa ap.length cpa) MR from hW▸At.off afZ.out n0K 5 _);clear hW lK OM OO OP OQ OT OU OV zK5 AK afZ wW;go_wp2;rw[rounds_succ];obtain⟨lb7,q61,q62,q63,q64,q65,q66,c69,c70⟩:=At.bx1 LV.out;obtain⟨lK,OM,OO,OP,OQ,OT,OU,OV⟩:=At.seven (b:=K) AK9;have zK6:=AK9.thaw 6;clear q61 q62 q63 q64 q65 q66 c70
    go_upto_region 9 with(fail)
    refine xq 14 1 ?_
    (repeat (first|refine nW ?_ | refine nX ?_ (hc:=by intro w2 hS;first|with_reducible exact nR hS (jm _))|refine nY ?_))
    refine ak.dN ?_;intro w2 hS;clear lb7 c69 lK OM OO OP OQ OT OU OV zK6;replace AK9:=At.keep AK9 hS;have jy:=Below.ay gV aD hS;obtain⟨lK,OM,OO,OP,OQ,OT,OU,OV⟩:=At.seven (b:=K) AK9;have zK6:=AK9.thaw 6;clear hS LV gV;refine x9 ?_;intro K hK;go_simp;refine hK _ _ (ak.bV ?_);clear hK K;generalize hW:World.setCell _ _ _=BN;obtain⟨p1,hp1⟩:=aA (IntKind.i64.wrap (k0.a1+Fw.ed s 0));obtain⟨k1,hk1⟩:∃k:Fw.Ld,{ k0 with a0:=p0,a1:=p1 }=k:=⟨_,rfl⟩;have af0:At BN K (.cells (eH k1) 77):=by
     rw[<-hW,<-hk1,<-hp1];exact At.set AK9 6 _
    have fQ:Below wr.heap.size wr BN:=by
     rw[<-hW];exact Below.setCell jy gK _
    have HED:Hid (Qt s k0=k1):=ah (by unfold Qt;rw[<-rH (k0.a0+_),<-rH (k0.a1+_),hp0,hp1,hk1]);have af2:k1.id=k0.id/\k1.i0=k0.i0/\k1.i1=k0.i1:=by rw[<-hk1];exact⟨rfl,rfl,rfl⟩
    have SB:=ah af2;clear hW lK OM OO OP OQ OT OU OV zK6 AK9 jy hp0 hp1 hk1 af2;go_wp2;rw[rounds_succ];have Et:=ah (vP.out.after hrb Eo HR.out Me hrm fQ);have Yw:=A0.keep fQ;have vN:=ah (aL.keep wz.out fQ);have abU:Hid (kids≠[]->At BN bK (.cells csK 77)):=ah λh=>(hAK.out h).keep fQ;have aji:=fQ.size;have abV:Hid (∀j,j<7->BN.cell? ⟨K,0+j,none⟩=(eH k1)[j]?):=ah λj hj=>by rw[Nat.zero_add];exact af0.cell j
    have ady:T1 k0=tl B Y.ww Y.wh f1 k1:=by rw[<-HT1.out,<-HED.out]
    have aaZ:=hkd.out.2.2;have oD:=aaZ.1 k1 BN n' P' Ad g' (by rw[SB.out.1];exact hkd.out.1) (by rw[SB.out.1];exact hkd.out.2.1) (by rw[SB.out.2.1];exact aaZ.2.1) (by rw[SB.out.2.2];exact aaZ.2.2) Et.out.ro Et.out.kp Et.out.lt Et.out.nrm Et.out.gm (by rw[SB.out.1,TR.out];omega) (by rw[<-ady];omega);rw[SB.out.1,TR.out,<-ady]at oD;clear ady aaZ;clear vP hAK wz A0 fQ
    go_upto_region 12 with(first|(refine eY zU og aX _ rfl rfl (dG k1) abV.out ?_)|(go_at_call 24;(with_reducible refine oD.mono ?_);rintro e' bS ⟨rfl,n3,P3,nr3,hn3,hK3,hP3,af3,hG3,hO3⟩))
    have WX:=Et.out.told hrb Eo HR.out Me hrm hK3 hP3 hG3 hO3;have adz:=hO3.size;have A12:=Yw.out (M:=λb=>b=Y.pm\/b=Y.rm) aj hO3;have GI:=ah (At.out (M:=λb=>b=Y.pm\/b=Y.rm) vN.out aj hO3);have af4:Hid (kids≠[]->At bS bK (.cells csK 77)):=ah λh=>(abU.out h).out (M:=λb=>b=Y.pm\/b=Y.rm) aj hO3;have WY:Hid (jA g' (T1 k0)=jA (xM g (.int .i64 x.id) (rcv x)) ((kids.take (i+1)).flatMap T1)):=ah (by rw[WW.out,za,<-hgg.out]);have hlen:((kids.take (i+1)).flatMap T1).length=((kids.take i).flatMap T1).length+(T1 k0).length:=by rw[WW.out,List.length_append]
    clear Et hK3 hP3 hG3 hO3 Yw vN abU oD af0 HKC abV hgg;go_wp2
    go_roundw
    case rel=>exact⟨i+1,n3,_,nr3,_,by omega,by go_num,by omega,by omega,WX,WY,A12,GI,af4,by omega⟩
    case measure=>simp[intOf];omega
  . obtain rfl:i=kl:=by omega
    have htk:kids.take i=kids:=List.take_of_length_le (by rw[HKL.out];exact aG _);have htf:fl.take i=fl:=List.take_of_length_le (by rw[SA.out];exact aG _);rw[htk]at WV hgg;rw[htf]at hn';have vP:=ah FP;obtain⟨al,hal⟩:=aA ap.length;rw[hal]at hla;have HAL:=ah hal;have JA:=aL.lt wz.out;have c72:wr.cell? ⟨b0,72,none⟩=some (.slice Aa ap.length cpa):=aL.ext wz.out 17;rw[hal]at c72;clear hal FP hAK htk htf hlt
    go_upto_region 14 with(fail)
    clear c72 JA;have af5:Hid (g'=jA (xM g (.int .i64 x.id) (rcv x)) (kids.flatMap T1++(ap.take 0).flatMap T2)):=ah (by simpa using hgg.out);have hn0:=hn';have af6:=WV;have af7:=vP.out
    go_loopw [79] (λiv wr=>∃(i n':Nat) (P':Nat->Prop) (Ad:Nat) (g':Lit->Option Value),i<=al/\iv=.int .i64 i/\n'<=n+cz+(fl.map c1).sum+((ap.take i).map c2).sum/\Ad<=nr+1+(kids.flatMap T1).length+((ap.take i).flatMap T2).length/\TS Y B F D w P n' P' Ad g' wr/\Hid (g'=jA (xM g (.int .i64 x.id) (rcv x)) (kids.flatMap T1++(ap.take i).flatMap T2))/\At wr w.heap.size (.cells (eH x) 77)) (λiv _=>al-(intOf iv).toNat)
    case atStart=>exact⟨0,n',P',Ad,g',fC _,rfl,by simpa using hn0,by simpa using af6,af7,af5,A0⟩
    case round =>
     clear af7 af5 A0 hn0 af6 vP hgg wz hn' WV;obtain⟨j,n',P',Ad,g',hj,rfl,hn',WV,FP,hgg,A0⟩:=hrel;by_cases hlt:j<al
     . have hltz:(j:Int)<(al:Int):=by omega
       have hja:j<ap.length:=by rw[HAL.out];exact hlt
       have hIa:=aaV HVA.out (FP.ro.box x.id HZ.out).2.2;rw[HAP.out]at hIa;obtain⟨b2,o2,rfl,lb2,cb2⟩:=hIa.at_ hja;obtain⟨kid,FI⟩:=aA (ap[j]);rw[show ap.getD j 0=kid by rw[<-FI,List.getD,List.getElem?_eq_getElem hja];rfl]at cb2;have had:=ah (HAD.out kid (FI▸List.getElem_mem _));have vP:=ah FP;have aaF:((ap.take (j+1)).map c2).sum=((ap.take j).map c2).sum+c2 kid:=by rw[wY c2 hja,FI]
       have aeV:=Bg c2 ap (j+1);have OL:(ap.take (j+1)).flatMap T2=(ap.take j).flatMap T2++T2 kid:=by rw[vO T2 hja,FI]
       have adv:=wZ T2 ap (j+1);rw[OL,List.length_append]at adv;have WW:=ah OL;have hnn:=HN.out;have adw:=HNR.out;rw[List.length_cons,List.length_append]at adw;have ajj:c2 kid=Fw.cst B f1 kid+oW B f1 kid:=by rw[<-HC2.out]
       have adA:T2 kid=tl B Y.ww Y.wh f1 (rG B Y.ww Y.wh f1 kid x):=by rw[<-HT2.out]
       clear hIa FI FP OL
       go_upto_region 16 with(fail)
       clear cb2 lb2;have HXC:Hid (∀j,j<7->wr.cell? ⟨w.heap.size,0+j,none⟩=(eH x)[j]?):=ah λj hj=>by rw[Nat.zero_add];exact A0.cell j
       have lNr:=A0.lt;obtain⟨y,hy⟩:=aA (rG B Y.ww Y.wh f1 kid x);have af8:y.id=kid/\Wf y.i0/\Wf y.i1:=by
        rw[<-hy];have hb:=Fw.Qs ((Fw.sG B f1 kid (uL (B kid).sty (B x.id).sty Y.ww Y.wh x.s0 x.s1).r0 (uL (B kid).sty (B x.id).sty Y.ww Y.wh x.s0 x.s1).r1 (OI (B kid).sty (uL (B kid).sty (B x.id).sty Y.ww Y.wh x.s0 x.s1).r0) (Em (B kid).sty 1 (uL (B kid).sty (B x.id).sty Y.ww Y.wh x.s0 x.s1).r1 (uL (B kid).sty (B x.id).sty Y.ww Y.wh x.s0 x.s1).r0)));exact⟨rfl,by rw[iX];unfold rG;simp only[];omega,by rw[iX];unfold rG;simp only[];omega⟩
       have HYI:=ah af8;have uI:Calls Tryz.prog 48 #[.pointer (some ⟨Y.lb,0,none⟩),.int .i64 kid,.agg (eH x)] wr λe w'=>e=.returned (.agg (eH y))/\∃n2 P2,n2<=n'+Fw.cst B f1 kid/\Kp Y B F n2 P2 w'/\(∀b,P2 b->P' b\/wr.heap.size<=b)/\Out (λb=>b=Y.pm) wr w':=by
        rw[<-hy]
        exact(aaT had.out.2.2.2 nA.keep nA.out vP.out.ro vP.out.ro.kinds.lt kid x HZ.out had.out.1 had.out.2.1 wr n' P' (rA.start vP.out.kp vP.out.lt) aj (B kid).sty (B x.id).sty rfl rfl _ _ _ _ _ _ (adr (B kid).sty (B x.id).sty Y.ww Y.wh x.s0 x.s1) _ rfl).mono λe w' ⟨he,n2,P2,h1,h2,h3,h4⟩=>⟨he,n2,P2,h1,h2.kp,λb hb=>by
         by_cases hq:b<wr.heap.size
         . exact .inl (h3 b hq hb)
         . exact .inr aj,h4⟩
       have oD:∀X n2 P2,TS Y B F D w P n2 P2 Ad g' X->n2<=n'+Fw.cst B f1 kid->Calls Tryz.prog 24 #[.pointer (some ⟨Y.lb,0,none⟩),.agg (eH y)] X λe w'=>e=.returned (.tuple #[])/\∃n3 P3 nr3,n3<=n2+oW B f1 kid/\Kp Y B F n3 P3 w'/\(∀b,P3 b->P2 b\/X.heap.size<=b)/\nr3<=Ad+(T2 kid).length/\GM 3 w' Y.rm nr3 (jA g' (T2 kid))/\Out (λb=>b=Y.pm\/b=Y.rm) X w':=λX n2 P2 h h2=>by
        have hq:=had.out.2.2.1 y X n2 P2 Ad g' (by rw[HYI.out.1];exact had.out.1) (by rw[HYI.out.1];exact had.out.2.1) HYI.out.2.1 HYI.out.2.2 h.ro h.kp h.lt h.nrm h.gm (by rw[HYI.out.1];omega) (by rw[<-hy,<-adA];omega);rw[HYI.out.1,<-hy,<-adA,hy]at hq;exact hq
       clear adA hy af8
       go_upto_region 17 with(first|(refine eY zU og aX _ rfl rfl (dG x) HXC.out ?_)|(go_at_call 48;(with_reducible refine uI.mono ?_);rintro e' w8 ⟨rfl,n2,P2,hn2,hK2,hP2,hO2⟩;have adB:=vP.out.laid hrb Eo HR.out Me hrm hK2 hP2 hO2;have abW:=oD w8 n2 _ adB hn2;have af9:=ah adB;clear adB)|(go_at_call 24;(with_reducible refine abW.mono ?_);rintro e' bS ⟨rfl,n3,P3,nr3,hn3,hK3,hP3,af3,hG3,hO3⟩))
       have WX:=af9.out.told hrb Eo HR.out Me hrm hK3 hP3 hG3 hO3;have hs8:=hO2.size;have A12:=(A0.out (M:=λb=>b=Y.pm) aj hO2).out (M:=λb=>b=Y.pm\/b=Y.rm) aj hO3;have WY:Hid (jA g' (T2 kid)=jA (xM g (.int .i64 x.id) (rcv x)) (kids.flatMap T1++(ap.take (j+1)).flatMap T2)):=ah (by rw[WW.out,<-List.append_assoc,za,<-hgg.out]);have hlen:((ap.take (j+1)).flatMap T2).length=((ap.take j).flatMap T2).length+(T2 kid).length:=by rw[WW.out,List.length_append]
       clear af9 hK3 hP3 hG3 hO3 hK2 hP2 hO2 uI oD abW HXC hgg A0 vP;go_wp2
       go_roundw
       case rel=>exact⟨j+1,n3,_,nr3,_,by omega,by go_num,by omega,by omega,WX,WY,A12⟩
       case measure=>simp[intOf];omega
     . obtain rfl:j=al:=by omega
       have hta:ap.take j=ap:=List.take_of_length_le (by rw[HAL.out];exact aG _);rw[hta]at hn' WV hgg;have vP:=ah FP;have HGG:=ah hgg.out;clear FP hta hlt hgg A0;go_wp2;refine bodyPost_end (results_none rfl _ _ _) rfl ⟨rfl,n',P',Ad,by omega,vP.out.kp,vP.out.new,by simp only[List.length_cons,List.length_append];omega,?_,vP.out.out.mono λb hb q => ?_⟩
       . have h1:=vP.out.gm
         rw[HGG.out]at h1;exact h1
       . rcases q with q|q|q
         . exact .inl q
         . exact .inr q
         . omega
theorem WZ(Y:sj)(W:Wk B F D)(WS:∀z,D z->∀k∈(B z).ap,D k/\F z=F k+1)(aaX:∀z,D z->(B z).ap.length<=10000)(hrb:Y.rm≠Y.bm)(Eo:Y.rm≠Y.km):∀f,Er Y B F D f:=by
 intro f
 induction f with
 | zero=>exact Qu W WS aaX hrb Eo 0 λf' e=>by omega
 | succ f ih=>exact Qu W WS aaX hrb Eo (f+1) λf' e=>by obtain rfl:f=f':=aj;exact ih
end
def uH(T:Tr.T):Nat->Int->Bool
 | 0,_=>true
 | f+1,z=>match T z with
   | none=>true
   | some nd=>(nd.sty.c 0 != 3)&&uH T f nd.up
theorem FQ(s:Re.St)(W:World):(Instr.field 46 (.agg (cells s)) 0).run Tryz.prog W=.ok (.int .i64 (s.c 0)) W:=by kernel_rfl
noncomputable def xg(T:Tr.T)(z:Int):Nat:=@dite Nat (∃m,Tr.Dp T z m) (Classical.propDecidable _) (λh=>h.choose+1) (λ_=>0)
theorem sH{T:Tr.T}{z:Int}{m:Nat}(h:Tr.Dp T z m):xg T z=m+1:=by
 have e:∃m,Tr.Dp T z m:=⟨m,h⟩;unfold xg;rw[dif_pos e,e.choose_spec.Y3 h]
theorem OW{T:Tr.T}{z:Int}(h:T z=none):xg T z=0:=by
 unfold xg;refine dif_neg ?_;rintro⟨m,hm⟩;obtain⟨nd,hn⟩:=hm.live;rw[h]at hn;cases hn
section
variable {w:World} {t n:Nat} {L:Lay} {T:Tr.T}
theorem vQ(h:fV w t L T n)(hr:∀nd,T 0=some nd->nd.up = -1){z:Int}{d:Nat}(hd:Tr.Dp T z d):Calls Tryz.prog 11 #[.pointer (some ⟨t,0,none⟩),.int .i64 z] w λe w'=>e=.returned (.bool (uH T (d+1) z))/\Below w.heap.size w w':=by
 have hm:T (-1)=none:=by
  cases e:T (-1)with
  | none=>rfl
  | some nd=>have:=(h.small _ nd e).1;omega
 obtain⟨nd0,hT0⟩:=hd.live;have af':=gP h (h.wf hT0);rw[hT0]at af';have HR:=ah h;have Px:=ah hr;have HD:=ah hd;obtain⟨ans,gY⟩:∃x,Hid (uH T (d+1) z=x):=⟨_,ah rfl⟩;rw[gY.out];clear h hr hd hT0;go_enter Tryz.func11,Tryz.ntmps11
 go_wp2_with (go_at_call 12;(with_reducible refine af'.mono ?_);rintro e w' ⟨rfl,rfl⟩)
 go_loopw [1] (λi wr=>((∃(y:Int) (m:Nat),i=.int .i64 y/\Tr.Dp T y m/\uH T (m+1) y=ans)\/(i=.int .i64 (-1)/\ans=true))/\Below w.heap.size w wr) (λi _=>xg T (intOf i))
 case atStart=>exact⟨.inl ⟨z,d,rfl,HD.out,gY.out⟩,Below.refl _ _⟩
 case round =>
  obtain⟨hrel,hB⟩:=hrel;rcases hrel with⟨y,m,rfl,hD,hs⟩|⟨rfl,rfl⟩
  . obtain⟨nd,hT⟩:=hD.live
    have h1:=HR.out.after hB;have key:=gP h1 (h1.wf hT);have key2:=oC h1 (h1.wf hT);rw[hT]at key key2;have HB:=ah hB;have Tn:=ah hD;have HSS:=ah hs;have HT:=ah hT;have H1:=ah h1;have hfd:=FQ nd.sty;have uT:=λX (hb:Below wr.heap.size wr X)=>Ck (h1.after hb) (h1.wf hT);have hu:Hid (rY T y=nd.up):=ah (by unfold rY;rw[hT]);generalize rY T y=u at *;clear hB hD hs h1 hT;simp only[Option.elim_some]at key2;cases hc:(nd.sty.c 0==3)
    . have HC:=ah hc
      go_wp2_with (first|(go_at_call 12;(with_reducible refine key.mono ?_);rintro e w' ⟨rfl,rfl⟩)|(go_at_call 9;(with_reducible refine key2.mono ?_);rintro e w2 ⟨rfl,hb2⟩)|(go_at_call 30;(with_reducible refine(uT _ hb2).mono ?_);rintro e w' ⟨rfl,rfl⟩))
      have hs:=HSS.out;have hne:(nd.sty.c 0 != 3)=true:=by simp only[bne,HC.out];rfl
      have hB2:Below w.heap.size w w2:=Below.ay HB.out aD hb2;rw[hu.out];have hsh:uH T (m+1) y=uH T m nd.up:=by
       show(match T y with|none=>true|some nd=>(nd.sty.c 0 != 3)&&uH T m nd.up)=_;rw[HT.out];simp only[hne,Bool.true_and]
      rw[hsh]at hs;cases Tn.out with
      | root h0 =>
        have h0':=h0;rw[HT.out]at h0;cases h0;have hup:nd.up = -1:=Px.out nd h0';refine⟨⟨.inr ⟨by rw[hup],hs.symm⟩,hB2⟩,?_⟩;show xg T nd.up<xg T 0;rw[hup,OW hm,sH (Tr.Dp.root h0')];omega
      | step h1 h0 h2 =>
        have h1':=h1;rw[HT.out]at h1;cases h1;refine⟨⟨.inl ⟨nd.up,_,rfl,h2,hs⟩,hB2⟩,?_⟩;show xg T nd.up<xg T y;rw[sH h2,sH (Tr.Dp.step h1' h0 h2)];omega
    . go_wp2_with (first|(go_at_call 12;(with_reducible refine key.mono ?_);rintro e w' ⟨rfl,rfl⟩)|(go_at_call 9;(with_reducible refine key2.mono ?_);rintro e w2 ⟨rfl,hb2⟩))
      go_ret
      refine⟨fT ?_,Below.ay HB.out aD hb2⟩;rw[<-HSS.out];show false=(match T y with|none=>true|some nd=>(nd.sty.c 0 != 3)&&uH T m nd.up);rw[HT.out];simp only[bne,hc];rfl
  . have h1:=HR.out.after hB
    have key:=gP h1 (z := -1) Z51;rw[hm]at key;clear h1
    go_wp2_with (go_at_call 12;(with_reducible refine key.mono ?_);rintro e w' ⟨rfl,rfl⟩)
    go_ret
    exact⟨rfl,hB⟩
end
def Apart(v u:Value):Prop:=v.ownBlock=none\/u.ownBlock=none\/v.ownBlock≠u.ownBlock
theorem Apart.symm{v u:Value}(h:Apart v u):Apart u v:=by
 rcases h with h|h|h
 . exact .inr (.inl h)
 . exact .inl h
 . exact .inr (.inr (Ne.symm h))
theorem CJ{W:World}{base k m:Nat}{v u:Value}{xs ys:List Int}(x:Int)(hu:W.ownsRow base 3 1 u k (xs.map (Value.int .i64)))(hv:W.ownsRow base 3 1 v m (ys.map (Value.int .i64)))(ha:Apart v u)(hbase:base<=W.heap.size)(hk:k<=10000) :
  ∃g c w',(Builtin.append_ #[30,30] 30 #[u,.slice (some ⟨W.heap.size,0,none⟩) 1 1]).run Tryz.prog (W.alloc (.cells #[.int .i64 x] 3))=.ok (.slice (some ⟨g,0,none⟩) (k+1) c) w' /\
   w'.ownsRow base 3 1 (.slice (some ⟨g,0,none⟩) (k+1) c) (k+1) ((xs++[x]).map (Value.int .i64))/\w'.ownsRow base 3 1 v m (ys.map (Value.int .i64))/\Apart v (.slice (some ⟨g,0,none⟩) (k+1) c)/\Below base W w'/\base<=w'.heap.size:=by
 obtain⟨i0,hi0,hz0,hz1,hz2⟩:=info_parts intZero
 obtain⟨v',w',hr,ho,hg,_,hblk⟩:=run_append_own_at (P:=Tryz.prog) (w:=W.alloc (.cells #[.int .i64 x] 3)) base 30 30 3 i0 (.int .i64 0) 1 8 Tryz.underlying30 hi0 hz0 hz1 hz2 rfl aH u k _ (hu.alloc _) ⟨W.heap.size,0,none⟩ 1 1 [.int .i64 x] rfl
  (by intro j u hj
      match j,hj with
      | 0,hj=>simp at hj;subst hj;simp[Addr.add])
  JB Py aj jM
 obtain⟨g,c,rfl⟩:=ownsRow_succ ho;have hv2:=hv.alloc (.cells #[.int .i64 x] 3);have hB:Below base W w':=(Below.alloc (Below.refl base W) hbase _).grown hg jM (λj ej=>(hu.lt j ej).1);have hvb:v.ownBlock=none\/v.ownBlock≠u.ownBlock:=by
  exact Z3x
 refine⟨g,c,w',hr,by rw[List.map_append];exact ho,hv2.kept hg hvb,?_,hB,?_⟩
 . exact Z37
 . have:=hg.size
   simp at this;omega
def dw(T:Tr.T)(z:Int):Re.St:=(T z).elim Re.zero (·.sty)
def ny(s:Re.St):Bool:=s.c 1==2||s.c 1==3
def nC(T:Tr.T)(l:List Int):List Int:=l.filter λk=>((dw T k).c 0 != 3) && !ny (dw T k)
def pY(T:Tr.T)(l:List Int):List Int:=l.filter λk=>((dw T k).c 0 != 3)&&ny (dw T k)
theorem Hg(T:Tr.T)(l:List Int)(k:Nat)(h:l.length<=5000):(nC T (l.take k)).length<=10000:=by
 unfold nC;have:=List.length_filter_le (λk=>((dw T k).c 0 != 3) && !ny (dw T k)) (l.take k);rw[List.length_take]at this;omega
theorem Hl(T:Tr.T)(l:List Int)(k:Nat)(h:l.length<=5000):(pY T (l.take k)).length<=10000:=by
 unfold pY;have:=List.length_filter_le (λk=>((dw T k).c 0 != 3)&&ny (dw T k)) (l.take k);rw[List.length_take]at this;omega
theorem ab3{k L:Nat}(h:k<L):L-(intOf (.int .i64 ((k:Int)+1))).toNat<L-(intOf (.int .i64 (k:Int))).toNat:=by simp[intOf];omega
section
variable {w:World} {t n:Nat} {L:Lay} {T:Tr.T}
theorem GQ(h:fV w t L T n){z:Int}{nd:Tr.Nd}(hT:T z=some nd)(ks:List Int)(hks:nd.kids=ks)(hk:∀x∈ks,∃xd,T x=some xd)(hl:ks.length<=5000):Calls Tryz.prog 29 #[.pointer (some ⟨t,0,none⟩),.int .i64 z] w λe w'=>(∃v u,e=.returned (.tuple #[v,u])/\w'.ownsRow w.heap.size 3 1 v (nC T ks).length ((nC T ks).map (Value.int .i64))/\w'.ownsRow w.heap.size 3 1 u (pY T ks).length ((pY T ks).map (Value.int .i64))/\Apart v u)/\Below w.heap.size w w':=by
 have Mh:=Ro h (h.wf hT);rw[hT]at Mh;simp only[Option.elim_some,hks]at Mh;clear hks;have HR:=ah h;have HK:=ah hk;have HL:=ah hl;clear h hk hl;go_enter Tryz.func29,Tryz.ntmps29
 go_upto_region 2 with(go_at_call 54;(with_reducible refine Mh.mono ?_);rintro e w1 ⟨⟨v1,rfl,ho1⟩,hb1⟩;obtain⟨A1,c1,rfl,hI1,_,_,ajk⟩:=KS.ints (fH ho1 sQ))
 have HI:=ah hI1;have HB1:=ah hb1;have hw1:=hb1.size;clear ho1 Mh hb1;clear hT
 go_loopw [4,5,13] (λf a i wr=>∃(k:Nat),k<=ks.length/\i=.int .i64 (k:Nat)/\wr.ownsRow w1.heap.size 3 1 f (nC T (ks.take k)).length ((nC T (ks.take k)).map (Value.int .i64))/\wr.ownsRow w1.heap.size 3 1 a (pY T (ks.take k)).length ((pY T (ks.take k)).map (Value.int .i64))/\Apart f a/\Below w1.heap.size w1 wr) (λ_ _ i _=>ks.length-(intOf i).toNat)
 case atStart=>exact⟨0,by omega,rfl,by simpa[nC]using World.ownsRow_nil _ _ _ _,by simpa[pY]using World.ownsRow_nil _ _ _ _,.inl rfl,Below.refl _ _⟩
 case round =>
  obtain⟨k,hkl,rfl,hv,hu,hap,hB⟩:=hrel;by_cases hlt:k<ks.length
  . obtain⟨b0,o0,Vb,l0,c0⟩:=(HI.out.after hB).at_ (k:=k) hlt
    subst Vb;obtain⟨x,hx⟩:=aA (ks.getD k 0);rw[hx]at c0;have hxx:ks[k]=x:=by rw[<-hx,List.getD_eq_getElem?_getD,List.getElem?_eq_getElem hlt];rfl
    obtain⟨xd,hxd⟩:=HK.out x (hxx▸List.getElem_mem _);have h1:=(HR.out.after HB1.out).after hB;have key2:=oC h1 (h1.wf hxd);have hst:(T x).elim Re.zero (·.sty)=dw T x:=rfl;rw[hst]at key2;have htk:ks.take (k+1)=ks.take k++[x]:=by rw[List.take_succ_eq_append_getElem hlt,hxx]
    have QJ:nC T (ks.take (k+1))=nC T (ks.take k)++nC T [x]:=by rw[htk];simp[nC]
    have QL:pY T (ks.take (k+1))=pY T (ks.take k)++pY T [x]:=by rw[htk];simp[pY]
    have QK:nC T [x]=if ((dw T x).c 0 != 3 && !ny (dw T x))=true then [x]else []:=by simp[nC,List.filter];split<;>simp_all
    have QM:pY T [x]=if ((dw T x).c 0 != 3&&ny (dw T x))=true then [x]else []:=by simp[pY,List.filter];split<;>simp_all
    generalize dw T x=sx at *;clear h1;cases e0:(sx.c 0==3)
    . cases e2:(sx.c 1==2)
      . cases e3:(sx.c 1==3)
        . have hwk:wrap64 ((k:Int)+1)=(k:Int)+1:=by have:=HL.out;exact IntWalk.wrap64_in _ aj
          have Jz:=ah hlt;have n0:(sx.c 0 != 3)=true:=by simp only[bne,e0];rfl
          have no:ny sx=false:=by unfold ny;rw[e2,e3];rfl
          have Yc:Hid (nC T (ks.take (k+1))=nC T (ks.take k)++[x]):=ah (by rw[QJ,QK,if_pos (by rw[n0,no];rfl)]);have HKA:Hid (pY T (ks.take (k+1))=pY T (ks.take k)):=ah (by rw[QL,QM,if_neg (by rw[n0,no];decide),List.append_nil]);clear QJ QL QK QM
          go_upto_region 4 with(fail)
          go_upto_region 6 with(first|(go_at_call 9;(with_reducible refine key2.mono ?_);rintro e w2 ⟨rfl,hb2⟩)|(refine dn aX rfl ?_)|(refine eP aX rfl ?_)|(refine bq aX _ rfl rfl xX ?_)|(refine eT aX _ _ rfl rfl rfl xX ?_)|(refine dJ aX _ _ rfl rfl rfl xX ?_))
          (try simp only[bL,bM,bN,tks])
          generalize hW:World.setRow _ _ _=w3;have A3:At w3 w2.heap.size (.cells (cells sx) 46):=by rw[<-hW];exact At.setRow (At.new w2 (.cells (cells Re.zero) 46)) (cells sx)
          have hb3:Below wr.heap.size wr w3:=by rw[<-hW];exact below_setRow (hb2.alloc hb2.size (.cells (cells Re.zero) 46)) hb2.size (cells sx)
          clear hW;have hv3:=bJ (M:=λ_=>False) hv (λ_ _ q=>q) (Out.of_below hb3);have hu3:=bJ (M:=λ_=>False) hu (λ_ _ q=>q) (Out.of_below hb3);have hB3:Below w1.heap.size w1 w3:=Below.ay hB aD hb3;have l3:=A3.lt;have d0:=A3.st 0 aH rfl;have d1:=A3.st 1 aH rfl;have hlen1:(nC T (ks.take k)).length<=10000:=Hg T ks k HL.out;have TY:(pY T (ks.take k)).length<=10000:=Hl T ks k HL.out;obtain⟨g,c,w4,hr,ho4,hp4,ha4,hb4,hs4⟩:=CJ x hv3 hu3 hap.symm (by have:=hB3.size;omega) hlen1;have HRR:=ah hr;clear hr
          go_wp2_with (at_builtin;refine wpList_append_run aX _ _ 30 rfl rfl rfl HRR.out ?_)
          (try simp only[bL,bM,bN,tks])
          (try simp only[Act.put,List.setIfInBounds_toArray,List.set_cons_zero,List.set_cons_succ,List.size_toArray,Array.getD_eq_getD_getElem?])
          go_roundw
          case rel =>
           refine⟨k+1,Nat.succ_le_of_lt Jz.out,?_,?_⟩
           . exact Z3n
           . rw[Yc.out,HKA.out]
             exact⟨by rw[List.length_append];exact ho4,hp4,ha4.symm,hB3.trans hb4⟩
          case measure =>
           exact Z2m
        . have hwk:wrap64 ((k:Int)+1)=(k:Int)+1:=by have:=HL.out;exact IntWalk.wrap64_in _ aj
          have Jz:=ah hlt;have n0:(sx.c 0 != 3)=true:=by simp only[bne,e0];rfl
          have no:ny sx=true:=by unfold ny;rw[e2,e3];rfl
          exact Zg
      . have hwk:wrap64 ((k:Int)+1)=(k:Int)+1:=by have:=HL.out;exact IntWalk.wrap64_in _ aj
        have Jz:=ah hlt;have n0:(sx.c 0 != 3)=true:=by simp only[bne,e0];rfl
        have no:ny sx=true:=by unfold ny;rw[e2];rfl
        exact Zg
    . have hwk:wrap64 ((k:Int)+1)=(k:Int)+1:=by have:=HL.out;exact IntWalk.wrap64_in _ aj
      have Jz:=ah hlt;have n0:(sx.c 0 != 3)=false:=by simp only[bne,e0];rfl
      have Yc:Hid (nC T (ks.take (k+1))=nC T (ks.take k)):=ah (by rw[QJ,QK,if_neg (by rw[n0];simp),List.append_nil]);have HKA:Hid (pY T (ks.take (k+1))=pY T (ks.take k)):=ah (by rw[QL,QM,if_neg (by rw[n0];simp),List.append_nil]);clear QJ QL QK QM
      go_upto_region 4 with(fail)
      go_upto_region 6 with(first|(go_at_call 9;(with_reducible refine key2.mono ?_);rintro e w2 ⟨rfl,hb2⟩)|(refine dn aX rfl ?_)|(refine eP aX rfl ?_)|(refine bq aX _ rfl rfl xX ?_)|(refine eT aX _ _ rfl rfl rfl xX ?_)|(refine dJ aX _ _ rfl rfl rfl xX ?_))
      (try simp only[bL,bM,bN,tks])
      generalize hW:World.setRow _ _ _=w3;have A3:At w3 w2.heap.size (.cells (cells sx) 46):=by rw[<-hW];exact At.setRow (At.new w2 (.cells (cells Re.zero) 46)) (cells sx)
      have hb3:Below wr.heap.size wr w3:=by rw[<-hW];exact below_setRow (hb2.alloc hb2.size (.cells (cells Re.zero) 46)) hb2.size (cells sx)
      clear hW;have hv3:=bJ (M:=λ_=>False) hv (λ_ _ q=>q) (Out.of_below hb3);have hu3:=bJ (M:=λ_=>False) hu (λ_ _ q=>q) (Out.of_below hb3);have hB3:Below w1.heap.size w1 w3:=Below.ay hB aD hb3;have l3:=A3.lt;have d0:=A3.st 0 aH rfl;have d1:=A3.st 1 aH rfl;have hlen1:(nC T (ks.take k)).length<=10000:=Hg T ks k HL.out;have TY:(pY T (ks.take k)).length<=10000:=Hl T ks k HL.out;go_wp2
      (try simp only[bL,bM,bN,tks])
      (try simp only[Act.put,List.setIfInBounds_toArray,List.set_cons_zero,List.set_cons_succ,List.size_toArray,Array.getD_eq_getD_getElem?])
      go_roundw
      case rel =>
       refine⟨k+1,Nat.succ_le_of_lt Jz.out,?_,?_⟩
       . exact Z3n
       . rw[Yc.out,HKA.out]
         exact⟨hv3,hu3,hap,hB3⟩
      case measure =>
       exact Z2m
  . obtain rfl:k=ks.length:=by omega
    rw[List.take_length]at hv hu;go_wp2;refine bodyPost_ret (v:=.tuple #[_,_]) (by simp[results,Tryz.results29,go_sem];first|done|exact⟨rfl,rfl⟩|rfl) rfl ⟨⟨_,_,rfl,fH hv hw1,fH hu hw1,hap⟩,Below.ay HB1.out aD hB⟩
end
def dF(T:Tr.T)(z:Int):List Int:=(T z).elim [] (·.kids)
def upT(T:Tr.T)(z:Int):Int:=(T z).elim (-1) (·.up)
def ze(T:Tr.T)(z:Int):Bool:=(T (upT T z)).isSome&&(((dw T (upT T z)).c 0==0) && !ny (dw T z))
def lD(T:Tr.T):Nat->Int->List Int
 | 0,_=>[]
 | f+1,z=>z::((nC T (dF T z)).flatMap (lD T f)++(pY T (dF T z)).flatMap (lD T f))
structure TM where
 bl:Nat
 vf:Value
 va:Value
structure Rd(W:World)(T:Tr.T)(bm n:Nat)(E:Int->Option TM):Prop where
 gm:∃g,GM 3 W bm n g/\∀z,Wf z->g (.int .i64 z)=(E z).map λe => .pointer (some ⟨e.bl,0,none⟩)
 box:∀z e,E z=some e->Wf z/\aL W e.bl (dw T z) e.vf e.va (ze T z)/\KS W e.vf (nC T (dF T z))/\KS W e.va (pY T (dF T z))
theorem KS.Jj{W:World}{v:Value}{l:List Int}{b:Nat}{es:Array MapEntry}{ck:Nat}(h:KS W v l)(hm:At W b (.map es ck)):v.ownBlock≠some b:=λe=>by
 rcases h.cases with⟨rfl,_⟩|⟨g,c,rfl,cur,h1,_⟩
 . cases e
 . simp[Value.ownBlock]at e
   rw[e]at h1;have:=At.uniq h1 hm;cases this
theorem Rd.after{W W':World}{T:Tr.T}{bm n:Nat}{E:Int->Option TM}(h:Rd W T bm n E)(hb:Below W.heap.size W W'):Rd W' T bm n E:=by
 obtain⟨g,h1,h2⟩:=h.gm;exact⟨⟨g,h1.keep hb,h2⟩,λz e he=>⟨(h.box z e he).1,(h.box z e he).2.1.keep hb,(h.box z e he).2.2.1.after hb,(h.box z e he).2.2.2.after hb⟩⟩
def Eu(E:Int->Option TM)(z:Int)(e:TM):Int->Option TM:=λy=>if y=z then some e else E y
theorem SC(E:Int->Option TM)(z:Int)(e:TM)(y:Int)(h:(E y).isSome=true):(Eu E z e y).isSome=true:=by unfold Eu;split<;>first|rfl|exact h
theorem Rd.put{W:World}{T:Tr.T}{bm n:Nat}{E:Int->Option TM}(h:Rd W T bm n E)(hn:n<maxLen){z:Int}(hz:Wf z){e:TM}(hb:aL W e.bl (dw T z) e.vf e.va (ze T z))(hf:KS W e.vf (nC T (dF T z)))(ha:KS W e.va (pY T (dF T z))) :
  ∃W' n',n'<=n+1/\(Instr.mapUpdate 79 (.map (some bm)) (.int .i64 z) (.pointer (some ⟨e.bl,0,none⟩))).run Tryz.prog W=.ok () W'/\Rd W' T bm n' (Eu E z e)/\Out (λb=>b=bm) W W':=by
 obtain⟨g,h1,h2⟩:=h.gm;obtain⟨es,ck,hm⟩:=h1.obj;obtain⟨W',n',hle,hr,hg,ho⟩:=h1.put (v:=.pointer (some ⟨e.bl,0,none⟩)) mU Tryz.underlying79 hn (mJ hz)
 have nb:∀{b:Nat} {cs:Array Value} {t:TypeId},At W b (.cells cs t)->b≠bm:=λ{b cs t} q e=>by
  subst e;have:=At.uniq q hm;cases this
 have kp:∀{b:Nat} {s:Re.St} {vf va:Value} {ib:Bool} {l1 l2:List Int},aL W b s vf va ib->KS W vf l1->KS W va l2->aL W' b s vf va ib/\KS W' vf l1/\KS W' va l2:=λ{b s vf va ib l1 l2} q1 q2 q3 =>
  ⟨At.out q1 (nb q1) ho,q2.out (λg hg (e:g=bm)=>q2.Jj hm (e▸hg)) ho,q3.out (λg hg (e:g=bm)=>q3.Jj hm (e▸hg)) ho⟩
 refine⟨W',n',hle,hr,⟨⟨_,hg,λy hy => ?_⟩,λy e' he' => ?_⟩,ho⟩
 . by_cases q:y=z
   . subst q;rw[mY];unfold Eu;rw[if_pos rfl];rfl
   . rw[oM (DF q),h2 y hy];unfold Eu;rw[if_neg q]
 . unfold Eu at he'
   split at he'
   . rename_i q
     injection he' with he';subst q he';exact⟨hz,kp hb hf ha⟩
   . obtain⟨q1,q2,q3,q4⟩:=h.box y e' he'
     exact⟨q1,kp q2 q3 q4⟩
theorem GR{α:Type}(f:Int->List α){l:List Int}{k:Nat}(h:k<l.length):(l.take (k+1)).flatMap f=(l.take k).flatMap f++f l[k]:=by
 rw[List.take_succ_eq_append_getElem h,List.flatMap_append];simp
theorem zf{α:Type}(f:Int->List α)(l:List Int)(k:Nat):((l.take k).flatMap f).length<=(l.flatMap f).length:=by
 conv=>rhs;rw[<-List.take_append_drop k l,List.flatMap_append]
 simp
section
variable {t N:Nat} {L:Lay} {T:Tr.T} {lb bm km pm rm:Nat} {ww wh:Int}
theorem SE(hup:∀z nd,T z=some nd->∀k∈nd.kids,∃kd,T k=some kd/\kd.up=z)(hbm:∀b,owned t L T b->b≠bm):∀(f:Nat) (z:Int) (w:World) (n:Nat) (E:Int->Option TM),Tr.Fit T f z->fV w t L T N ->
  At w lb (.cells #[.int .i64 ww,.int .i64 wh,.map (some bm),.map (some km),.map (some pm),.map (some rm)] 83)->Rd w T bm n E->n+(lD T f z).length<maxLen ->
  Calls Tryz.prog 23 #[.pointer (some ⟨lb,0,none⟩),.pointer (some ⟨t,0,none⟩),.int .i64 z,.bool (ze T z)] w λe w'=>e=.returned (.tuple #[]) /\
   (∃n' E',Rd w' T bm n' E'/\n'<=n+(lD T f z).length/\(∀y,(E y).isSome=true->(E' y).isSome=true)/\∀y∈lD T f z,(E' y).isSome=true)/\Out (λb=>b=bm) w w':=by
 intro f
 induction f with
 | zero=>intro z w n E h;exact h.elim
 | succ f ih =>
   intro z w n E hfit hR hA U9 hn;obtain⟨nd,hT,MP⟩:=hfit;have hsm:=(hR.small z nd hT).2.2.2.2;have hzw:=hR.wf hT;have wN:=oC hR hzw;have hst:(T z).elim Re.zero (·.sty)=dw T z:=rfl;rw[hst]at wN;have hkz:dF T z=nd.kids:=by unfold dF;rw[hT];rfl
   have hkx:∀x∈nd.kids,∃xd,T x=some xd:=λx hx=>by obtain⟨kd,h1,_⟩:=hup z nd hT x hx;exact⟨kd,h1⟩
   have NR:∀x∈nC T nd.kids,ze T x=((dw T z).c 0==0):=λx hx=>by
    obtain⟨hx1,hx2⟩:=List.mem_filter.1 hx;obtain⟨kd,h1,h2⟩:=hup z nd hT x hx1;have e:upT T x=z:=by unfold upT;rw[h1];exact h2
    simp only[Bool.and_eq_true]at hx2;unfold ze;rw[e,hT,hx2.2];simp
   have Rs:∀x∈pY T nd.kids,ze T x=false:=λx hx=>by
    obtain⟨hx1,hx2⟩:=List.mem_filter.1 hx;simp only[Bool.and_eq_true]at hx2;unfold ze;rw[hx2.2];simp
   obtain⟨zh,Xa⟩:=aA (nC T nd.kids);obtain⟨BQ,Xb⟩:=aA (pY T nd.kids);have abX:∀x∈zh,x∈nd.kids:=λx hx=>by rw[<-Xa]at hx;exact(List.mem_filter.1 hx).1
   have hsub2:∀x∈BQ,x∈nd.kids:=λx hx=>by rw[<-Xb]at hx;exact(List.mem_filter.1 hx).1
   have aga:lD T (f+1) z=z::(zh.flatMap (lD T f)++BQ.flatMap (lD T f)):=by simp only[lD,hkz,Xa,Xb]
   rw[aga]at hn ⊢;rw[Xa]at NR;rw[Xb]at Rs;obtain⟨ib,hib⟩:=aA (ze T z);rw[hib];have Yc:=ah MP;have HIB:=ah hib;have ahW:=ah NR;have ahX:=ah Rs;have HS1:=ah abX;have HS2:=ah hsub2;have HK1:=ah Xa;have ZX:=ah Xb;have HKZ:=ah hkz;have HKX:=ah hkx;have adC:=ah hR;have HRD:=ah U9;have HA:=ah hA;have HN:=ah hn;have HT:=ah hT;have lbl:=hA.lt;clear aga MP hib NR Rs abX hsub2 Xa Xb hkz hkx hR U9 hA hn hst;go_enter Tryz.func23,Tryz.ntmps23
   go_upto_region 1 with(first|(go_at_call 9;(with_reducible refine wN.mono ?_);rintro e w1 ⟨rfl,hb1⟩)|(go_at_call 45;(with_reducible refine(Lf _ _).mono ?_);rintro e w2 ⟨⟨b,rfl,hbl,hbx⟩,hb2⟩))
   have hB2:Below w.heap.size w w2:=Below.ay hb1 aD hb2;have hbw:w.heap.size<=b:=aJ hb1.size hbl;have l73:=hbx.lt;have c73:w2.cell? ⟨b,73,none⟩=some (.bool false):=hbx.ext 18;have z73:=At.thaw hbx 73;clear hb1 hb2 wN
   go_upto_region 2 with(fail)
   generalize hW:World.setCell _ _ _=w3;have IV:aL w3 b (dw T z) (.slice none 0 0) (.slice none 0 0) ib:=by
    unfold aL;rw[<-NC (dw T z) (.slice none 0 0) (.slice none 0 0) false ib,<-hW];exact At.set hbx 73 _
   have hB3:Below w.heap.size w w3:=hW▸Below.setCell hB2 hbw _;clear hW hbx c73 z73 l73 hB2;have Mh:=GQ (adC.out.after hB3) HT.out nd.kids rfl HKX.out aj;rw[HK1.out,ZX.out]at Mh;have hl3:=IV.lt
   go_upto_region 3 with(go_at_call 29;(with_reducible refine Mh.mono ?_);rintro e w4 ⟨⟨v,u,rfl,ho1,ho2,hap⟩,hb4⟩;have OX:=IV.keep hb4;have l71:=OX.lt;have qD:w4.cell? ⟨b,71,none⟩=some (.slice none 0 0):=OX.ext 16;have c72:w4.cell? ⟨b,72,none⟩=some (.slice none 0 0):=OX.ext 17;have z71:=At.thaw OX 71;have z72:=At.thaw OX 72;obtain⟨A1,d1,rfl,hI1,hd1,he1,hA1⟩:=KS.ints (fH ho1 sQ);obtain⟨A2,d2,rfl,hI2,hd2,he2,hA2⟩:=KS.ints (fH ho2 sQ))
   have hk1:KS w4 (.slice A1 zh.length d1) zh:=fH ho1 sQ;have hk2:KS w4 (.slice A2 BQ.length d2) BQ:=fH ho2 sQ;have hg1:∀g,(Value.slice A1 zh.length d1).ownBlock=some g->w3.heap.size<=g:=λg hg=>(World.ownsRow.lt ho1 g hg).1;have hg2:∀g,(Value.slice A2 BQ.length d2).ownBlock=some g->w3.heap.size<=g:=λg hg=>(World.ownsRow.lt ho2 g hg).1;have hB4:Below w.heap.size w w4:=Below.ay hB3 aD hb4;generalize hW:World.setCell _ _ _=w5;have aa0:Out (λq=>q=b) w4 w5:=hW▸((Out.refl (λq=>q=b) w4).set rfl 71 _).set rfl 72 _;have agb:aL w5 b (dw T z) (.slice A1 zh.length d1) (.slice A2 BQ.length d2) ib:=by
    unfold aL;rw[<-NA (dw T z) (.slice A1 zh.length d1) (.slice none 0 0) (.slice A2 BQ.length d2) ib,<-Nz (dw T z) (.slice none 0 0) (.slice A1 zh.length d1) (.slice none 0 0) ib,<-hW];exact At.set (At.set OX 71 _) 72 _
   have agc:=hk1.out (M:=λq=>q=b) (λg hg (e:g=b)=>by have:=hg1 g hg;omega) aa0;have agd:=hk2.out (M:=λq=>q=b) (λg hg (e:g=b)=>by have:=hg2 g hg;omega) aa0;have p9:Below w.heap.size w w5:=hB4.trans (aa0.below (by have:=hB4.size;omega) λq hq (e:q=b)=>by omega);clear hW OX l71 qD c72 z71 z72 ho1 ho2 hb4 Mh hk1 hk2 hg1 hg2 aa0 hI1 hI2 hap IV hl3 hB3 hB4;have hpos:n<maxLen:=by have:=HN.out;omega
   obtain⟨w6,n1,hn1,hmu,aa1,mP⟩:=(HRD.out.after p9).put (e:=⟨b,.slice A1 zh.length d1,.slice A2 BQ.length d2⟩) hpos hzw (by rw[HIB.out];exact agb) (by rw[HKZ.out,HK1.out];exact agc) (by rw[HKZ.out,ZX.out];exact agd);have xK:=HA.out.keep p9;have cl:=xK.cell 2;simp only[List.getElem?_toArray,List.getElem?_cons_zero,List.getElem?_cons_succ]at cl;have ll:=xK.lt
   go_upto_region 4 with(fail)
   obtain⟨es,ck,hmap⟩:=(HRD.out.gm).elim λg hg=>hg.1.obj;have ajl:=hmap.lt
   have agf:lb≠bm:=λe=>by
    subst e;have:=At.uniq HA.out hmap;cases this
   have ajm:=p9.size;obtain⟨_,zY,adD,adE⟩:=aa1.box z ⟨b,.slice A1 zh.length d1,.slice A2 BQ.length d2⟩ (by unfold Eu;rw[if_pos rfl]);rw[HIB.out]at zY;rw[HKZ.out,HK1.out]at adD;rw[HKZ.out,ZX.out]at adE;have hbb:b≠bm:=by omega
   have hO:Out (λq=>q=bm) w w6:=Out.trans' (Out.of_below p9) mP λq hq e=>e
   have hE0:Hid ((∀y,(E y).isSome=true->(Eu E z ⟨b,.slice A1 zh.length d1,.slice A2 BQ.length d2⟩ y).isSome=true)/\∀y∈z::(zh.take 0).flatMap (lD T f),(Eu E z ⟨b,.slice A1 zh.length d1,.slice A2 BQ.length d2⟩ y).isSome=true):=ah ⟨λy hy=>SC E z _ y hy,λy hy=>by
    simp only[List.take_zero,List.flatMap_nil,List.mem_cons,List.not_mem_nil,or_false]at hy;subst hy;unfold Eu
    rw[if_pos rfl];rfl⟩
   have Qv:∃es ck,At w6 bm (.map es ck):=aa1.gm.elim λg hg=>hg.1.obj;obtain⟨es6,ck6,Qv⟩:=Qv;have HMP:=ah Qv;clear Qv;have qE:=ah zY;have agh:=ah adD;have agi:=ah adE;have HO:=ah hO;have qD:w6.cell? ⟨b,71,none⟩=some (.slice A1 zh.length d1):=zY.ext 16;have l71:=zY.lt;generalize hE:Eu E z ⟨b,.slice A1 zh.length d1,.slice A2 BQ.length d2⟩=E1 at *;clear hmu cl ll p9 agb agc agd xK hmap zY adD adE hO mP hE;obtain⟨m1,hm1⟩:=aA zh.length;obtain⟨m2,hm2⟩:=aA BQ.length;have Yx:=ah hm1;have TN:=ah hm2;rw[hm1]at qD;simp only[hm1,hm2];clear hm1 hm2;have ajn:m1<=d1:=by rw[<-Yx.out];exact hd1
   have ajo:m1<=5000:=by
    have h1:(nC T nd.kids).length<=nd.kids.length:=List.length_filter_le _ _;rw[HK1.out,Yx.out]at h1;omega
   have ajp:m2<=5000:=by
    have h1:(pY T nd.kids).length<=nd.kids.length:=List.length_filter_le _ _;rw[ZX.out,TN.out]at h1;omega
   go_upto_region 5 with(fail)
   go_loopw [44] (λvi wr=>∃(k n':Nat) (E':Int->Option TM),k<=m1/\vi=.int .i64 k/\Rd wr T bm n' E'/\n'<=n+1+((zh.take k).flatMap (lD T f)).length/\Hid ((∀y,(E y).isSome=true->(E' y).isSome=true)/\∀y∈z::(zh.take k).flatMap (lD T f),(E' y).isSome=true)/\Out (λq=>q=bm) w6 wr) (λvi _=>m1-(intOf vi).toNat)
   case atStart=>exact⟨0,n1,E1,fC _,rfl,aa1,by simp;omega,hE0,Out.refl _ _⟩
   case round =>
    clear aa1 hE0 qD l71;obtain⟨k,n',E',hk,rfl,hRr,hnr,hEr,hOr⟩:=hrel;by_cases hlt:k<m1
    . have hltz:(k:Int)<(m1:Int):=by omega
      have hkk:k<zh.length:=by rw[Yx.out];exact hlt
      have Jk:=qE.out.out (M:=λq=>q=bm) hbb hOr;have RQ:=(agh.out.out (M:=λq=>q=bm) (λg hg (e:g=bm)=>agh.out.Jj HMP.out (e▸hg)) hOr).wu.1;obtain⟨b1,o1,rfl,TH,hc1⟩:=RQ.at_ (k:=k) (by exact hkk);obtain⟨x,hx⟩:=aA (zh.getD k 0);have hx2:zh[k]=x:=by rw[<-hx,List.getD,List.getElem?_eq_getElem hkk];rfl
      rw[hx]at hc1;have hxm:x∈zh:=hx2▸List.getElem_mem _;have hfl:=GR (lD T f) hkk;rw[hx2]at hfl;have hle:=zf (lD T f) zh (k+1);have Mg:((zh.take (k+1)).flatMap (lD T f)).length=((zh.take k).flatMap (lD T f)).length+(lD T f x).length:=by rw[hfl,List.length_append]
      have hnn:=HN.out;rw[List.length_cons,List.length_append]at hnn;have hBr:Out (λq=>q=bm) w wr:=HO.out.trans hOr;have key:=ih x wr n' E' (Yc.out x (HS1.out x hxm)) (adC.out.out (M:=λq=>q=bm) (λq hq e=>hbm q hq e) hBr) (HA.out.out (M:=λq=>q=bm) agf hBr) hRr aj;rw[ahW.out x hxm]at key;have cdd:wr.cell? ⟨b,0,none⟩=some (.int .i64 ((dw T z).c 0)):=aL.int Jk 0 aH rfl;have lbr:=Jk.lt;have F5:=ah hfl;have SA:=ah Mg;have HEr:=ah hEr;generalize (dw T z).c 0=cz at *;clear hx2 hfl hle Mg hnn hxm RQ hRr hEr hBr
      go_wp2_with (go_at_call 23;(with_reducible refine key.mono ?_);rintro e w7 ⟨rfl,⟨n2,E2,adF,hn2,hm7,hs7⟩,EP⟩)
      go_roundw
      case rel=>exact⟨k+1,n2,E2,by omega,by go_num,adF,by rw[SA.out];omega,ah ⟨λy hy=>hm7 y (HEr.out.out.1 y hy),λy hy=>by
       rw[F5.out]at hy;rcases List.mem_cons.1 hy with e|hy
       . exact hm7 y (HEr.out.out.2 y (List.mem_cons.2 (.inl e)))
       . rcases List.mem_append.1 hy with hy|hy
         . exact hm7 y (HEr.out.out.2 y (List.mem_cons.2 (.inr hy)))
         . exact hs7 y hy⟩,hOr.trans EP⟩
      case measure=>simp[intOf];omega
    . obtain rfl:k=m1:=by omega
      have hfull:(zh.take k).flatMap (lD T f)=zh.flatMap (lD T f):=by rw[List.take_of_length_le (by rw[Yx.out];exact aG _)]
      rw[hfull]at hnr hEr;have Jk:=qE.out.out (M:=λq=>q=bm) hbb hOr;have c72:wr.cell? ⟨b,72,none⟩=some (.slice A2 BQ.length d2):=aL.ext Jk 17;rw[TN.out]at c72;have l72:=Jk.lt;have ajq:m2<=d2:=by rw[<-TN.out];exact hd2
      clear hfull Jk
      go_upto_region 10 with(fail)
      go_loopw [64] (λvi wr=>∃(k n':Nat) (E':Int->Option TM),k<=m2/\vi=.int .i64 k/\Rd wr T bm n' E'/\n'<=n+1+(zh.flatMap (lD T f)).length+((BQ.take k).flatMap (lD T f)).length/\Hid ((∀y,(E y).isSome=true->(E' y).isSome=true)/\∀y∈z::(zh.flatMap (lD T f)++(BQ.take k).flatMap (lD T f)),(E' y).isSome=true)/\Out (λq=>q=bm) w6 wr) (λvi _=>m2-(intOf vi).toNat)
      case atStart=>exact⟨0,n',E',fC _,rfl,hRr,by simpa using hnr,by simpa using hEr,hOr⟩
      case round =>
       clear hRr hEr c72 l72 hOr hnr hk;obtain⟨k,n',E',hk,rfl,hRr,hnr,hEr,hOr⟩:=hrel;by_cases hlt:k<m2
       . have hltz:(k:Int)<(m2:Int):=by omega
         have hkk:k<BQ.length:=by rw[TN.out];exact hlt
         have Jk:=qE.out.out (M:=λq=>q=bm) hbb hOr;have RQ:=(agi.out.out (M:=λq=>q=bm) (λg hg (e:g=bm)=>agi.out.Jj HMP.out (e▸hg)) hOr).wu.1;obtain⟨b1,o1,rfl,TH,hc1⟩:=RQ.at_ (k:=k) (by exact hkk);obtain⟨x,hx⟩:=aA (BQ.getD k 0);have hx2:BQ[k]=x:=by rw[<-hx,List.getD,List.getElem?_eq_getElem hkk];rfl
         rw[hx]at hc1;have hxm:x∈BQ:=hx2▸List.getElem_mem _;have hfl:=GR (lD T f) hkk;rw[hx2]at hfl;have hle:=zf (lD T f) BQ (k+1);have Mg:((BQ.take (k+1)).flatMap (lD T f)).length=((BQ.take k).flatMap (lD T f)).length+(lD T f x).length:=by rw[hfl,List.length_append]
         have hnn:=HN.out;rw[List.length_cons,List.length_append]at hnn;have hBr:Out (λq=>q=bm) w wr:=HO.out.trans hOr;have key:=ih x wr n' E' (Yc.out x (HS2.out x hxm)) (adC.out.out (M:=λq=>q=bm) (λq hq e=>hbm q hq e) hBr) (HA.out.out (M:=λq=>q=bm) agf hBr) hRr aj;rw[ahX.out x hxm]at key;have cdd:wr.cell? ⟨b,0,none⟩=some (.int .i64 ((dw T z).c 0)):=aL.int Jk 0 aH rfl;have lbr:=Jk.lt;have F5:=ah hfl;have SA:=ah Mg;have HEr:=ah hEr;generalize (dw T z).c 0=cz at *;clear hx2 hfl hle Mg hnn hxm RQ hRr hEr hBr
         go_wp2_with (go_at_call 23;(with_reducible refine key.mono ?_);rintro e w7 ⟨rfl,⟨n2,E2,adF,hn2,hm7,hs7⟩,EP⟩)
         go_roundw
         case rel=>exact⟨k+1,n2,E2,by omega,by go_num,adF,by rw[SA.out];omega,ah ⟨λy hy=>hm7 y (HEr.out.out.1 y hy),λy hy=>by
          rw[F5.out]at hy;rcases List.mem_cons.1 hy with e|hy
          . exact hm7 y (HEr.out.out.2 y (List.mem_cons.2 (.inl e)))
          . rcases List.mem_append.1 hy with hy|hy
            . exact hm7 y (HEr.out.out.2 y (List.mem_cons.2 (.inr (List.mem_append.2 (.inl hy)))))
            . rcases List.mem_append.1 hy with hy|hy
              . exact hm7 y (HEr.out.out.2 y (List.mem_cons.2 (.inr (List.mem_append.2 (.inr hy)))))
              . exact hs7 y hy⟩,hOr.trans EP⟩
         case measure=>simp[intOf];omega
       . obtain rfl:k=m2:=by omega
         have hfull:(BQ.take k).flatMap (lD T f)=BQ.flatMap (lD T f):=by rw[List.take_of_length_le (by rw[TN.out];exact aG _)]
         rw[hfull]at hnr hEr;have hHr:=ah hRr;clear hRr hfull;go_wp2
         go_end0
         exact⟨rfl,⟨n',E',hHr.out,by rw[List.length_append];omega,hEr.out.1,hEr.out.2⟩,HO.out.trans hOr⟩
end
def kg(T:Tr.T)(z:Int):Fw.Bx:=⟨dw T z,nC T (dF T z),pY T (dF T z),ze T z⟩
noncomputable def Fd(T:Tr.T)(z:Int):Nat:=65-xg T z
def Dsh(T:Tr.T)(z:Int):Prop:=z∈lD T 64 0
theorem nO{T:Tr.T}{z k:Int}{nd:Tr.Nd}(hT:T z=some nd)(h:k∈nC T (dF T z)\/k∈pY T (dF T z)):k∈nd.kids:=by
 have e:dF T z=nd.kids:=by unfold dF;rw[hT];rfl
 rw[e]at h;rcases h with h|h
 . exact(List.mem_filter.1 h).1
 . exact(List.mem_filter.1 h).1
theorem Ev{T:Tr.T}{f:Nat}{a:Int}(h:Tr.Fit T f a):a∈lD T f a:=by
 cases f with
 | zero=>exact h.elim
 | succ f=>simp[lD]
theorem sI{T:Tr.T}{f:Nat}{a z:Int}(hz:z∈lD T (f+1) a):z=a\/∃c,(c∈nC T (dF T a)\/c∈pY T (dF T a))/\z∈lD T f c:=by
 simp only[lD,List.mem_cons,List.mem_append,List.mem_flatMap]at hz;rcases hz with h|⟨c,h1,h2⟩|⟨c,h1,h2⟩
 . exact .inl h
 . exact .inr ⟨c,.inl h1,h2⟩
 . exact .inr ⟨c,.inr h1,h2⟩
theorem Qw{T:Tr.T}{f:Nat}{a c z:Int}(hc:c∈nC T (dF T a)\/c∈pY T (dF T a))(hz:z∈lD T f c):z∈lD T (f+1) a:=by
 simp only[lD,List.mem_cons,List.mem_append,List.mem_flatMap];rcases hc with h|h
 . exact .inr (.inl ⟨c,h,hz⟩)
 . exact .inr (.inr ⟨c,h,hz⟩)
theorem sJ{T:Tr.T}:∀{f:Nat} {a z:Int},Tr.Fit T f a->z∈lD T f a->∃nd,T z=some nd:=by
 intro f
 induction f with
 | zero=>intro a z h;exact h.elim
 | succ f ih =>
   intro a z h hz;obtain⟨nd,hT,hk⟩:=h;rcases sI hz with rfl|⟨c,hc,hz⟩
   . exact⟨nd,hT⟩
   . exact ih (hk c (nO hT hc)) hz
theorem Ew{T:Tr.T}:∀{f:Nat} {a z k:Int},Tr.Fit T f a->z∈lD T f a->(k∈nC T (dF T z)\/k∈pY T (dF T z))->k∈lD T f a:=by
 intro f
 induction f with
 | zero=>intro a z k h;exact h.elim
 | succ f ih =>
   intro a z k h hz hk;obtain⟨nd,hT,MP⟩:=h;rcases sI hz with rfl|⟨c,hc,hz⟩
   . exact Qw hk (Ev (MP k (nO hT hk)))
   . exact Qw hc (ih (MP c (nO hT hc)) hz hk)
theorem SF{T:Tr.T}:∀{f:Nat} {a z:Int},z∈lD T f a->z=a\/(dw T z).c 0≠3:=by
 intro f
 induction f with
 | zero=>intro a z h;simp[lD]at h
 | succ f ih =>
   intro a z hz;rcases sI hz with h|⟨c,hc,hz⟩
   . exact .inl h
   . rcases ih hz with rfl|h
     . right
       rcases hc with h|h
       . exact Z2n
       . exact Z2n
     . exact .inr h
theorem GU{T:Tr.T}(H:Tr.WF T){z k:Int}{nd:Tr.Nd}(hT:T z=some nd)(hk:k∈nd.kids):Fd T z=Fd T k+1/\Fd T z<=64:=by
 obtain⟨d,hd1,hd⟩:=H.deep z nd hT;have hdk:=H.rR hT hk hd;have h63:=H.Y4 hdk;unfold Fd;rw[sH hd,sH hdk];omega
theorem aa2{T:Tr.T}(H:Tr.WF T)(hlen:∀z nd,T z=some nd->nd.kids.length<=64)(hst:∀z nd,T z=some nd->0<=nd.sty.c 0/\nd.sty.c 0<=3)(h0:(dw T 0).c 0≠3):Wk (kg T) (Fd T) (Dsh T) where
 down:=λz hz k hk=>by
  obtain⟨nd,hT⟩:=sJ H.rT hz;exact⟨Ew H.rT hz (.inl hk),(GU H hT (nO hT (.inl hk))).1⟩
 len:=λz hz=>by
  obtain⟨nd,hT⟩:=sJ H.rT hz;have e:dF T z=nd.kids:=by unfold dF;rw[hT];rfl
  show(nC T (dF T z)).length<=64;rw[e];exact aJ (by unfold nC;exact List.length_filter_le _ _) (hlen z nd hT)
 kind:=λz hz=>by
  obtain⟨nd,hT⟩:=sJ H.rT hz;have h:=hst z nd hT;have e:dw T z=nd.sty:=by unfold dw;rw[hT];rfl
  have h3:(dw T z).c 0≠3:=by
   rcases SF hz with rfl|h
   . exact h0
   . exact h
  show(dw T z).c 0=0\/(dw T z).c 0=1\/(dw T z).c 0=2;rw[e]at h3 ⊢;omega
 deep:=λz hz=>by unfold Fd;omega
theorem Xc{T:Tr.T}(H:Tr.WF T):∀z,Dsh T z->∀k∈(kg T z).ap,Dsh T k/\Fd T z=Fd T k+1:=λz hz k hk=>by
 obtain⟨nd,hT⟩:=sJ H.rT hz;exact⟨Ew H.rT hz (.inr hk),(GU H hT (nO hT (.inr hk))).1⟩
theorem Xd{T:Tr.T}(H:Tr.WF T)(hlen:∀z nd,T z=some nd->nd.kids.length<=64):∀z,Dsh T z->(kg T z).ap.length<=10000:=λz hz=>by
 obtain⟨nd,hT⟩:=sJ H.rT hz;have e:dF T z=nd.kids:=by unfold dF;rw[hT];rfl
 show(pY T (dF T z)).length<=10000;rw[e];have h:=hlen z nd hT;have h2:(pY T nd.kids).length<=nd.kids.length:=by unfold pY;exact List.length_filter_le _ _
 omega
def sK(T:Tr.T)(ww wh:Int):Fw.Ld:=Fw.lay (kg T) 64 0 ww wh (-1) (-1)
def qB(T:Tr.T)(ww wh:Int):List Fw.Ld:=if uH T 1 0=true then tl (kg T) ww wh 64 (sK T ww wh)else []
noncomputable def pF(T:Tr.T)(ww wh:Int):Lit->Option Value:=jA (λ_=>none) (qB T ww wh)
theorem Xe{w:World}{t n:Nat}{L:Lay}{T:Tr.T}(h:fV w t L T n){b:Nat}(hb:owned t L T b):b<w.heap.size:=by
 rcases hb with rfl|rfl|⟨z,nd,hz,rfl|hg⟩
 . exact h.at_.lt
 . exact h.map.lt
 . exact(h.box z nd hz).lt
 . obtain⟨cur,ha⟩:=(h.row z nd hz).rowAt hg
   exact ha.lt
theorem Wk.of{B B':Int->Fw.Bx}{F:Int->Nat}{D:Int->Prop}(h:Wk B F D)(e:∀z,D z->B' z=B z):Wk B' F D where
 down:=λz hz k hk=>h.down z hz k (by rw[<-e z hz];exact hk)
 len:=λz hz=>by rw[e z hz];exact h.len z hz
 kind:=λz hz=>by rw[e z hz];exact h.kind z hz
 deep:=h.deep
def Bh(B:Int->Fw.Bx)(ww wh:Int):Fw.Ld:=Fw.lay B 64 0 ww wh (-1) (-1)
def qN(T:Tr.T)(B:Int->Fw.Bx)(ww wh:Int):List Fw.Ld:=if uH T 1 0=true then tl B ww wh 64 (Bh B ww wh)else []
noncomputable def xk(T:Tr.T)(B:Int->Fw.Bx)(ww wh:Int):Lit->Option Value:=jA (λ_=>none) (qN T B ww wh)
theorem GV(B:Int->Fw.Bx){w:World}{t N:Nat}{L:Lay}{T:Tr.T}(h:fV w t L T N)(H:Tr.WF T)(hlen:∀z nd,T z=some nd->nd.kids.length<=64)(hst:∀z nd,T z=some nd->0<=nd.sty.c 0/\nd.sty.c 0<=3)(hBT:∀z,Dsh T z->B z=kg T z)(ww wh:Int)
  (hb1:Fw.cst B 64 0+oW B 64 0<maxLen) (hb2:(tl B (max ww 0) (max wh 0) 64 (Bh B (max ww 0) (max wh 0))).length<maxLen) (hb3:(lD T 64 0).length<maxLen) :
  Calls Tryz.prog 7 #[.pointer (some ⟨t,0,none⟩),.int .i64 ww,.int .i64 wh] w λe w'=>(∃b nr,e=.returned (.map (some b))/\w.heap.size<=b/\GM 3 w' b nr (xk T B (max ww 0) (max wh 0))/\nr<=(qN T B (max ww 0) (max wh 0)).length)/\Below w.heap.size w w':=by
 obtain⟨rd,hrd,hru⟩:=H.root;have hdp:Tr.Dp T 0 0:=.root hrd;obtain⟨mw,hmw⟩:=aA (max ww 0);obtain⟨mh,hmh⟩:=aA (max wh 0);rw[hmw,hmh]at hb2 ⊢;have Sq:=LG mw mh w;have HH:=ah h;have HB1:=ah hb1;have HB2:=ah hb2;have HB3:=ah hb3;clear h hb1 hb2 hb3;go_enter Tryz.func7,Tryz.ntmps7
 go_upto_region 2 with(go_at_call 22;(with_reducible refine Sq.mono ?_);rintro e' w1 ⟨⟨lb,bm,km,pm,rm,rfl,⟨glb,gbm,gkm,gpm,grm⟩,⟨nlb,nlk,nlp,nlr,YC,Ya,Yb,TU,YB,Jy⟩,hAl,hGb,hKM,hGp,Z'⟩,hw1⟩)
 have HR1:=ah (HH.out.after hw1);obtain⟨b,hb⟩:=aA (uH T 1 0);have wN:=vQ HR1.out (λnd hq=>by rw[hrd]at hq;injection hq with hq;rw[<-hq];exact hru) hdp;rw[show uH T (0+1) 0=b from hb]at wN;cases b with
 | false =>
   have HLG:=ah (show xk T B mw mh=(λ_=>none)/\(qN T B mw mh).length=0 by unfold xk qN;rw[hb];exact⟨rfl,rfl⟩);clear hb
   go_upto_region 5 with(go_at_call 11;(with_reducible refine wN.mono ?_);rintro e' w2 ⟨rfl,hw2⟩)
   have hA2:=hAl.keep hw2;have hG2:=ah (Z'.keep hw2);obtain⟨lY,xw,xA,zu,zw,zy,zA⟩:=At.six hA2;have Xf:Below w.heap.size w w2:=Below.ay hw1 aD hw2;go_wp2
   go_ret
   exact⟨⟨rm,0,rfl,grm,by rw[HLG.out.1];exact hG2.out,fC _⟩,Xf⟩
 | true =>
   have HLG:=ah (show xk T B mw mh=jA (λ_=>none) (tl B mw mh 64 (Bh B mw mh))/\qN T B mw mh=tl B mw mh 64 (Bh B mw mh)by unfold xk qN;rw[hb];exact⟨rfl,rfl⟩);have h03:(dw T 0).c 0≠3:=by
    have q:=hb;unfold uH at q;rw[hrd]at q;simp only[uH,Bool.and_true,bne_iff_ne,ne_eq]at q;unfold dw;rw[hrd];exact q
   clear hb;have hWk:=(aa2 H hlen hst h03).of hBT;have hib:ze T 0=false:=by
    unfold ze upT;rw[hrd];show((T rd.up).isSome&&_)=false;rw[hru];cases hq:T (-1)with
    | none=>rfl
    | some nd=>have:=H.range _ _ hq;omega
   have hup:∀z nd,T z=some nd->∀k∈nd.kids,∃kd,T k=some kd/\kd.up=z:=λz nd hz k hk=>(H.kid z nd k hz hk).2
   go_upto_region 3 with(go_at_call 11;(with_reducible refine wN.mono ?_);rintro e' w2 ⟨rfl,hw2⟩)
   have Xf:Below w.heap.size w w2:=Below.ay hw1 aD hw2;have agj:Rd w2 T bm 0 (λ_=>none):=⟨⟨_,hGb.keep hw2,λz hz=>rfl⟩,λz e he=>by cases he⟩;have adG:=SE (t:=t) (N:=N) (L:=L) (T:=T) (lb:=lb) (bm:=bm) (km:=km) (pm:=pm) (rm:=rm) (ww:=mw) (wh:=mh) hup (λb hb e=>by have:=Xe HH.out hb;omega) 64 0 w2 0 (λ_=>none) H.rT (HR1.out.after hw2) (hAl.keep hw2) agj (by have:=HB3.out;omega);rw[hib]at adG;have hlt1:=hGp.lt;have hlt2:=Z'.lt;have hlt3:=hKM.lt;have ahq:=hAl.lt;have ajr:=hw2.size;have HA:=ah (hAl.keep hw2);have HK:=ah (hKM.keep _ _ _ hw2);have HGP:=ah (hGp.keep hw2);have HGR:=ah (Z'.keep hw2);clear Sq wN hAl hGb hKM hGp Z' hw2 agj
   go_upto_region 4 with(go_at_call 23;(with_reducible refine adG.mono ?_);rintro e' w3 ⟨rfl,⟨nE,E,U9,-, -, hE⟩,hO3⟩)
   obtain⟨Y,hY⟩:∃Y:sj,Y=⟨lb,bm,km,pm,rm,mw,mh,λz=>((E z).map (·.bl)).getD 0,λz=>((E z).map (·.vf)).getD undef,λz=>((E z).map (·.va)).getD undef⟩:=⟨_,rfl⟩;have adH:Y.lb=lb:=by rw[hY]
   have Xg:Y.bm=bm:=by rw[hY]
   have SG:Y.km=km:=by rw[hY]
   have Jl:Y.pm=pm:=by rw[hY]
   have SH:Y.rm=rm:=by rw[hY]
   have adI:Y.ww=mw:=by rw[hY]
   have adJ:Y.wh=mh:=by rw[hY]
   have hs3:=hO3.size;have Yl:=ah (HA.out.out (M:=λb=>b=bm) nlb hO3);have agk:=ah (HGP.out.out (M:=λb=>b=bm) Ya.symm hO3);have ahY:=ah (HGR.out.out (M:=λb=>b=bm) Yb.symm hO3)
   have hRO:RO w3 Y B (Dsh T) nA:={
    lay:=by rw[adH,adI,adJ,Xg,SG,Jl,SH];exact Yl.out
    boxes:=by
     obtain⟨g,h1,h2⟩:=U9.gm;rw[Xg];refine⟨nE,g,h1,λz hz => ?_⟩;obtain⟨e,he⟩:=Option.isSome_iff_exists.1 (hE z hz);rw[h2 z (U9.box z e he).1,he,hY];simp[he]
    box:=λz hz=>by
     obtain⟨e,he⟩:=Option.isSome_iff_exists.1 (hE z hz);have h1:=(U9.box z e he).2;have e1:Y.bl z=e.bl:=by rw[hY];simp[he]
     have e2:Y.vf z=e.vf:=by rw[hY];simp[he]
     have e3:Y.va z=e.va:=by rw[hY];simp[he]
     rw[e1,e2,e3,hBT z hz];exact h1
    kinds:=by rw[SG];exact nA.out _ _ _ HK.out (hO3.mono λb _ h=>by rw[h];exact YC)
    wf:=λz hz=>by
     obtain⟨e,he⟩:=Option.isSome_iff_exists.1 (hE z hz);exact(U9.box z e he).1
    EO:=by rw[Jl];exact agk.out.obj
    pmb:=by rw[Jl,Xg];exact Ya.symm
    pmk:=by rw[Jl,SG];exact TU.symm
    pmr:=by rw[Jl,SH];exact Jy }
   have ER:Kp Y B (Fd T) 0 (λb=>b=pm) w3:=⟨Jl,λ_=>none,by rw[Jl];exact agk.out,λz a b v _ _ _ hg=>by cases hg⟩;have hD0:Dsh T 0:=Ev H.rT;have hF0:Fd T 0=64:=by unfold Fd;rw[sH hdp]
   have hrb:Y.rm≠Y.bm:=by rw[SH,Xg];exact Yb.symm
   have Eo:Y.rm≠Y.km:=by rw[SH,SG];exact YB.symm
   have nU:=(Je Y hWk 64).2;have oD:=WZ Y hWk (λz hz=>by rw[hBT z hz];exact Xc H z hz) (λz hz=>by rw[hBT z hz];exact Xd H hlen z hz) hrb Eo 64;have adK:=Fw.tu (B 0).sty 0 mw mw (-1);have adL:=Fw.tu (B 0).sty 1 mw mh (-1);obtain⟨x,hx0⟩:=aA (Bh B mw mh);have hxi:x.id=0/\Wf x.i0/\Wf x.i1:=by
    rw[<-hx0];exact⟨rfl,by rw[iX];exact⟨by have:=adK.1;show _<=Fw.jk (B 0).sty 0 mw mw (-1);omega,adK.2⟩,by rw[iX];exact⟨by have:=adL.1;show _<=Fw.jk (B 0).sty 1 mw mh (-1);omega,adL.2⟩⟩
   have hlx:Fw.lay B 64 0 mw mh (-1) (-1)=x:=hx0;have agl:=HB2;rw[hx0]at agl HLG;obtain⟨lY,xw,xA,zu,zw,zy,zA⟩:=At.six Yl.out;have HRO:=ah hRO;have HKP:=ah ER;have HKL:=ah nU;have HKT:=ah oD;have HY:=ah (show Y.lb=lb/\Y.pm=pm/\Y.rm=rm/\Y.km=km/\Y.ww=mw/\Y.wh=mh from⟨adH,Jl,SH,SG,adI,adJ⟩);clear hRO ER nU oD hY adH Xg SG Jl SH adI adJ HA HGP HGR HK adK adL hx0 HB2 adG U9 hE;have hSd:w3.drew.cell? ⟨lb,0,none⟩=some (.int .i64 mw)/\w3.drew.cell? ⟨lb,1,none⟩=some (.int .i64 mh):=⟨xw,xA⟩;refine lF (S:=λX=>X.cell? ⟨lb,0,none⟩=some (.int .i64 mw)/\X.cell? ⟨lb,1,none⟩=some (.int .i64 mh)) 9 ?_ ?_
   . exact hSd
   intro hS0;clear hSd;refine aW 0 ?_;refine aW 1 ?_;refine aW 2 ?_;refine aW 3 ?_;refine aW 4 ?_;refine aW 5 ?_;refine tk1 6 ?_;refine ak.Step.call dV (iT _) ?_;rintro e' w5 ⟨rfl,hb5⟩;have yZ:Below w3.heap.size w3 w5:=(Below.drew aF).trans hb5;refine⟨_,rfl,λ_=>⟨(yZ.cell (p:=⟨lb,0,none⟩) lY).trans xw,(yZ.cell (p:=⟨lb,1,none⟩) lY).trans xA⟩,?_⟩
   (try simp only[bL,bM,bN,tks])
   have adM:=HRO.out.keep nA.keep yZ;have agm:=HKP.out.out (M:=λ_=>False) (Out.of_below yZ) λ_ _ q=>q;have hs5:=yZ.size;have nU:=HKL.out 0 mw mh (-1) (-1) w5 0 (λb=>b=pm) hD0 hF0 adM agm (λb hb=>by rw[hb];omega) (by rw[HY.out.2.2.2.1];omega) (by have:=HB1.out;omega);rw[hlx,HY.out.1]at nU;refine tk1 7 ?_;refine ak.Step.call dV nU ?_;rintro e' w6 ⟨rfl,n2,P2,hn2,hK2,hP2,mP⟩;rw[HY.out.2.1]at mP;have aa3:Out (λb=>b=pm) w3 w6:=(Out.of_below yZ).trans mP;refine⟨_,rfl,λ_=>⟨(Out.cell aa3 0 lY nlp).trans xw,(Out.cell aa3 1 lY nlp).trans xA⟩,?_⟩
   (try simp only[bL,bM,bN,tks])
   have agn:=adM.fresh nA.out (by rw[HY.out.2.2.2.1];omega) (mP.mono λb _ h => .inl (by rw[HY.out.2.1];exact h)) hK2.pm.2;have hG6:=ahY.out.out (M:=λb=>b=pm) Jy.symm aa3
   have oD:=HKT.out x w6 n2 (λb=>P2 b/\b<w6.heap.size) 0 (λ_=>none) (by rw[hxi.1];exact hD0) (by rw[hxi.1];exact hF0) hxi.2.1 hxi.2.2 agn hK2.cut (λb hb=>hb.2) (λhb=>by
    rw[HY.out.2.2.1]at hb;rcases hP2 _ hb.1 with q|q
    . exact Jy q.symm
    . omega) (by rw[HY.out.2.2.1];exact hG6) (by rw[hxi.1];have:=HB1.out;omega) (by rw[HY.out.2.2.2.2.1,HY.out.2.2.2.2.2];have:=agl.out;omega)
   rw[HY.out.1,HY.out.2.1,HY.out.2.2.1,HY.out.2.2.2.2.1,HY.out.2.2.2.2.2]at oD;refine tk1 8 ?_;refine ak.Step.call dV oD ?_;rintro e' w7 ⟨rfl,n3,P3,nr3,-, -, -, af3,M0,EP⟩;have aa4:Out (λb=>b=pm\/b=rm) w3 w7:=(aa3.mono λb _ h => .inl h).trans EP;have hnl:¬ (lb=pm\/lb=rm):=by rintro(h|h);exact nlp h;exact nlr h
   refine⟨_,rfl,λ_=>⟨(Out.cell aa4 0 lY hnl).trans xw,(Out.cell aa4 1 lY hnl).trans xA⟩,?_⟩
   (try simp only[bL,bM,bN,tks])
   refine ko ?_;have MO:=Yl.out.out hnl aa4;have hW7:Below w.heap.size w w7:=by
    have h1:Below w.heap.size w2 w3:=hO3.below Xf.size λb hb e=>by omega
    have h2:Below w.heap.size w3 w7:=aa4.below (by have:=Xf.size;omega) λb hb e=>by omega
    exact(Xf.trans h1).trans h2
   have HG7:=ah M0;clear lY xw xA zu zw zy zA hS0 oD nU M0 hG6 agn adM agm hK2;obtain⟨lY,xw,xA,zu,zw,zy,zA⟩:=At.six MO;go_wp2
   go_ret
   exact⟨⟨rm,nr3,rfl,grm,by rw[HLG.out.1];exact HG7.out,by rw[HLG.out.2];omega⟩,hW7⟩
theorem Xh{w:World}{t N:Nat}{L:Lay}{T:Tr.T}(h:fV w t L T N)(H:Tr.WF T)(hlen:∀z nd,T z=some nd->nd.kids.length<=64)(hst:∀z nd,T z=some nd->0<=nd.sty.c 0/\nd.sty.c 0<=3)(ww wh:Int)
  (hb1:Fw.cst (kg T) 64 0+oW (kg T) 64 0<maxLen) (hb2:(tl (kg T) (max ww 0) (max wh 0) 64 (sK T (max ww 0) (max wh 0))).length<maxLen) (hb3:(lD T 64 0).length<maxLen) :
  Calls Tryz.prog 7 #[.pointer (some ⟨t,0,none⟩),.int .i64 ww,.int .i64 wh] w λe w'=>(∃b nr,e=.returned (.map (some b))/\w.heap.size<=b/\GM 3 w' b nr (pF T (max ww 0) (max wh 0))/\nr<=(qB T (max ww 0) (max wh 0)).length)/\Below w.heap.size w w' :=
 GV (kg T) h H hlen hst (λ_ _=>rfl) ww wh hb1 hb2 hb3
end Go.Proofs.YtmidaiklolmkcaaGreat.Fix
