/- Proved here: what functions of the program do, in plain numbers (part 34); no conditions but those in sight. -/
import Derived.RangeFuncBox
import Derived.Test.YtcbcfdihofclkaaGreatQK
import Derived.Test.YtcbcfdihofclkaaGreatQ06
import Derived.Test.YtcbcfdihofclkaaGreatQ14
import Derived.Test.YtcbcfdihofclkaaGreatQ18
import Derived.Test.YtcbcfdihofclkaaGreatQ33
set_option linter.unusedVariables false
set_option linter.unusedSimpArgs false
set_option linter.unusedSectionVars false
set_option maxRecDepth 100000
namespace Go.Proofs.YtcbcfdihofclkaaGreat.Fix
open Go.ChangeShapes Go.WideShapes Go.ChangeAt Go.RowKit
theorem Ea(v:Value)(h:Int)(W:World):(Instr.field 198 (.agg #[v,.int .i64 h]) 0).run Tryz.prog W=.ok v W:=by kernel_rfl
theorem aak{W:World}{v:Value}{l:List Int}{A:Option Addr}{m cp:Nat}(hv:v=.slice A m cp)(h:KS W v l):Ints W A l:=by
 obtain⟨A',c,e,hI,_⟩:=h.ints;rw[hv]at e;injection e with e1 e2 e3;rw[e1];exact hI
section
variable {Y:rV} {B:Int->Fw.Bx} {F:Int->Nat} {D:Int->Prop}
def Eb(Y:rV)(B:Int->Fw.Bx)(F:Int->Nat)(D:Int->Prop)(f:Nat):Prop :=
 ∀(x:Fw.Ld) (w:World) (n:Nat) (P:Nat->Prop) (nr:Nat) (g:Lit->Option Value),D x.id->F x.id=f->Wf x.i0->Wf x.i1->RO w Y B D mW->Kp Y B F n P w->(∀b,P b->b<w.heap.size)->¬ P Y.rm->GM 3 w Y.rm nr g->n+jG B f x.id<maxLen->nr+(tl B Y.ww Y.wh f x).length<maxLen ->
  Calls Tryz.prog 61 #[.pointer (some ⟨Y.lb,0,none⟩),.agg (eF x)] w λe w'=>e=.returned (.tuple #[]) /\
   ∃n' P' zQ,n'<=n+jG B f x.id/\Kp Y B F n' P' w'/\(∀b,P' b->P b\/w.heap.size<=b)/\zQ<=nr+(tl B Y.ww Y.wh f x).length/\GM 3 w' Y.rm zQ (iZ g (tl B Y.ww Y.wh f x))/\Out (λb=>b=Y.pm\/b=Y.rm) w w'
theorem ae'(B:Int->Fw.Bx)(ww wh:Int)(f:Nat)(x:Fw.Ld)(h:f=0->(B x.id).ap=[]):tl B ww wh f x=x::(((Fw.cont B f x.id x.i0 x.i1).1.flatMap λk=>tl B ww wh (f-1) (edg (B x.id).sty k))++((B x.id).ap.flatMap λk=>tl B ww wh (f-1) (BA B ww wh (f-1) k x))):=by
 cases f with
 | zero=>simp[tl,Fw.cont,h rfl]
 | succ f=>rfl
theorem aal(B:Int->Fw.Bx)(f:Nat)(z:Int)(h:f=0->(B z).ap=[])(h2:f=0->(B z).fl=[]):jG B f z=Fw.cst B f z+((B z).fl.map (jG B (f-1))).sum+((B z).ap.map λk=>Fw.cst B (f-1) k+jG B (f-1) k).sum:=by
 cases f with
 | zero=>simp[jG,Fw.cst,h rfl,h2 rfl]
 | succ f=>rfl
theorem wQ{α:Type}(c:α->Nat){l:List α}{k:Nat}(h:k<l.length):((l.take (k+1)).map c).sum=((l.take k).map c).sum+c l[k]:=by
 rw[List.take_succ_eq_append_getElem h];exact Z32
theorem Ay{α:Type}(c:α->Nat)(l:List α)(k:Nat):((l.take k).map c).sum<=(l.map c).sum:=by
 conv=>rhs;rw[<-List.take_append_drop k l,List.map_append,List.sum_append]
 omega
theorem vK{α β:Type}(c:α->List β){l:List α}{k:Nat}(h:k<l.length):(l.take (k+1)).flatMap c=(l.take k).flatMap c++c l[k]:=by
 rw[List.take_succ_eq_append_getElem h,List.flatMap_append];simp
theorem wR{α β:Type}(c:α->List β)(l:List α)(k:Nat):((l.take k).flatMap c).length<=(l.flatMap c).length:=by
 conv=>rhs;rw[<-List.take_append_drop k l,List.flatMap_append,List.length_append]
 omega
set_option maxHeartbeats 16000000 in
theorem P8(W:Wk B F D)(Wi:∀z,D z->∀k∈(B z).ap,D k/\F z=F k+1)(aam:∀z,D z->(B z).ap.length<=10000)(hrb:Y.rm≠Y.bm)(D9:Y.rm≠Y.km)(f:Nat)(hT:∀f',f=f'+1->Eb Y B F D f'):Eb Y B F D f:=by
 intro x w n P nr g hz hf h0 h1 hR EA hP PY hG hn hnr;have LG:=hG.obj;have hrm:=hG.lt;obtain⟨es1,ck1,hrm1⟩:=hG.obj;obtain⟨es0,Ra,pJ⟩:=hR.Ey;have hpl:=pJ.lt
 have acL:f=0->(B x.id).fl=[]:=λe=>by
  cases hq:(B x.id).fl with
  | nil=>rfl
  | cons k l =>
    have:=(W.down x.id hz k (by rw[hq];simp)).2;omega
 have acM:f=0->(B x.id).ap=[]:=λe=>by
  cases hq:(B x.id).ap with
  | nil=>rfl
  | cons k l =>
    have:=(Wi x.id hz k (by rw[hq];simp)).2;omega
 rw[ae' B Y.ww Y.wh f x acM]at hnr ⊢;rw[aal B f x.id acM acL]at hn ⊢;obtain⟨f1,hf1⟩:∃k,f-1=k:=⟨_,rfl⟩;rw[hf1]at hnr hn ⊢;obtain⟨kids,LH⟩:∃l,(Fw.cont B f x.id x.i0 x.i1).1=l:=⟨_,rfl⟩;rw[LH]at hnr ⊢;have hki:kids.map (·.id)=(B x.id).fl:=by rw[<-LH];exact Fw.D8 B f x.id x.i0 x.i1 acL
 obtain⟨s,hs⟩:∃s,(B x.id).sty=s:=⟨_,rfl⟩;obtain⟨fl,hfl⟩:∃l,(B x.id).fl=l:=⟨_,rfl⟩;obtain⟨ap,hap⟩:∃l,(B x.id).ap=l:=⟨_,rfl⟩;rw[hs,hap]at hnr ⊢;rw[hfl,hap]at hn;rw[hfl];rw[hfl]at hki;obtain⟨T1,hT1⟩:∃T:Fw.Ld->List Fw.Ld,(λk=>tl B Y.ww Y.wh f1 (edg s k))=T:=⟨_,rfl⟩;obtain⟨T2,XG⟩:∃T:Int->List Fw.Ld,(λk=>tl B Y.ww Y.wh f1 (BA B Y.ww Y.wh f1 k x))=T:=⟨_,rfl⟩;obtain⟨c1,hc1⟩:∃c:Int->Nat,jG B f1=c:=⟨_,rfl⟩;obtain⟨c2,hc2⟩:∃c:Int->Nat,(λk=>Fw.cst B f1 k+jG B f1 k)=c:=⟨_,rfl⟩;obtain⟨cz,hcz⟩:∃c,Fw.cst B f x.id=c:=⟨_,rfl⟩;rw[hT1,XG]at hnr ⊢;rw[hcz,hc2]at hn ⊢;rw[hc1]at hn ⊢;have HT1:=Lib.hid hT1;have HT2:=Lib.hid XG;have Ta:=Lib.hid hc1;have HC2:=Lib.hid hc2
 have HKD:Hid (∀k∈kids,D k.id/\F k.id=f1/\Eb Y B F D f1/\Wf k.i0/\Wf k.i1):=Lib.hid λk hk=>by
  have hm:k.id∈fl:=by rw[<-hki];exact List.mem_map_of_mem hk
  have h:=W.down x.id hz k.id (by rw[hfl];exact hm);have e:f=f1+1:=by omega
  rw[<-LH,e]at hk;have hb:=Fw.P7 (Fw.RU B f1 x.id x.i0 x.i1 k hk);exact⟨h.1,by omega,hT f1 e,by rw[eT];omega,by rw[eT];omega⟩
 have HAD:Hid (∀k∈ap,D k/\F k=f1/\Eb Y B F D f1/\vF Y B F D mW f1):=Lib.hid λk hk=>by
  have h:=Wi x.id hz k (by rw[hap];exact hk);have e:f=f1+1:=by omega
  exact⟨h.1,by omega,hT f1 e,(IV Y W f1).2⟩
 have afa:kids.length<=10000:=by
  have h:=W.len x.id hz;rw[hfl,<-hki,List.length_map]at h;omega
 have hla:ap.length<=10000:=by
  have h:=aam x.id hz;rw[hap]at h;exact h
 have HKI:=Lib.hid hki;have HS:=Lib.hid hs;have HAP:=Lib.hid hap;have HN:=Lib.hid hn;have HNR:=Lib.hid hnr;have HR:=Lib.hid hR;have afb:=Lib.hid LH;have wu:=Lib.hid ((IV Y W f).1);have HCZ:=Lib.hid hcz;obtain⟨b0,hb0⟩:∃b0,Y.bl x.id=b0:=⟨_,rfl⟩;obtain⟨hbx,_,afc⟩:=hR.box x.id hz;obtain⟨Aa,cpa,hva,hIa,_,_,_⟩:=afc.ints;rw[hap]at hva;have HVA:=Lib.hid hva;rw[hb0,hs,hva]at hbx;generalize Y.vf x.id=zvf at hbx;generalize (B x.id).ib=Ml at hbx
 have n0p:b0≠Y.pm:=λe=>by
  rw[e]at hbx;exact absurd (At.uniq hbx pJ) eY
 have Pv:b0≠Y.rm:=λe=>by
  rw[e]at hbx;exact absurd (At.uniq hbx hrm1) eY
 have nlr:Y.lb≠Y.rm:=λe=>by
  have h1:=hR.lay;rw[e]at h1;exact absurd (At.uniq h1 hrm1) eY
 have Rs:=hbx.lt;have hTS:TS Y B F D w P n P nr g w:=⟨hR,EA,hP,λb h => .inl h,PY,hG,Out.refl _ _⟩;have b01:Below w.heap.size w (w.alloc (.cells (eF x) 114)):=Below.alloc' (Below.refl _ _) _;have A0:At (w.alloc (.cells (eF x) 114)) w.heap.size (.cells (eF x) 114):=At.new _ _;have Wj:=hTS.after hrb D9 hR LG hrm b01;have VE:=Lib.hid (aF.keep hbx b01);have hzw:=hR.wf x.id hz;clear hT1 XG hc1 hc2 hki hfl hap hs hn hnr LH hbx afc hva hIa hTS EA hcz hR pJ hrm1 acL acM;have HZ:=Lib.hid hz;go_enter Tryz.func61,Tryz.ntmps61
 go_upto_region 1 with(fail)
 generalize hW:World.alloc _ _=w1;have e1:w.alloc (.cells (eF x) 114)=w1:=hW;rw[e1]at b01 A0 Wj VE;clear hW e1;have hsz:=b01.size;have hlk:=λX (h:Below w1.heap.size w1 X)=>(Wj.ro.keep mW.keep h).look hz;simp only[hb0]at hlk;obtain⟨lY,wV,wW,zf,zh,zi,zk⟩:=At.six Wj.ro.lay;obtain⟨lN,d0,d1,d2,d3,d4,d5,d6⟩:=At.seven (b:=w.heap.size) A0;have hSd:Below w1.heap.size w1 w1.drew:=Below.drew (Below.refl _ _);refine kQ (S:=λX=>Below w1.heap.size w1 X) 9 ?_ ?_
 . exact hSd
 intro hx;clear hSd;refine aH 0 ?_;refine aH 1 ?_;refine aH 2 ?_;refine aH 3 ?_;refine aH 4 ?_;refine aH 5 ?_;refine aH 6 ?_;refine rD 7 rfl (dZ aU rfl rfl rfl (λX h=>hlk X h)) ?_;refine aH 8 ?_;refine jY ?_;have hx2:Below w1.heap.size w1 w1.drew:=hx;generalize w1.drew=w3 at *;have Ec:=Wj.after hrb D9 HR.out LG hrm hx2;have B3:=A0.keep hx2;have zN:=Lib.hid (aF.keep VE.out hx2);have Y8:=hx2.size;clear hx hx2 hlk wV wW zf zh zi zk lY lN d0 d1 d2 d3 d4 d5 d6 A0 Wj VE b01 hb0;obtain⟨lY,wV,wW,zf,zh,zi,zk⟩:=At.six Ec.ro.lay;obtain⟨lN,d0,d1,d2,d3,d4,d5,d6⟩:=At.seven (b:=w.heap.size) B3;obtain⟨W5,nr5,afd,hrun,hG5,Jp⟩:=(show GM 3 w3.drew Y.rm nr g from Ec.gm.out (M:=λ_=>False) (λq=>q) ((Out.refl _ _).drew)).put (v:=rcv x) jr Tryz.underlying28 (by have:=HNR.out;simp only[List.length_cons]at this;omega) (j4 hzw);have GV:=Lib.hid hrun;have n1r:w.heap.size≠Y.rm:=by omega
 have hbr:∀X,(Instr.build 33 #[(0,.int .i64 (Fx.cut x.a0)),(1,.int .i64 (Fx.cut x.a1)),(2,.int .i64 (Fx.cut x.s0)),(3,.int .i64 (Fx.cut x.s1))]).run Tryz.prog X=.ok (rcv x) X:=λX=>by kernel_rfl
 clear hrun
 go_upto_region 2 with(fail)
 have hSd:Out (λb=>b=Y.rm) w3 w3.drew:=(Out.refl _ _).drew;refine kQ (S:=λX=>Out (λb=>b=Y.rm) w3 X) 25 ?_ ?_
 . exact hSd
 intro hx;clear hSd;refine jD 0 ?_;refine jD 1 ?_;refine jD 2 ?_;refine jD 3 ?_;refine jD 4 ?_;refine jD 5 ?_;refine jD 6 ?_;refine jD 7 ?_;refine jD 8 ?_;refine jD 9 ?_;refine jD 11 ?_;refine jD 12 ?_;refine jD 13 ?_;refine jD 15 ?_;refine jD 16 ?_;refine jD 17 ?_;refine jD 19 ?_;refine jD 20 ?_;refine jD 21 ?_;refine tk1 10 ?_;refine aj.Step.call dQ (fF _ _) ?_;rintro e' w9 ⟨rfl,rfl⟩;refine⟨_,rfl,λ_=>hx,?_⟩
 (try simp only[bF,bG,bH,tks])
 refine tk1 14 ?_;refine aj.Step.call dQ (fF _ _) ?_;rintro e' w9 ⟨rfl,rfl⟩;refine⟨_,rfl,λ_=>hx,?_⟩
 (try simp only[bF,bG,bH,tks])
 refine tk1 18 ?_;refine aj.Step.call dQ (fF _ _) ?_;rintro e' w9 ⟨rfl,rfl⟩;refine⟨_,rfl,λ_=>hx,?_⟩
 (try simp only[bF,bG,bH,tks])
 refine tk1 22 ?_;refine aj.Step.call dQ (fF _ _) ?_;rintro e' w9 ⟨rfl,rfl⟩;refine⟨_,rfl,λ_=>hx,?_⟩
 (try simp only[bF,bG,bH,tks])
 refine jD 23 ?_;refine tk1 24 ?_;refine aj.Step.skip (Aj (.tmp 21) (.tmp 24) (.tmp 41) rfl rfl rfl rfl GV.out) ?_;have I4:Out (λb=>b=Y.rm) w3 W5:=((Out.refl _ w3).drew).trans Jp;refine⟨λ_=>I4,?_⟩
 (try simp only[bF,bG,bH,tks])
 refine jY ?_;clear hx hbr GV;have B5:=B3.out (M:=λb=>b=Y.rm) n1r I4;have Fa:=Lib.hid (At.out (M:=λb=>b=Y.rm) zN.out Pv I4)
 have Wm:TS Y B F D w P n P nr5 (xB g (.int .i64 x.id) (rcv x)) W5 :=
  Ec.told hrb D9 HR.out LG hrm (Ec.kp.out I4 λb hb e=>Ec.nrm (e▸hb)) (λb h => .inl h) hG5 (I4.mono λb _ h => .inr h) |> λh=>⟨h.ro,Ec.kp.out I4 λb hb e=>Ec.nrm (e▸hb),λb hb=>aR (Ec.lt b hb) I4.size,Ec.new,Ec.nrm,hG5,h.out⟩
 have hsz5:=I4.size;clear Ec B3 zN I4 Jp hG5 wV wW zf zh zi zk lY lN d0 d1 d2 d3 d4 d5 d6;obtain⟨lN,d0,d1,d2,d3,d4,d5,d6⟩:=At.seven (b:=w.heap.size) B5;have qY:=wu.out x.id x.i0 x.i1 W5 n P HZ.out hf h0 h1 Wm.ro Wm.kp Wm.lt (by have:=HN.out;have:=HCZ.out;omega);rw[HCZ.out]at qY;have hfc:=λ(v:Value) (h:Int) (X:World)=>Ea v h X;have afe:=Lib.hid Wm;clear Wm
 go_upto_region 4 with(go_at_call 119;(with_reducible refine qY.mono ?_);rintro e' w6 ⟨v,n2,P2,rfl,hcv,hn2,hK2,hP2,mG⟩;obtain⟨Ak,cpk,rfl,hld⟩:=hcv;rw[afb.out]at hld ⊢)
 obtain⟨kl,hkl⟩:∃k,kids.length=k:=⟨_,rfl⟩;rw[hkl]at afa;rw[hkl];have HKL:=Lib.hid hkl;have LJ:fl.length=kl:=by rw[<-HKI.out,List.length_map,hkl]
 have RV:=Lib.hid LJ;have hs6:=mG.size;have aan:=afe.out.laid hrb D9 HR.out LG hrm hK2 hP2 mG;have B6:=B5.out (M:=λb=>b=Y.pm) ak mG;have Lc:=Lib.hid (At.out (M:=λb=>b=Y.pm) Fa.out n0p mG);obtain⟨bK,csK,hrow⟩:∃bK csK,kids=[]\/(Ak=some ⟨bK,0,none⟩/\At w6 bK (.cells csK 114)/\∀i (h:i<kids.length) j,j<7->csK[i*7+j]? = (eF kids[i])[j]?):=by
  rcases hld with h|⟨b,cs,e1,_,e2,e3⟩
  . exact⟨0,#[],.inl h⟩
  . exact⟨b,cs,.inr ⟨e1,e2,e3⟩⟩
 obtain⟨N6,ZP⟩:∃N,w6.heap.size=N:=⟨_,rfl⟩;have HN6:=Lib.hid ZP
 have Ba:Hid (kids≠[]->Ak=some ⟨bK,0,none⟩/\bK<N6/\bK≠Y.pm/\bK≠Y.rm/\∀i (h:i<kids.length) j,j<7->csK[i*7+j]? = (eF kids[i])[j]?):=Lib.hid λhne=>by
  rcases hrow with h|⟨e1,e2,e3⟩
  . exact absurd h hne
  . refine⟨e1,by rw[<-ZP];exact e2.lt,λe => ?_,λe => ?_,e3⟩
    . obtain⟨es,ck,hp⟩:=aan.ro.Ey
      rw[e]at e2;exact absurd (At.uniq e2 hp) eY
    . obtain⟨es,ck,hp⟩:=aan.gm.obj
      rw[e]at e2;exact absurd (At.uniq e2 hp) eY
 have aff:Hid (kids≠[]->At w6 bK (.cells csK 114)):=Lib.hid λhne=>by
  rcases hrow with h|⟨e1,e2,e3⟩
  . exact absurd h hne
  . exact e2
 have HC6:Hid (xB g (.int .i64 x.id) (rcv x)=iZ (xB g (.int .i64 x.id) (rcv x)) ((kids.take 0).flatMap T1)):=Lib.hid (by simp[iZ]);have hNw:w.heap.size<N6:=by have:=B6.lt;omega
 clear hkl LJ hld hrow hK2 hP2 mG B5 Fa afe qY lN d0 d1 d2 d3 d4 d5 d6 hfc ZP
 go_loopw [48] (λiv wr=>∃(i n':Nat) (P':Nat->Prop) (zQ:Nat) (g':Lit->Option Value),i<=kl/\iv=.int .i64 i/\n'<=n+cz+((fl.take i).map c1).sum/\zQ<=nr+1+((kids.take i).flatMap T1).length/\TS Y B F D w P n' P' zQ g' wr/\Hid (g'=iZ (xB g (.int .i64 x.id) (rcv x)) ((kids.take i).flatMap T1))/\At wr w.heap.size (.cells (eF x) 114)/\Hid (aF wr b0 s zvf (.slice Aa ap.length cpa) Ml)/\Hid (kids≠[]->At wr bK (.cells csK 114))/\N6<=wr.heap.size) (λiv _=>kl-(intOf iv).toNat)
 case atStart=>exact⟨0,n2,_,nr5,_,bJ _,rfl,by simpa using hn2,by simpa using afd,aan,HC6,B6,Lc,aff,by rw[HN6.out];exact ah _⟩
 case round =>
  clear aan HC6 B6 Lc aff hn2 afd;obtain⟨i,n',P',zQ,g',hi,rfl,hn',Wn,Fq,hgg,A0,vY,hAK,EB⟩:=hrel;by_cases hlt:i<kl
  . have hltz:(i:Int)<(kl:Int):=by omega
    have hik:i<kids.length:=by rw[HKL.out];exact hlt
    have ag3:i<fl.length:=by rw[RV.out];exact hlt
    have hne:kids≠[]:=λe=>by rw[e]at hik;simp at hik
    obtain⟨rfl,lK5,nKp,nKr,afg⟩:=Ba.out hne;obtain⟨k0,hk0⟩:∃x,kids[i]=x:=⟨_,rfl⟩;have hkd:=Lib.hid (HKD.out k0 (hk0▸List.getElem_mem _))
    have HKC:Hid (∀j,j<7->wr.cell? ⟨bK,i*7+j,none⟩=(eF k0)[j]?):=Lib.hid λj hj=>by
     rw[(hAK.out hne).cell,<-hk0];exact afg i hik j hj
    have acN:fl[i]=k0.id:=by
     have e:=HKI.out;rw[<-hk0];simp only[<-e,List.getElem_map]
    have HID:=Lib.hid acN;have HK0:=Lib.hid hk0;have vL:=Lib.hid Fq;have lKr:=(hAK.out hne).lt;have ZO:((fl.take (i+1)).map c1).sum=((fl.take i).map c1).sum+c1 k0.id:=by rw[wQ c1 ag3,acN]
    have aeb:=Ay c1 fl (i+1);have Ol:(kids.take (i+1)).flatMap T1=(kids.take i).flatMap T1++T1 k0:=by rw[vK T1 hik,hk0]
    have acO:=wR T1 kids (i+1);rw[Ol,List.length_append]at acO;have Wo:=Lib.hid Ol;have hnn:=HN.out;have acP:=HNR.out;rw[List.length_cons,List.length_append]at acP;clear hk0 acN Fq afg Ol
    go_upto_region 6 with(first|(refine eP zH nU aU _ rfl rfl (dw k0) HKC.out ?_)|(refine BD aU rfl ?_)|(refine zS aU _ _ rfl rfl rfl Z5f ?_))
    generalize hW:World.setRow _ _ _=W7;obtain⟨K,hKq⟩:∃b,wr.heap.size=b:=⟨_,rfl⟩;have AK:At W7 K (.cells (eF k0) 114):=hW▸hKq▸At.setRow (At.new _ _) _;have xR:Below wr.heap.size wr W7:=hW▸cO (Below.alloc' (Below.refl _ _) _) (ah _) _;have gK:wr.heap.size<=K:=Nat.le_of_eq hKq;rw[hKq];clear hW hKq lKr;have acQ:=Lib.hid (aF.keep vY.out xR);have n0K:b0≠K:=by omega
    go_wp2;refine wp_loop_rounds 3 ?_;rw[rounds_succ];obtain⟨lb7,q55,q56,q57,q58,q59,q60,c67,c68⟩:=At.bx0 acQ.out;obtain⟨lK,Om,Oo,Oq,Ot,Ou,Ov,Ow⟩:=At.seven (b:=K) AK;have zK5:=AK.thaw 5;clear q55 q56 q57 q58 q59 q60 c68
    go_upto_region 9 with(fail)
    refine wT 14 1 ?_
    (repeat (first|refine nN ?_ | refine nO ?_ (hc:=by intro w2 hS;first|with_reducible exact nI hS (jh _))|refine nP ?_))
    refine aj.dJ ?_;intro w2 hS;clear lb7 c67 lK Om Oo Oq Ot Ou Ov Ow zK5;replace AK:=At.keep AK hS;have afh:=Lib.hid (aF.keep acQ.out hS);have xQ:=Below.ay xR (ah _) hS;obtain⟨lK,Om,Oo,Oq,Ot,Ou,Ov,Ow⟩:=At.seven (b:=K) AK;have zK5:=AK.thaw 5;clear hS acQ xR;refine xV ?_;intro K hK;go_simp;refine hK _ _ (aj.bP ?_);clear hK K;generalize hW:World.setCell _ _ _=W9;obtain⟨p0,hp0⟩:∃v,IntKind.i64.wrap (k0.a0+Fw.ed s 3)=v:=⟨_,rfl⟩;have AK9:At W9 K (.cells (eF { k0 with a0:=p0 }) 114):=by
     rw[<-hW,<-hp0];exact At.set AK 5 _
    have fT:Below wr.heap.size wr W9:=by
     rw[<-hW];exact Below.setCell xQ gK _
    have Lj:=Lib.hid (show aF W9 b0 s zvf (.slice Aa ap.length cpa) Ml from hW▸At.off afh.out n0K 5 _);clear hW lK Om Oo Oq Ot Ou Ov Ow zK5 AK afh xQ;go_wp2;rw[rounds_succ];obtain⟨lb7,q61,q62,q63,q64,q65,q66,c69,c70⟩:=At.bx1 Lj.out;obtain⟨lK,Om,Oo,Oq,Ot,Ou,Ov,Ow⟩:=At.seven (b:=K) AK9;have zK6:=AK9.thaw 6;clear q61 q62 q63 q64 q65 q66 c70
    go_upto_region 9 with(fail)
    refine wT 14 1 ?_
    (repeat (first|refine nN ?_ | refine nO ?_ (hc:=by intro w2 hS;first|with_reducible exact nI hS (jh _))|refine nP ?_))
    refine aj.dJ ?_;intro w2 hS;clear lb7 c69 lK Om Oo Oq Ot Ou Ov Ow zK6;replace AK9:=At.keep AK9 hS;have jl:=Below.ay fT (ah _) hS;obtain⟨lK,Om,Oo,Oq,Ot,Ou,Ov,Ow⟩:=At.seven (b:=K) AK9;have zK6:=AK9.thaw 6;clear hS Lj fT;refine xV ?_;intro K hK;go_simp;refine hK _ _ (aj.bP ?_);clear hK K;generalize hW:World.setCell _ _ _=Bw;obtain⟨p1,hp1⟩:∃v,IntKind.i64.wrap (k0.a1+Fw.ed s 0)=v:=⟨_,rfl⟩;obtain⟨k1,hk1⟩:∃k:Fw.Ld,{ k0 with a0:=p0,a1:=p1 }=k:=⟨_,rfl⟩;have afi:At Bw K (.cells (eF k1) 114):=by
     rw[<-hW,<-hk1,<-hp1];exact At.set AK9 6 _
    have fK:Below wr.heap.size wr Bw:=by
     rw[<-hW];exact Below.setCell jl gK _
    have HED:Hid (edg s k0=k1):=Lib.hid (by unfold edg;rw[<-qZ (k0.a0+_),<-qZ (k0.a1+_),hp0,hp1,hk1]);have afj:k1.id=k0.id/\k1.i0=k0.i0/\k1.i1=k0.i1:=by rw[<-hk1];exact⟨rfl,rfl,rfl⟩
    have RX:=Lib.hid afj;clear hW lK Om Oo Oq Ot Ou Ov Ow zK6 AK9 jl hp0 hp1 hk1 afj;go_wp2;rw[rounds_succ];have Ed:=Lib.hid (vL.out.after hrb D9 HR.out LG hrm fK);have A11:=A0.keep fK;have vJ:=Lib.hid (aF.keep vY.out fK);have abd:Hid (kids≠[]->At Bw bK (.cells csK 114)):=Lib.hid λh=>(hAK.out h).keep fK;have ahS:=fK.size;have abe:Hid (∀j,j<7->Bw.cell? ⟨K,0+j,none⟩=(eF k1)[j]?):=Lib.hid λj hj=>by rw[Nat.zero_add];exact afi.cell j
    have acR:T1 k0=tl B Y.ww Y.wh f1 k1:=by rw[<-HT1.out,<-HED.out]
    have aao:=hkd.out.2.2;have oo:=aao.1 k1 Bw n' P' zQ g' (by rw[RX.out.1];exact hkd.out.1) (by rw[RX.out.1];exact hkd.out.2.1) (by rw[RX.out.2.1];exact aao.2.1) (by rw[RX.out.2.2];exact aao.2.2) Ed.out.ro Ed.out.kp Ed.out.lt Ed.out.nrm Ed.out.gm (by rw[RX.out.1,Ta.out];omega) (by rw[<-acR];omega);rw[RX.out.1,Ta.out,<-acR]at oo;clear acR aao;clear vL hAK vY A0 fK
    go_upto_region 12 with(first|(refine eP zH nU aU _ rfl rfl (dw k1) abe.out ?_)|(go_at_call 61;(with_reducible refine oo.mono ?_);rintro e' bQ ⟨rfl,n3,P3,nr3,hn3,hK3,hP3,afk,hG3,hO3⟩))
    have Wq:=Ed.out.told hrb D9 HR.out LG hrm hK3 hP3 hG3 hO3;have ahT:=hO3.size;have A12:=A11.out (M:=λb=>b=Y.pm\/b=Y.rm) ak hO3;have Gl:=Lib.hid (At.out (M:=λb=>b=Y.pm\/b=Y.rm) vJ.out ak hO3);have afl:Hid (kids≠[]->At bQ bK (.cells csK 114)):=Lib.hid λh=>(abd.out h).out (M:=λb=>b=Y.pm\/b=Y.rm) ak hO3;have Ws:Hid (iZ g' (T1 k0)=iZ (xB g (.int .i64 x.id) (rcv x)) ((kids.take (i+1)).flatMap T1)):=Lib.hid (by rw[Wo.out,yN,<-hgg.out]);have hlen:((kids.take (i+1)).flatMap T1).length=((kids.take i).flatMap T1).length+(T1 k0).length:=by rw[Wo.out,List.length_append]
    clear Ed hK3 hP3 hG3 hO3 A11 vJ abd oo afi HKC abe hgg;go_wp2
    go_roundw
    case rel=>exact⟨i+1,n3,_,nr3,_,by omega,by go_num,by omega,by omega,Wq,Ws,A12,Gl,afl,by omega⟩
    case measure=>simp[intOf];omega
  . obtain rfl:i=kl:=by omega
    have htk:kids.take i=kids:=List.take_of_length_le (by rw[HKL.out];exact ah _);have htf:fl.take i=fl:=List.take_of_length_le (by rw[RV.out];exact ah _);rw[htk]at Wn hgg;rw[htf]at hn';have vL:=Lib.hid Fq;obtain⟨al,hal⟩:∃k,ap.length=k:=⟨_,rfl⟩;rw[hal]at hla;have HAL:=Lib.hid hal;have Jj:=aF.lt vY.out;have c72:wr.cell? ⟨b0,72,none⟩=some (.slice Aa ap.length cpa):=aF.ext vY.out 17;rw[hal]at c72;clear hal Fq hAK htk htf hlt
    go_upto_region 14 with(fail)
    clear c72 Jj;have afm:Hid (g'=iZ (xB g (.int .i64 x.id) (rcv x)) (kids.flatMap T1++(ap.take 0).flatMap T2)):=Lib.hid (by simpa using hgg.out);have hn0:=hn';have afn:=Wn;have afo:=vL.out
    go_loopw [79] (λiv wr=>∃(i n':Nat) (P':Nat->Prop) (zQ:Nat) (g':Lit->Option Value),i<=al/\iv=.int .i64 i/\n'<=n+cz+(fl.map c1).sum+((ap.take i).map c2).sum/\zQ<=nr+1+(kids.flatMap T1).length+((ap.take i).flatMap T2).length/\TS Y B F D w P n' P' zQ g' wr/\Hid (g'=iZ (xB g (.int .i64 x.id) (rcv x)) (kids.flatMap T1++(ap.take i).flatMap T2))/\At wr w.heap.size (.cells (eF x) 114)) (λiv _=>al-(intOf iv).toNat)
    case atStart=>exact⟨0,n',P',zQ,g',bJ _,rfl,by simpa using hn0,by simpa using afn,afo,afm,A0⟩
    case round =>
     clear afo afm A0 hn0 afn vL hgg vY hn' Wn;obtain⟨j,n',P',zQ,g',hj,rfl,hn',Wn,Fq,hgg,A0⟩:=hrel;by_cases hlt:j<al
     . have hltz:(j:Int)<(al:Int):=by omega
       have hja:j<ap.length:=by rw[HAL.out];exact hlt
       have hIa:=aak HVA.out (Fq.ro.box x.id HZ.out).2.2;rw[HAP.out]at hIa;obtain⟨b2,o2,rfl,lb2,cb2⟩:=hIa.at_ hja;obtain⟨kid,zO⟩:∃x,ap[j]=x:=⟨_,rfl⟩;rw[show ap.getD j 0=kid by rw[<-zO,List.getD,List.getElem?_eq_getElem hja];rfl]at cb2;have had:=Lib.hid (HAD.out kid (zO▸List.getElem_mem _));have vL:=Lib.hid Fq;have ZO:((ap.take (j+1)).map c2).sum=((ap.take j).map c2).sum+c2 kid:=by rw[wQ c2 hja,zO]
       have aeb:=Ay c2 ap (j+1);have Ol:(ap.take (j+1)).flatMap T2=(ap.take j).flatMap T2++T2 kid:=by rw[vK T2 hja,zO]
       have acO:=wR T2 ap (j+1);rw[Ol,List.length_append]at acO;have Wo:=Lib.hid Ol;have hnn:=HN.out;have acP:=HNR.out;rw[List.length_cons,List.length_append]at acP;have ahU:c2 kid=Fw.cst B f1 kid+jG B f1 kid:=by rw[<-HC2.out]
       have acS:T2 kid=tl B Y.ww Y.wh f1 (BA B Y.ww Y.wh f1 kid x):=by rw[<-HT2.out]
       clear hIa zO Fq Ol
       go_upto_region 16 with(fail)
       clear cb2 lb2;have HXC:Hid (∀j,j<7->wr.cell? ⟨w.heap.size,0+j,none⟩=(eF x)[j]?):=Lib.hid λj hj=>by rw[Nat.zero_add];exact A0.cell j
       have lNr:=A0.lt;obtain⟨y,hy⟩:∃y,BA B Y.ww Y.wh f1 kid x=y:=⟨_,rfl⟩;have afp:y.id=kid/\Wf y.i0/\Wf y.i1:=by
        rw[<-hy];have hb:=Fw.P7 ((Fw.sj B f1 kid (zP (B kid).sty (B x.id).sty Y.ww Y.wh x.s0 x.s1).r0 (zP (B kid).sty (B x.id).sty Y.ww Y.wh x.s0 x.s1).r1 (apS (B kid).sty (zP (B kid).sty (B x.id).sty Y.ww Y.wh x.s0 x.s1).r0) (Oi (B kid).sty 1 (zP (B kid).sty (B x.id).sty Y.ww Y.wh x.s0 x.s1).r1 (zP (B kid).sty (B x.id).sty Y.ww Y.wh x.s0 x.s1).r0)));exact⟨rfl,by rw[eT];unfold BA;simp only[];omega,by rw[eT];unfold BA;simp only[];omega⟩
       have HYI:=Lib.hid afp;have uz:Calls Tryz.prog 120 #[.pointer (some ⟨Y.lb,0,none⟩),.int .i64 kid,.agg (eF x)] wr λe w'=>e=.returned (.agg (eF y))/\∃n2 P2,n2<=n'+Fw.cst B f1 kid/\Kp Y B F n2 P2 w'/\(∀b,P2 b->P' b\/wr.heap.size<=b)/\Out (λb=>b=Y.pm) wr w':=by
        rw[<-hy]
        exact(aah had.out.2.2.2 mW.keep mW.out vL.out.ro vL.out.ro.kinds.lt kid x HZ.out had.out.1 had.out.2.1 wr n' P' (qV.start vL.out.kp vL.out.lt) ak (B kid).sty (B x.id).sty rfl rfl _ _ _ _ _ _ (acK (B kid).sty (B x.id).sty Y.ww Y.wh x.s0 x.s1) _ rfl).mono λe w' ⟨he,n2,P2,h1,h2,h3,h4⟩=>⟨he,n2,P2,h1,h2.kp,λb hb=>by
         by_cases hq:b<wr.heap.size
         . exact .inl (h3 b hq hb)
         . exact .inr ak,h4⟩
       have oo:∀X n2 P2,TS Y B F D w P n2 P2 zQ g' X->n2<=n'+Fw.cst B f1 kid->Calls Tryz.prog 61 #[.pointer (some ⟨Y.lb,0,none⟩),.agg (eF y)] X λe w'=>e=.returned (.tuple #[])/\∃n3 P3 nr3,n3<=n2+jG B f1 kid/\Kp Y B F n3 P3 w'/\(∀b,P3 b->P2 b\/X.heap.size<=b)/\nr3<=zQ+(T2 kid).length/\GM 3 w' Y.rm nr3 (iZ g' (T2 kid))/\Out (λb=>b=Y.pm\/b=Y.rm) X w':=λX n2 P2 h h2=>by
        have hq:=had.out.2.2.1 y X n2 P2 zQ g' (by rw[HYI.out.1];exact had.out.1) (by rw[HYI.out.1];exact had.out.2.1) HYI.out.2.1 HYI.out.2.2 h.ro h.kp h.lt h.nrm h.gm (by rw[HYI.out.1];omega) (by rw[<-hy,<-acS];omega);rw[HYI.out.1,<-hy,<-acS,hy]at hq;exact hq
       clear acS hy afp
       go_upto_region 17 with(first|(refine eP zH nU aU _ rfl rfl (dw x) HXC.out ?_)|(go_at_call 120;(with_reducible refine uz.mono ?_);rintro e' w8 ⟨rfl,n2,P2,hn2,hK2,hP2,hO2⟩;have acT:=vL.out.laid hrb D9 HR.out LG hrm hK2 hP2 hO2;have abf:=oo w8 n2 _ acT hn2;have afq:=Lib.hid acT;clear acT)|(go_at_call 61;(with_reducible refine abf.mono ?_);rintro e' bQ ⟨rfl,n3,P3,nr3,hn3,hK3,hP3,afk,hG3,hO3⟩))
       have Wq:=afq.out.told hrb D9 HR.out LG hrm hK3 hP3 hG3 hO3;have hs8:=hO2.size;have A12:=(A0.out (M:=λb=>b=Y.pm) ak hO2).out (M:=λb=>b=Y.pm\/b=Y.rm) ak hO3;have Ws:Hid (iZ g' (T2 kid)=iZ (xB g (.int .i64 x.id) (rcv x)) (kids.flatMap T1++(ap.take (j+1)).flatMap T2)):=Lib.hid (by rw[Wo.out,<-List.append_assoc,yN,<-hgg.out]);have hlen:((ap.take (j+1)).flatMap T2).length=((ap.take j).flatMap T2).length+(T2 kid).length:=by rw[Wo.out,List.length_append]
       clear afq hK3 hP3 hG3 hO3 hK2 hP2 hO2 uz oo abf HXC hgg A0 vL;go_wp2
       go_roundw
       case rel=>exact⟨j+1,n3,_,nr3,_,by omega,by go_num,by omega,by omega,Wq,Ws,A12⟩
       case measure=>simp[intOf];omega
     . obtain rfl:j=al:=by omega
       have hta:ap.take j=ap:=List.take_of_length_le (by rw[HAL.out];exact ah _);rw[hta]at hn' Wn hgg;have vL:=Lib.hid Fq;have HGG:=Lib.hid hgg.out;clear Fq hta hlt hgg A0;go_wp2;refine bodyPost_end (results_none rfl _ _ _) rfl ⟨rfl,n',P',zQ,by omega,vL.out.kp,vL.out.new,by simp only[List.length_cons,List.length_append];omega,?_,vL.out.out.mono λb hb q => ?_⟩
       . have h1:=vL.out.gm
         rw[HGG.out]at h1;exact h1
       . rcases q with q|q|q
         . exact .inl q
         . exact .inr q
         . omega
theorem Wt(Y:rV)(W:Wk B F D)(Wi:∀z,D z->∀k∈(B z).ap,D k/\F z=F k+1)(aam:∀z,D z->(B z).ap.length<=10000)(hrb:Y.rm≠Y.bm)(D9:Y.rm≠Y.km):∀f,Eb Y B F D f:=by
 intro f
 induction f with
 | zero=>exact P8 W Wi aam hrb D9 0 λf' e=>by omega
 | succ f ih=>exact P8 W Wi aam hrb D9 (f+1) λf' e=>by obtain rfl:f=f':=ak;exact ih
end
def su(T:Tr.T):Nat->Int->Bool
 | 0,_=>true
 | f+1,z=>match T z with
   | none=>true
   | some nd=>(nd.sty.c 0 != 3)&&su T f nd.up
theorem Fu(s:Re.St)(W:World):(Instr.field 51 (.agg (cells s)) 0).run Tryz.prog W=.ok (.int .i64 (s.c 0)) W:=by kernel_rfl
noncomputable def wS(T:Tr.T)(z:Int):Nat:=@dite Nat (∃m,Tr.Dp T z m) (Classical.propDecidable _) (λh=>h.choose+1) (λ_=>0)
theorem sw{T:Tr.T}{z:Int}{m:Nat}(h:Tr.Dp T z m):wS T z=m+1:=by
 have e:∃m,Tr.Dp T z m:=⟨m,h⟩;unfold wS;rw[dif_pos e,e.choose_spec.TN h]
theorem Ox{T:Tr.T}{z:Int}(h:T z=none):wS T z=0:=by
 unfold wS;refine dif_neg ?_;rintro⟨m,hm⟩;obtain⟨nd,hn⟩:=hm.live;rw[h]at hn;cases hn
section
variable {w:World} {t n:Nat} {L:Lay} {T:Tr.T}
set_option maxHeartbeats 4000000 in
theorem qH(h:fQ w t L T n)(hr:∀nd,T 0=some nd->nd.up = -1){z:Int}{d:Nat}(hd:Tr.Dp T z d):Calls Tryz.prog 19 #[.pointer (some ⟨t,0,none⟩),.int .i64 z] w λe w'=>e=.returned (.bool (su T (d+1) z))/\Below w.heap.size w w':=by
 have hm:T (-1)=none:=by
  cases e:T (-1)with
  | none=>rfl
  | some nd=>have:=(h.small _ nd e).1;omega
 obtain⟨nd0,hT0⟩:=hd.live;have afr:=gN h (h.wf hT0);rw[hT0]at afr;have HR:=Lib.hid h;have OY:=Lib.hid hr;have HD:=Lib.hid hd;obtain⟨ans,gX⟩:∃x,Hid (su T (d+1) z=x):=⟨_,Lib.hid rfl⟩;rw[gX.out];clear h hr hd hT0;go_enter Tryz.func19,Tryz.ntmps19
 go_wp2_with (go_at_call 25;(with_reducible refine afr.mono ?_);rintro e w' ⟨rfl,rfl⟩)
 go_loopw [1] (λi wr=>((∃(y:Int) (m:Nat),i=.int .i64 y/\Tr.Dp T y m/\su T (m+1) y=ans)\/(i=.int .i64 (-1)/\ans=true))/\Below w.heap.size w wr) (λi _=>wS T (intOf i))
 case atStart=>exact⟨.inl ⟨z,d,rfl,HD.out,gX.out⟩,Below.refl _ _⟩
 case round =>
  obtain⟨hrel,hB⟩:=hrel;rcases hrel with⟨y,m,rfl,hD,hs⟩|⟨rfl,rfl⟩
  . obtain⟨nd,hT⟩:=hD.live
    have h1:=HR.out.after hB;have key:=gN h1 (h1.wf hT);have key2:=qc h1 (h1.wf hT);rw[hT]at key key2;have HB:=Lib.hid hB;have SB:=Lib.hid hD;have ZM:=Lib.hid hs;have HT:=Lib.hid hT;have H1:=Lib.hid h1;have hfd:=Fu nd.sty;have uL:=λX (hb:Below wr.heap.size wr X)=>BQ (h1.after hb) (h1.wf hT);have hu:Hid (rT T y=nd.up):=Lib.hid (by unfold rT;rw[hT]);generalize rT T y=u at *;clear hB hD hs h1 hT;simp only[Option.elim_some]at key2;cases hc:(nd.sty.c 0==3)
    . have HC:=Lib.hid hc
      go_wp2_with (first|(go_at_call 25;(with_reducible refine key.mono ?_);rintro e w' ⟨rfl,rfl⟩)|(go_at_call 21;(with_reducible refine key2.mono ?_);rintro e w2 ⟨rfl,hb2⟩)|(go_at_call 45;(with_reducible refine(uL _ hb2).mono ?_);rintro e w' ⟨rfl,rfl⟩))
      have hs:=ZM.out;have hne:(nd.sty.c 0 != 3)=true:=by simp only[bne,HC.out];rfl
      have hB2:Below w.heap.size w w2:=Below.ay HB.out (ah _) hb2;rw[hu.out];have hsh:su T (m+1) y=su T m nd.up:=by
       show(match T y with|none=>true|some nd=>(nd.sty.c 0 != 3)&&su T m nd.up)=_;rw[HT.out];simp only[hne,Bool.true_and]
      rw[hsh]at hs;cases SB.out with
      | root h0 =>
        have h0':=h0;rw[HT.out]at h0;cases h0;have hup:nd.up = -1:=OY.out nd h0';refine⟨⟨.inr ⟨by rw[hup],hs.symm⟩,hB2⟩,?_⟩;show wS T nd.up<wS T 0;rw[hup,Ox hm,sw (Tr.Dp.root h0')];omega
      | step h1 h0 h2 =>
        have h1':=h1;rw[HT.out]at h1;cases h1;refine⟨⟨.inl ⟨nd.up,_,rfl,h2,hs⟩,hB2⟩,?_⟩;show wS T nd.up<wS T y;rw[sw h2,sw (Tr.Dp.step h1' h0 h2)];omega
    . go_wp2_with (first|(go_at_call 25;(with_reducible refine key.mono ?_);rintro e w' ⟨rfl,rfl⟩)|(go_at_call 21;(with_reducible refine key2.mono ?_);rintro e w2 ⟨rfl,hb2⟩))
      go_ret
      refine⟨fM ?_,Below.ay HB.out (ah _) hb2⟩;rw[<-ZM.out];show false=(match T y with|none=>true|some nd=>(nd.sty.c 0 != 3)&&su T m nd.up);rw[HT.out];simp only[bne,hc];rfl
  . have h1:=HR.out.after hB
    have key:=gN h1 (z := -1) Z57;rw[hm]at key;clear h1
    go_wp2_with (go_at_call 25;(with_reducible refine key.mono ?_);rintro e w' ⟨rfl,rfl⟩)
    go_ret
    exact⟨rfl,hB⟩
end
def Apart(v u:Value):Prop:=v.ownBlock=none\/u.ownBlock=none\/v.ownBlock≠u.ownBlock
theorem Apart.symm{v u:Value}(h:Apart v u):Apart u v:=by
 rcases h with h|h|h
 . exact .inr (.inl h)
 . exact .inl h
 . exact .inr (.inr (Ne.symm h))
theorem Co{W:World}{base k m:Nat}{v u:Value}{xs ys:List Int}(x:Int)(hu:W.ownsRow base 3 1 u k (xs.map (Value.int .i64)))(hv:W.ownsRow base 3 1 v m (ys.map (Value.int .i64)))(ha:Apart v u)(hbase:base<=W.heap.size)(hk:k<=10000) :
  ∃g c w',(Builtin.append_ #[30,30] 30 #[u,.slice (some ⟨W.heap.size,0,none⟩) 1 1]).run Tryz.prog (W.alloc (.cells #[.int .i64 x] 3))=.ok (.slice (some ⟨g,0,none⟩) (k+1) c) w' /\
   w'.ownsRow base 3 1 (.slice (some ⟨g,0,none⟩) (k+1) c) (k+1) ((xs++[x]).map (Value.int .i64))/\w'.ownsRow base 3 1 v m (ys.map (Value.int .i64))/\Apart v (.slice (some ⟨g,0,none⟩) (k+1) c)/\Below base W w'/\base<=w'.heap.size:=by
 obtain⟨i0,hi0,hz0,hz1,hz2⟩:=info_parts intZero
 obtain⟨v',w',hr,ho,hg,_,hblk⟩:=run_append_own_at (P:=Tryz.prog) (w:=W.alloc (.cells #[.int .i64 x] 3)) base 30 30 3 i0 (.int .i64 0) 1 8 Tryz.underlying30 hi0 hz0 hz1 hz2 rfl aG u k _ (hu.alloc _) ⟨W.heap.size,0,none⟩ 1 1 [.int .i64 x] rfl
  (by intro j u hj
      match j,hj with
      | 0,hj=>simp at hj;subst hj;simp[Addr.add])
  Jk OZ ak jH
 obtain⟨g,c,rfl⟩:=ownsRow_succ ho;have hv2:=hv.alloc (.cells #[.int .i64 x] 3);have hB:Below base W w':=(Below.alloc (Below.refl base W) hbase _).grown hg jH (λj ej=>(hu.lt j ej).1);have hvb:v.ownBlock=none\/v.ownBlock≠u.ownBlock:=by
  exact Z40
 refine⟨g,c,w',hr,by rw[List.map_append];exact ho,hv2.kept hg hvb,?_,hB,?_⟩
 . exact Z39
 . have:=hg.size
   simp at this;omega
def eB(T:Tr.T)(z:Int):Re.St:=(T z).elim Re.zero (·.sty)
def oM(s:Re.St):Bool:=s.c 1==2||s.c 1==3
def ny(T:Tr.T)(l:List Int):List Int:=l.filter λk=>((eB T k).c 0 != 3) && !oM (eB T k)
def oZ(T:Tr.T)(l:List Int):List Int:=l.filter λk=>((eB T k).c 0 != 3)&&oM (eB T k)
theorem GN(T:Tr.T)(l:List Int)(k:Nat)(h:l.length<=5000):(ny T (l.take k)).length<=10000:=by
 unfold ny;have:=List.length_filter_le (λk=>((eB T k).c 0 != 3) && !oM (eB T k)) (l.take k);rw[List.length_take]at this;omega
theorem GQ(T:Tr.T)(l:List Int)(k:Nat)(h:l.length<=5000):(oZ T (l.take k)).length<=10000:=by
 unfold oZ;have:=List.length_filter_le (λk=>((eB T k).c 0 != 3)&&oM (eB T k)) (l.take k);rw[List.length_take]at this;omega
theorem abl{k L:Nat}(h:k<L):L-(intOf (.int .i64 ((k:Int)+1))).toNat<L-(intOf (.int .i64 (k:Int))).toNat:=by simp[intOf];omega
section
variable {w:World} {t n:Nat} {L:Lay} {T:Tr.T}
set_option maxHeartbeats 4000000 in
theorem Gs(h:fQ w t L T n){z:Int}{nd:Tr.Nd}(hT:T z=some nd)(ks:List Int)(hks:nd.kids=ks)(hk:∀x∈ks,∃xd,T x=some xd)(hl:ks.length<=5000):Calls Tryz.prog 110 #[.pointer (some ⟨t,0,none⟩),.int .i64 z] w λe w'=>(∃v u,e=.returned (.tuple #[v,u])/\w'.ownsRow w.heap.size 3 1 v (ny T ks).length ((ny T ks).map (Value.int .i64))/\w'.ownsRow w.heap.size 3 1 u (oZ T ks).length ((oZ T ks).map (Value.int .i64))/\Apart v u)/\Below w.heap.size w w':=by
 have LK:=QT h (h.wf hT);rw[hT]at LK;simp only[Option.elim_some,hks]at LK;clear hks;have HR:=Lib.hid h;have HK:=Lib.hid hk;have HL:=Lib.hid hl;clear h hk hl;go_enter Tryz.func110,Tryz.ntmps110
 go_upto_region 2 with(go_at_call 51;(with_reducible refine LK.mono ?_);rintro e w1 ⟨⟨v1,rfl,ho1⟩,hb1⟩;obtain⟨A1,c1,rfl,hI1,_,_,ahV⟩:=KS.ints (fE ho1 (bJ _)))
 have HI:=Lib.hid hI1;have HB1:=Lib.hid hb1;have hw1:=hb1.size;clear ho1 LK hb1;clear hT
 go_loopw [4,5,13] (λf a i wr=>∃(k:Nat),k<=ks.length/\i=.int .i64 (k:Nat)/\wr.ownsRow w1.heap.size 3 1 f (ny T (ks.take k)).length ((ny T (ks.take k)).map (Value.int .i64))/\wr.ownsRow w1.heap.size 3 1 a (oZ T (ks.take k)).length ((oZ T (ks.take k)).map (Value.int .i64))/\Apart f a/\Below w1.heap.size w1 wr) (λ_ _ i _=>ks.length-(intOf i).toNat)
 case atStart=>exact⟨0,by omega,rfl,by simpa[ny]using World.ownsRow_nil _ _ _ _,by simpa[oZ]using World.ownsRow_nil _ _ _ _,.inl rfl,Below.refl _ _⟩
 case round =>
  obtain⟨k,hkl,rfl,hv,hu,hap,hB⟩:=hrel;by_cases hlt:k<ks.length
  . obtain⟨b0,o0,Mg,l0,c0⟩:=(HI.out.after hB).at_ (k:=k) hlt
    subst Mg;obtain⟨x,hx⟩:∃x,ks.getD k 0=x:=⟨_,rfl⟩;rw[hx]at c0;have hxx:ks[k]=x:=by rw[<-hx,List.getD_eq_getElem?_getD,List.getElem?_eq_getElem hlt];rfl
    obtain⟨xd,hxd⟩:=HK.out x (hxx▸List.getElem_mem _);have h1:=(HR.out.after HB1.out).after hB;have key2:=qc h1 (h1.wf hxd);have hst:(T x).elim Re.zero (·.sty)=eB T x:=rfl;rw[hst]at key2;have htk:ks.take (k+1)=ks.take k++[x]:=by rw[List.take_succ_eq_append_getElem hlt,hxx]
    have Ql:ny T (ks.take (k+1))=ny T (ks.take k)++ny T [x]:=by rw[htk];simp[ny]
    have Qn:oZ T (ks.take (k+1))=oZ T (ks.take k)++oZ T [x]:=by rw[htk];simp[oZ]
    have Qm:ny T [x]=if ((eB T x).c 0 != 3 && !oM (eB T x))=true then [x]else []:=by simp[ny,List.filter];split<;>simp_all
    have Qo:oZ T [x]=if ((eB T x).c 0 != 3&&oM (eB T x))=true then [x]else []:=by simp[oZ,List.filter];split<;>simp_all
    generalize eB T x=sx at *;clear h1;cases e0:(sx.c 0==3)
    . cases e2:(sx.c 1==2)
      . cases e3:(sx.c 1==3)
        . have hwk:wrap64 ((k:Int)+1)=(k:Int)+1:=by have:=HL.out;exact IntWalk.wrap64_in _ ak
          have Jh:=Lib.hid hlt;have n0:(sx.c 0 != 3)=true:=by simp only[bne,e0];rfl
          have no:oM sx=false:=by unfold oM;rw[e2,e3];rfl
          have Xp:Hid (ny T (ks.take (k+1))=ny T (ks.take k)++[x]):=Lib.hid (by rw[Ql,Qm,if_pos (by rw[n0,no];rfl)]);have HKA:Hid (oZ T (ks.take (k+1))=oZ T (ks.take k)):=Lib.hid (by rw[Qn,Qo,if_neg (by rw[n0,no];decide),List.append_nil]);clear Ql Qn Qm Qo
          go_upto_region 4 with(fail)
          go_upto_region 6 with(first|(go_at_call 21;(with_reducible refine key2.mono ?_);rintro e w2 ⟨rfl,hb2⟩)|(refine dF aU rfl ?_)|(refine fC aU rfl ?_)|(refine aS aU _ rfl rfl za ?_)|(refine fD aU _ _ rfl rfl rfl za ?_)|(refine eu aU _ _ rfl rfl rfl za ?_))
          (try simp only[bF,bG,bH,tks])
          generalize hW:World.setRow _ _ _=w3;have A3:At w3 w2.heap.size (.cells (cells sx) 51):=by rw[<-hW];exact At.setRow (At.new w2 (.cells (cells Re.zero) 51)) (cells sx)
          have hb3:Below wr.heap.size wr w3:=by rw[<-hW];exact below_setRow (hb2.alloc hb2.size (.cells (cells Re.zero) 51)) hb2.size (cells sx)
          clear hW;have hv3:=bD (M:=λ_=>False) hv (λ_ _ q=>q) (Out.of_below hb3);have hu3:=bD (M:=λ_=>False) hu (λ_ _ q=>q) (Out.of_below hb3);have hB3:Below w1.heap.size w1 w3:=Below.ay hB (ah _) hb3;have l3:=A3.lt;have d0:=A3.st 0 aG rfl;have d1:=A3.st 1 aG rfl;have hlen1:(ny T (ks.take k)).length<=10000:=GN T ks k HL.out;have Te:(oZ T (ks.take k)).length<=10000:=GQ T ks k HL.out;obtain⟨g,c,w4,hr,ho4,hp4,ha4,hb4,hs4⟩:=Co x hv3 hu3 hap.symm (by have:=hB3.size;omega) hlen1;have HRR:=Lib.hid hr;clear hr
          go_wp2_with (at_builtin;refine wpList_append_run aU _ _ 30 rfl rfl rfl HRR.out ?_)
          (try simp only[bF,bG,bH,tks])
          (try simp only[Act.put,List.setIfInBounds_toArray,List.set_cons_zero,List.set_cons_succ,List.size_toArray,Array.getD_eq_getD_getElem?])
          go_roundw
          case rel =>
           refine⟨k+1,Nat.succ_le_of_lt Jh.out,?_,?_⟩
           . exact Z3q
           . rw[Xp.out,HKA.out]
             exact⟨by rw[List.length_append];exact ho4,hp4,ha4.symm,hB3.trans hb4⟩
          case measure =>
           exact Z2l
        . have hwk:wrap64 ((k:Int)+1)=(k:Int)+1:=by have:=HL.out;exact IntWalk.wrap64_in _ ak
          have Jh:=Lib.hid hlt;have n0:(sx.c 0 != 3)=true:=by simp only[bne,e0];rfl
          have no:oM sx=true:=by unfold oM;rw[e2,e3];rfl
          exact Zh
      . have hwk:wrap64 ((k:Int)+1)=(k:Int)+1:=by have:=HL.out;exact IntWalk.wrap64_in _ ak
        have Jh:=Lib.hid hlt;have n0:(sx.c 0 != 3)=true:=by simp only[bne,e0];rfl
        have no:oM sx=true:=by unfold oM;rw[e2];rfl
        exact Zh
    . have hwk:wrap64 ((k:Int)+1)=(k:Int)+1:=by have:=HL.out;exact IntWalk.wrap64_in _ ak
      have Jh:=Lib.hid hlt;have n0:(sx.c 0 != 3)=false:=by simp only[bne,e0];rfl
      have Xp:Hid (ny T (ks.take (k+1))=ny T (ks.take k)):=Lib.hid (by rw[Ql,Qm,if_neg (by rw[n0];simp),List.append_nil]);have HKA:Hid (oZ T (ks.take (k+1))=oZ T (ks.take k)):=Lib.hid (by rw[Qn,Qo,if_neg (by rw[n0];simp),List.append_nil]);clear Ql Qn Qm Qo
      go_upto_region 4 with(fail)
      go_upto_region 6 with(first|(go_at_call 21;(with_reducible refine key2.mono ?_);rintro e w2 ⟨rfl,hb2⟩)|(refine dF aU rfl ?_)|(refine fC aU rfl ?_)|(refine aS aU _ rfl rfl za ?_)|(refine fD aU _ _ rfl rfl rfl za ?_)|(refine eu aU _ _ rfl rfl rfl za ?_))
      (try simp only[bF,bG,bH,tks])
      generalize hW:World.setRow _ _ _=w3;have A3:At w3 w2.heap.size (.cells (cells sx) 51):=by rw[<-hW];exact At.setRow (At.new w2 (.cells (cells Re.zero) 51)) (cells sx)
      have hb3:Below wr.heap.size wr w3:=by rw[<-hW];exact below_setRow (hb2.alloc hb2.size (.cells (cells Re.zero) 51)) hb2.size (cells sx)
      clear hW;have hv3:=bD (M:=λ_=>False) hv (λ_ _ q=>q) (Out.of_below hb3);have hu3:=bD (M:=λ_=>False) hu (λ_ _ q=>q) (Out.of_below hb3);have hB3:Below w1.heap.size w1 w3:=Below.ay hB (ah _) hb3;have l3:=A3.lt;have d0:=A3.st 0 aG rfl;have d1:=A3.st 1 aG rfl;have hlen1:(ny T (ks.take k)).length<=10000:=GN T ks k HL.out;have Te:(oZ T (ks.take k)).length<=10000:=GQ T ks k HL.out;go_wp2
      (try simp only[bF,bG,bH,tks])
      (try simp only[Act.put,List.setIfInBounds_toArray,List.set_cons_zero,List.set_cons_succ,List.size_toArray,Array.getD_eq_getD_getElem?])
      go_roundw
      case rel =>
       refine⟨k+1,Nat.succ_le_of_lt Jh.out,?_,?_⟩
       . exact Z3q
       . rw[Xp.out,HKA.out]
         exact⟨hv3,hu3,hap,hB3⟩
      case measure =>
       exact Z2l
  . obtain rfl:k=ks.length:=by omega
    rw[List.take_length]at hv hu;go_wp2;refine bodyPost_ret (v:=.tuple #[_,_]) (by simp[results,Tryz.results110,go_sem];first|done|exact⟨rfl,rfl⟩|rfl) rfl ⟨⟨_,_,rfl,fE hv hw1,fE hu hw1,hap⟩,Below.ay HB1.out (ah _) hB⟩
end
end Go.Proofs.YtcbcfdihofclkaaGreat.Fix
