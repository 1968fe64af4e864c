/- Proved here: what functions of the program do, in plain numbers (part 30); no conditions but those in sight. -/
import Derived.Test.YtcbcfdihofclkaaGreatQK
import Derived.Test.YtcbcfdihofclkaaGreatQ25
set_option linter.unusedVariables false
set_option linter.unusedSimpArgs false
set_option linter.unusedSectionVars false
set_option maxRecDepth 100000
namespace Go.Proofs.YtcbcfdihofclkaaGreat.Fix
open Go.ChangeShapes Go.WideShapes Go.ChangeAt Go.RowKit
section
variable {Y:rV} {B:Int->Fw.Bx} {F:Int->Nat} {D:Int->Prop} {KM:World->Nat->Prop} {f:Nat} {w:World} {P:Nat->Prop}
set_option maxHeartbeats 16000000 in
theorem aae(hL:vF Y B F D KM f)(hK:∀(X X':World) (b:Nat),KM X b->Below X.heap.size X X'->KM X' b)(qL:∀(X X':World) (b:Nat),KM X b->Out (λq=>q≠b) X X'->KM X' b)(hR0:RO w Y B D KM)(hkm:Y.km<w.heap.size)
  (z i0 i1:Int) (hz:D z) (hdn:∀k∈(B z).fl,D k/\F k=f) (hne:(B z).fl≠[]) (hl:(B z).fl.length<=64) (n:Nat) (EA:Kp Y B F n P w) (hP:∀b,P b->b<w.heap.size) (hn:n+2*((B z).fl.map (Fw.cst B f)).sum<maxLen) (xs:List Fw.Ld) (hi:Int) (hm:Fw.mo B (Fw.lay B f) z i0 i1=(xs,hi)) :
  Calls Tryz.prog 173 #[.pointer (some ⟨Y.lb,0,none⟩),.agg #[.int .i64 z,.int .i64 i0,.int .i64 i1]] w λe w'=>∃R cap cs P' n',e=.returned (.agg #[.slice (some ⟨R,0,none⟩) xs.length cap,.int .i64 hi])/\w.heap.size<=R/\At w' R (.cells cs 114)/\oL cs xs/\n'<=n+2*((B z).fl.map (Fw.cst B f)).sum/\Kp Y B F n' P' w'/\(∀b,P' b->P b\/w.heap.size<=b)/\¬ P' R/\Out (λb=>b=Y.pm) w w':=by
 obtain⟨es0,Ra,pJ⟩:=hR0.Ey;have hpl:=pJ.lt;obtain⟨fl,hfl⟩:∃l,(B z).fl=l:=⟨_,rfl⟩;rw[hfl]at hdn hne hl hn ⊢;obtain⟨s,hs⟩:∃s,(B z).sty=s:=⟨_,rfl⟩;obtain⟨wJ,hx0⟩:∃l,iw Y B i0 fl=l:=⟨_,rfl⟩;obtain⟨xs1,hx1⟩:∃l,wJ.map (SN B f z i0 i1)=l:=⟨_,rfl⟩;obtain⟨sz,hszz⟩:∃l,clS B f z i0 i1 fl=l:=⟨_,rfl⟩;obtain⟨xs2,hx2⟩:∃l,xs1.mapIdx (XC B f z i0 i1 sz)=l:=⟨_,rfl⟩;obtain⟨long,hlong⟩:∃l,oK xs2=l:=⟨_,rfl⟩;obtain⟨high,hhigh⟩:∃h,Li.long (s.c 46) long=h:=⟨_,rfl⟩;obtain⟨room,hroom⟩:∃r,(if i1 = -1 then high else i1)=r:=⟨_,rfl⟩;obtain⟨st,hst⟩:∃l,Ju.row (Ju.starts (s.c 43) room (s.c 46) long) xs2.length=l:=⟨_,rfl⟩
 have HXS:Hid (xs2.mapIdx (clE (s.c 44) i0 st)=xs/\high=hi):=Lib.hid (by
  have h:=EZ Y B f z i0 i1 fl hfl sz hszz xs2 (by rw[hx0,hx1,hx2]) high (by rw[hs,hlong];exact hhigh);rw[hm,hs,hlong,hroom,hst]at h;injection h with h1 h2
  exact⟨h1.symm,h2.symm⟩)
 obtain⟨m,hmm⟩:∃m,fl.length=m:=⟨_,rfl⟩;have HL0:Hid (wJ.length=m):=Lib.hid (by rw[<-hx0,<-hmm];simp[iw]);have zM:Hid (xs1.length=m):=Lib.hid (by rw[<-hx1,List.length_map,HL0.out]);have HL2:Hid (xs2.length=m):=Lib.hid (by rw[<-hx2,List.length_mapIdx,zM.out]);have HLZ:Hid (sz.length=m):=Lib.hid (by rw[<-hszz];unfold clS;rw[IG,hmm]);have Jh:Hid (st.length=m):=Lib.hid (by rw[<-hst,Ju.pU,HL2.out])
 have VN:Hid (∀x∈wJ,KQ Y B D F f i0 x):=Lib.hid (by
  rw[<-hx0];intro x hx;obtain⟨k,hk,e⟩:=List.mem_map.1 hx;rw[<-e]
  exact PW (hdn k hk).1 (hdn k hk).2)
 have IE:Hid (∀x∈xs1,KQ Y B D F f i0 x):=Lib.hid (by
  rw[<-hx1];intro x hx;obtain⟨y,hy,e⟩:=List.mem_map.1 hx;rw[<-e]
  exact ZC (VN.out y hy))
 have ahM:Hid (∀x∈xs2,KQ Y B D F f i0 x):=Lib.hid (by
  rw[<-hx2];intro x hx;obtain⟨i,hi,e⟩:=List.mem_mapIdx.1 hx;rw[<-e]
  exact ZE i (IE.out _ (List.getElem_mem _)))
 have Ta:Hid (∀k,jd B f xs1 k=jd B f wJ k):=Lib.hid λk=>Vu (by rw[<-hx1,List.map_map];rfl) k
 have HCS:Hid (jd B f wJ m=(fl.map (Fw.cst B f)).sum):=Lib.hid (by
  unfold jd;rw[<-hx0,<-hmm];unfold iw;rw[<-List.map_take,List.take_length,List.map_map]
  rfl)
 have EF:Hid (xs1=wJ.map (SN B f z i0 i1)):=Lib.hid hx1.symm;have EG:Hid (xs2=xs1.mapIdx (XC B f z i0 i1 sz)):=Lib.hid hx2.symm;have HX0:Hid (wJ=iw Y B i0 fl):=Lib.hid hx0.symm;have HSZ:=Lib.hid hszz;have ZM:=Lib.hid hs;have BR:=Lib.hid hlong;have HHI:=Lib.hid hhigh;have HRM:=Lib.hid hroom;have HST:=Lib.hid hst;have FK:=Lib.hid hfl;have HM:=Lib.hid hmm;have HN:=Lib.hid hn;have HDN:=Lib.hid hdn;have sO:=Lib.hid hR0;rw[hmm]at hl;clear hx1 hx2 hx0 hszz hlong hhigh hroom hst hm hmm;have hS:=qV.start EA hP;have wF:=hR0;obtain⟨b0,hb0⟩:∃b0,Y.bl z=b0:=⟨_,rfl⟩;have hbx:=(wF.box z hz).1;rw[hb0,hs]at hbx;have xW:=Lib.hid hbx.style;have Rs:=hbx.lt;have b1:Below w.heap.size w ((w.alloc (.cells #[.int .i64 z,.int .i64 i0,.int .i64 i1] 112)).alloc (.cells #[.slice none 0 0,.int .i64 0] 198)):=Below.alloc' (Below.alloc' (Below.refl _ _) _) _;have A0:At ((w.alloc (.cells #[.int .i64 z,.int .i64 i0,.int .i64 i1] 112)).alloc (.cells #[.slice none 0 0,.int .i64 0] 198)) w.heap.size (.cells #[.int .i64 z,.int .i64 i0,.int .i64 i1] 112):=At.alloc (At.new _ _) _;have A4:At ((w.alloc (.cells #[.int .i64 z,.int .i64 i0,.int .i64 i1] 112)).alloc (.cells #[.slice none 0 0,.int .i64 0] 198)) (w.heap.size+1) (.cells #[.slice none 0 0,.int .i64 0] 198):=At.new' _ Ev;have hS1:=hS.after b1;have EP:=wF.keep hK b1;clear hdn hR0 wF hS pJ hs hbx hfl EA hn;go_enter Tryz.func173,Tryz.ntmps173
 go_upto_region 1 with(fail)
 generalize (w.alloc (.cells #[.int .i64 z,.int .i64 i0,.int .i64 i1] 112)).alloc (.cells #[.slice none 0 0,.int .i64 0] 198)=w1 at *;have ad':=A4.lt;have hsz:=b1.size;have hlk:=λX (h:Below w1.heap.size w1 X)=>(EP.keep hK h).look hz;simp only[hb0]at hlk;have Vk:=Lib.hid (λj hj=>(b1.cell (p:=⟨b0,0+j,none⟩) Rs).trans (xW.out j hj):uh w1 b0 0 s);have Ce:b0<w1.heap.size:=aR Rs hsz;obtain⟨lY,wV,wW,zf,zh,zi,zk⟩:=At.six EP.lay;obtain⟨l0,aA,aB,bB⟩:=At.three A0;have hSd:Below w1.heap.size w1 w1.drew:=Below.drew (Below.refl _ _);refine kQ (S:=λX=>Below w1.heap.size w1 X) 12 ?_ ?_
 . exact hSd
 intro hx;clear hSd;refine aH 0 ?_;refine aH 1 ?_;refine aH 2 ?_;refine aH 3 ?_;refine aH 4 ?_;refine aH 5 ?_;refine rD 6 rfl (dZ aU rfl rfl rfl (λX h=>hlk X h)) ?_;refine aH 7 ?_;refine aH 8 ?_;refine rD 9 rfl (iY aU (.tmp 29) rfl rfl (λX h=>λj hj=>(h.cell (p:=⟨b0,0+j,none⟩) Ce).trans (Vk.out j hj))) ?_;refine tk1 10 ?_;refine aj.Step.value (eO rfl) ?_;obtain⟨w2,hw2,AS,hb2,gT⟩:∃w2,w2=w1.drew.alloc (.cells (cells Re.zero) 51)/\At w2 w1.drew.heap.size (.cells (cells Re.zero) 51)/\Below w1.drew.heap.size w1.drew w2/\w1.heap.size<=w1.drew.heap.size:=⟨_,rfl,At.new _ _,Below.alloc' (Below.refl _ _) _,hx.size⟩;rw[<-hw2];clear hw2;replace hx:=Below.ay hx (ah _) hb2;generalize w1.drew.heap.size=T at *;refine⟨λ_=>hx,?_⟩
 (try simp only[bF,bG,bH,tks])
 refine tk1 11 ?_;refine aj.Step.skip (mZ (.tmp 5) (.tmp 30) rfl rfl rfl AS) ?_;replace AS:At (w2.setRow T (cells s)) T (.cells (cells s) 51):=At.setRow AS _;have hx2:Below w1.heap.size w1 (w2.setRow T (cells s)):=cO hx gT _;generalize w2.setRow T (cells s)=w3 at *;refine⟨λ_=>hx2,?_⟩
 (try simp only[bF,bG,bH,tks])
 refine jY ?_;have Y8:=hx2.size;have uG:=hS1.after hx2;have B3:=A0.keep hx2;have C3:=A4.keep hx2;have BK:=uG.ro qL sO.out hkm;have qY:Calls Tryz.prog 226 #[.pointer (some ⟨Y.lb,0,none⟩),.agg #[.int .i64 z,.int .i64 i0,.int .i64 i1]] w3 λe w'=>(∃R q cs,e=.returned (.slice (some ⟨R,q,none⟩) m m)/\w3.heap.size<=R/\At w' R (.cells cs 283)/\fu cs q wJ)/\Below w3.heap.size w3 w':=by
  exact Z2p
 obtain⟨l0,aA,aB,bB⟩:=At.three B3;have hTN:w.heap.size+1<T:=by omega
 have lT:=AS.lt;clear b1 A0 A4 hS1 EP Vk hlk wV wW zf zh zi zk lY xW hb2 hx BK Rs Ce hb0
 go_upto_region 4 with(go_at_call 226;(with_reducible refine qY.mono ?_);rintro e' w4 ⟨⟨R,q,cs,rfl,gR,XB,Rb⟩,hb4⟩)
 clear qY;have HI4:=Lib.hid Rb;have PS:=uG.after hb4;have B4:=B3.keep hb4;have C4:=C3.keep hb4;have Vm:=Lib.hid (AS.keep hb4);have ab0:=hb4.size;have pF:w.heap.size<=R:=by omega
 have Vf:¬ P R:=λh=>by have:=hP R h;omega
 have lR4:=XB.lt;have hTR:T<R:=by omega
 have XM:T<w4.heap.size:=by omega
 obtain⟨N4,hN4⟩:∃N,w4.heap.size=N:=⟨_,rfl⟩;rw[hN4]at lR4 XM;have HN4:=Lib.hid hN4;clear hb4 Rb AS B3 C3 uG hx2 l0 aA aB bB hN4
 go_loopw [36] (λiv wr=>∃(k n':Nat) (P':Nat->Prop) (cs':Array Value),k<=m/\iv=.int .i64 k/\n'<=n+jd B f wJ k/\qV Y B F w P n' P' wr/\(∀b,b<N4->P' b->P b)/\N4<=wr.heap.size/\At wr R (.cells cs' 283)/\Hid (fu cs' q (DF (SN B f z i0 i1) wJ k))/\At wr w.heap.size (.cells #[.int .i64 z,.int .i64 i0,.int .i64 i1] 112)/\At wr (w.heap.size+1) (.cells #[.slice none 0 0,.int .i64 0] 198)/\Hid (At wr T (.cells (cells s) 51))) (λiv _=>m-(intOf iv).toNat)
 case atStart=>exact⟨0,n,P,cs,bJ _,rfl,by simp[jd],PS,λb hb h=>h,by rw[HN4.out];exact ah _,XB,Lib.hid (by rw[DI];exact HI4.out),B4,C4,Vm⟩
 case round =>
  clear PS XB B4 C4 Vm;obtain⟨k,n',P',cs',hk,rfl,hn',hSr,xD,EB,hAr,hC,A0,A4,hST⟩:=hrel;by_cases hlt:k<m
  . have hltz:(k:Int)<(m:Int):=by omega
    have hkx:k<wJ.length:=by rw[HL0.out];exact hlt
    have hkc:k<(DF (SN B f z i0 i1) wJ k).length:=by rw[jW];exact hkx
    have qz:=hC.out.at_ hAr hkc;rw[tH _ _ hkx]at qz;obtain⟨x,hx⟩:∃x,wJ[k]=x:=⟨_,rfl⟩;have lZ:=Lib.hid (VN.out x (hx▸List.getElem_mem _));rw[hx]at qz;have HX:=Lib.hid hx;have qd:=Lib.hid hSr;have hRr:=hSr.ro qL sO.out hkm;have hbx:=(hRr.box x.ld.id lZ.out.d).1;rw[<-lZ.out.bx]at hbx;obtain⟨sx,hsx⟩:∃s,(B x.ld.id).sty=s:=⟨_,rfl⟩;rw[hsx]at hbx;generalize Y.vf x.ld.id=vf at hbx;generalize Y.va x.ld.id=va at hbx;generalize (B x.ld.id).ib=ib at hbx;have HSX:=Lib.hid hsx;have qw:=Lib.hid hbx;have wG:¬ P' R:=λh=>Vf (xD R lR4 h);have Bt:=hAr.lt;have KR:wr.cell? ⟨R,q+k*17+12,none⟩=some (.pointer (some ⟨x.bx,0,none⟩)):=(qz 12 ak).trans rfl;have PU:wr.cell? ⟨R,q+k*17+5,none⟩=some (.int .i64 x.ld.id):=(qz 5 ak).trans rfl;obtain⟨l0,aA,aB,bB⟩:=At.three A0;clear hRr hbx qz hsx hx hSr
    go_upto_region 7 with(fail)
    have Y':=Lib.hid (qd.out.after ((Below.refl wr.heap.size wr).drew));have hcs1:=rX B f wJ hkx;rw[HX.out]at hcs1;have hcs2:=wm B f wJ (k+1);rw[HL0.out,HCS.out]at hcs2;have hnn:=HN.out;obtain⟨cs0,xC⟩:∃c,Fw.gY B z i0 x.ld.id=c:=⟨_,rfl⟩;have wX:=PV hK z x.ld.id i0 i1 hz lZ.out.d x.bx lZ.out.bx wr.drew (Y'.out.ro qL sO.out hkm);rw[xC]at wX;obtain⟨ly,uy⟩:∃y,Fw.lay B f x.ld.id i0 i1 cs0 (-1)=y:=⟨_,rfl⟩;have Jt:ly.id=x.ld.id:=by rw[<-uy];rfl
    have MI:=Lib.hid (show q+k*17+5+7<=cs'.size by have:=hC.out.1;rw[jW]at this;have h2:k*17+17<=wJ.length*17:=ak;omega);have n1:w.heap.size≠Y.pm:=by omega
    have n2:w.heap.size≠R:=by omega
    have n34:=sO.out.box x.ld.id lZ.out.d;rw[<-lZ.out.bx]at n34
    have n3:x.bx≠Y.pm:=λe=>by
     obtain⟨es1,ck1,hp1⟩:=sO.out.Ey;have h1:=n34.1;rw[e]at h1;exact absurd (h1.symm.trans hp1) eY
    have n4:x.bx≠R:=by have:=n34.1.lt;omega
    clear n34;have hSd:Out (λb=>b=Y.pm\/b=R) wr wr.drew/\wr.drew.cell? ⟨R,q+k*17+5,none⟩=some (.int .i64 x.ld.id)/\wr.drew.cell? ⟨R,q+k*17+12,none⟩=some (.pointer (some ⟨x.bx,0,none⟩)):=⟨(Out.refl _ _).drew,PU,KR⟩;refine kQ (S:=λX=>Out (λb=>b=Y.pm\/b=R) wr X/\X.cell? ⟨R,q+k*17+5,none⟩=some (.int .i64 x.ld.id)/\X.cell? ⟨R,q+k*17+12,none⟩=some (.pointer (some ⟨x.bx,0,none⟩))) 21 ?_ ?_
    . exact hSd
    intro hx;clear hSd;refine gG 0 ?_;refine gG 1 ?_;refine gG 2 ?_;refine gG 3 ?_;refine gG 4 ?_;refine gG 5 ?_;refine gG 6 ?_;refine gG 7 ?_;refine gG 8 ?_;refine gG 9 ?_;refine gG 10 ?_;refine gG 11 ?_;refine gG 12 ?_;refine gG 13 ?_;refine gG 14 ?_;refine gG 15 ?_;refine tk1 16 ?_;refine aj.Step.call dQ wX ?_;rintro e' w6 ⟨rfl,hb6⟩;have mG:Out (λb=>b=Y.pm\/b=R) wr w6:=Out.trans' ((Out.refl _ wr).drew) (Out.of_below (M:=λ_=>False) hb6) λ_ _ q=>q.elim;have yX:=Y'.out.after hb6;have aeN:=(Below.drew (Below.refl wr.heap.size wr)).trans hb6;have xA:=hAr.keep aeN;have NV:w6.cell? ⟨R,q+k*17+5,none⟩=some (.int .i64 x.ld.id):=(hb6.cell (p:=⟨R,_,none⟩) Bt).trans PU;have zL:w6.cell? ⟨R,q+k*17+12,none⟩=some (.pointer (some ⟨x.bx,0,none⟩)):=(hb6.cell (p:=⟨R,_,none⟩) Bt).trans KR;have hx6:Out (λb=>b=Y.pm\/b=R) wr w6/\w6.cell? ⟨R,q+k*17+5,none⟩=some (.int .i64 x.ld.id)/\w6.cell? ⟨R,q+k*17+12,none⟩=some (.pointer (some ⟨x.bx,0,none⟩)):=⟨mG,NV,zL⟩;refine⟨_,rfl,λ_=>hx6,?_⟩
    (try simp only[bF,bG,bH,tks])
    have jZ:=ni hL qL sO.out hkm yX x.ld.id i0 i1 cs0 (-1) lZ.out.d lZ.out.f ak;rw[uy]at jZ;refine tk1 17 ?_;refine aj.Step.call dQ jZ ?_;rintro e' jg ⟨rfl,n2',P2,hn2,nM,Cj,kJ⟩;have SL:=xA.lt;have nX:=xA.out (M:=λb=>b=Y.pm) ak kJ;have um:jg.cell? ⟨R,q+k*17+5,none⟩=some (.int .i64 x.ld.id):=(Out.cell kJ (q+k*17+5) SL ak).trans NV;have FN:jg.cell? ⟨R,q+k*17+12,none⟩=some (.pointer (some ⟨x.bx,0,none⟩)):=(Out.cell kJ (q+k*17+12) SL ak).trans zL;have qh:Out (λb=>b=Y.pm\/b=R) wr jg:=mG.trans (kJ.mono λb _ h => .inl h);have Iz:Out (λb=>b=Y.pm\/b=R) wr jg/\jg.cell? ⟨R,q+k*17+5,none⟩=some (.int .i64 x.ld.id)/\jg.cell? ⟨R,q+k*17+12,none⟩=some (.pointer (some ⟨x.bx,0,none⟩)):=⟨qh,um,FN⟩;refine⟨_,rfl,λ_=>Iz,?_⟩
    (try simp only[bF,bG,bH,tks])
    refine gG 18 ?_;refine gG 19 ?_;refine tk1 20 ?_;refine aj.Step.skip (eZ nU (.tmp 61) (.tmp 59) rfl rfl rfl nX (dw ly) MI.out (o8 ly)) ?_;have oU:At (jg.setRow R (splice cs' (q+k*17+5) (eF ly))) R (.cells (splice cs' (q+k*17+5) (eF ly)) 283):=At.setRow nX _;have jF:Out (λb=>b=R) jg (jg.setRow R (splice cs' (q+k*17+5) (eF ly))):=Out.setRow (M:=λb=>b=R) (Out.refl _ _) rfl _;have Al:(jg.setRow R (splice cs' (q+k*17+5) (eF ly))).cell? ⟨R,q+k*17+5,none⟩=some (.int .i64 x.ld.id):=by
     exact Z22
    have c9:(jg.setRow R (splice cs' (q+k*17+5) (eF ly))).cell? ⟨R,q+k*17+9,none⟩=some (.int .i64 ly.s1):=by
     have h1:=nW (cs:=cs') (vs:=eF ly) (q:=q+k*17+5) (j:=4) Z59 (by rw[dw];omega);rw[oU.cell,show q+k*17+9=q+k*17+5+4 by omega,h1];rfl
    have Gd:(jg.setRow R (splice cs' (q+k*17+5) (eF ly))).cell? ⟨R,q+k*17+12,none⟩=some (.pointer (some ⟨x.bx,0,none⟩)):=by
     exact Z3a
    refine⟨λ_=>⟨qh.trans (jF.mono λb _ h => .inr h),Al,Gd⟩,?_⟩
    (try simp only[bF,bG,bH,tks])
    refine jY ?_;have qW:¬ P2 R:=λh=>wG (Cj R SL h);have hput:=hC.out.PK hkc ly;rw[tH _ _ hkx,HX.out]at hput;have hOr:Out (λb=>b=Y.pm\/b=R) wr (jg.setRow R (splice cs' (q+k*17+5) (eF ly))):=qh.trans (jF.mono λb _ h => .inr h);have qX:=nM.own (M:=λb=>b=R) jF λb hb h=>by subst h;exact⟨qW,pF⟩
    have aeO:=Lib.hid hput.1;have agS:Hid ((splice cs' (q+k*17+5) (eF ly)).size=cs'.size):=Lib.hid (je Z59);have B11:=A0.out (M:=λb=>b=Y.pm\/b=R) ak hOr;have Lf:=A4.out (M:=λb=>b=Y.pm\/b=R) ak hOr;have uo:=Lib.hid (hST.out.out (M:=λb=>b=Y.pm\/b=R) ak hOr);have VR:=Lib.hid (At.out (M:=λb=>b=Y.pm\/b=R) qw.out ak hOr);have agT:wr.heap.size<=w6.heap.size:=mG.size;have IK:∀b,b<N4->P2 b->P b:=λb hb h=>xD b hb (Cj b ak h);have Lg:N4<=(jg.setRow R (splice cs' (q+k*17+5) (eF ly))).heap.size:=aC EB hOr.size;generalize jg.setRow R (splice cs' (q+k*17+5) (eF ly))=cZ at *;generalize splice cs' (q+k*17+5) (eF ly)=cs2 at *;clear hx hx6 Iz hput nX jF Al um FN A0 A4 xA yX mG kJ qh NV zL l0 aA aB bB KR PU hOr Cj nM wX jZ aeN hb6 hST qw hAr Bt agT;obtain⟨l2,aN,aO,aP,aQ,aZ,bq,aX,aY⟩:=At.bx1 VR.out;clear aN aO aP aQ aZ bq;have aeP:=oU.lt;have uz:=λX=>dV (Fw.ed sx 0) (Fw.ed sx 2) X;obtain⟨e02,EW⟩:∃v,Fw.wr (Fw.ed sx 0+Fw.ed sx 2)=v:=⟨_,rfl⟩;simp only[EW]at uz;obtain⟨hh,KJ⟩:∃t,IntKind.i64.wrap (ly.s1-e02)=t:=⟨_,rfl⟩
    go_upto_region 8 with(fail)
    have hSd:Below cZ.heap.size cZ cZ.drew:=Below.drew (Below.refl _ _);refine kQ (S:=λX=>Below cZ.heap.size cZ X) 17 ?_ ?_
    . exact hSd
    intro hx;clear hSd;refine aH 0 ?_;refine aH 1 ?_;refine aH 2 ?_;refine aH 3 ?_;refine aH 4 ?_;refine aH 5 ?_;refine aH 6 ?_;refine aH 7 ?_;refine aH 8 ?_;refine aH 9 ?_;refine aH 10 ?_;refine aH 11 ?_;refine aH 12 ?_;refine aH 13 ?_;refine tk1 14 ?_;refine aj.Step.call dQ (uz _) ?_;rintro e' bQ ⟨rfl,hb⟩;replace hx:=Below.ay hx (ah _) hb;clear hb;refine⟨_,rfl,λ_=>hx,?_⟩
    (try simp only[bF,bG,bH,tks])
    refine aH 15 ?_;refine aH 16 ?_;refine jY ?_;have LA:=oU.keep hx;have uD:=qX.after hx;have XD:=B11.keep hx;have Jo:=Lf.keep hx;have PZ:=Lib.hid (uo.out.keep hx);have P6:=Lib.hid (aF.keep VR.out hx);have c12:bQ.cell? ⟨R,q+k*17+12,none⟩=some (.pointer (some ⟨x.bx,0,none⟩)):=(hx.cell (p:=⟨R,_,none⟩) aeP).trans Gd;have Fh:N4<=bQ.heap.size:=aC Lg hx.size;clear hx oU qX B11 Lf uo VR Gd c9 l2 aX aY uz Lg aeP;have lbx:=aF.lt P6.out;have aeQ:=LA.lt;obtain⟨l0,aA,aB,bB⟩:=At.three XD;obtain⟨it,hit⟩:∃t,Fw.SF sx 1 hh i1=t:=⟨_,rfl⟩
    have oo:∀X,Calls Tryz.prog 227 #[.agg #[.int .i64 (sx.c 5),.int .i64 (sx.c 6),.int .i64 (sx.c 9),.int .i64 (sx.c 10),.int .i64 (sx.c 13),.int .i64 (sx.c 14)],.agg (cells sx),.int .i64 hh,.int .i64 i1] X λe X'=>e=.returned (.agg (wz it))/\Below X.heap.size X X':=λX=>by
     rw[<-hit];exact PI _ _ _ _ _ _ sx hh i1 X
    have Z':=Lib.hid (show q+k*17+5<=cs2.size by have:=MI.out;have:=agS.out;omega);have hSd:Out (λb=>b=R) bQ bQ.drew/\bQ.drew.cell? ⟨R,q+k*17+12,none⟩=some (.pointer (some ⟨x.bx,0,none⟩)):=⟨(Out.refl _ _).drew,c12⟩
    go_upto_region 9 with(fail)
    refine kQ (S:=λX=>Out (λb=>b=R) bQ X/\X.cell? ⟨R,q+k*17+12,none⟩=some (.pointer (some ⟨x.bx,0,none⟩))) 24 ?_ ?_
    . exact hSd
    intro hx;clear hSd;refine gG 0 ?_;refine gG 1 ?_;refine gG 2 ?_;refine gG 3 ?_;refine gG 4 ?_;refine gG 5 ?_;refine gG 6 ?_;refine gG 7 ?_;refine rD 8 rfl (NZ (.tmp 85) aU rfl rfl (λX h=>At.out P6.out n4 h.1)) ?_;refine gG 9 ?_;refine gG 10 ?_;refine gG 11 ?_;refine gG 12 ?_;refine gG 13 ?_;refine gG 14 ?_;refine rD 15 rfl (iY aU (.tmp 92) rfl rfl (λX h=>aF.style (At.out P6.out n4 h.1))) ?_;refine gG 16 ?_;refine gG 17 ?_;refine gG 18 ?_;refine gG 19 ?_;refine tk1 20 ?_;refine aj.Step.call dQ (oo _) ?_;rintro e' eD ⟨rfl,hb⟩;have Ll:At eD R (.cells cs2 283):=At.keep (At.drew LA) hb;have IU:Out (λb=>b=R) bQ eD:=Out.trans' ((Out.refl _ bQ).drew) (Out.of_below (M:=λ_=>False) hb) λ_ _ q=>q.elim;have c13:eD.cell? ⟨R,q+k*17+12,none⟩=some (.pointer (some ⟨x.bx,0,none⟩)):=(hb.cell (p:=⟨R,_,none⟩) aeQ).trans c12;have agU:Out (λb=>b=R) bQ eD/\eD.cell? ⟨R,q+k*17+12,none⟩=some (.pointer (some ⟨x.bx,0,none⟩)):=⟨IU,c13⟩;refine⟨_,rfl,λ_=>agU,?_⟩
    (try simp only[bF,bG,bH,tks])
    refine gG 21 ?_;refine gG 22 ?_;refine tk1 23 ?_;refine aj.Step.skip (eZ (q:=q+k*17) zI (.tmp 100) (.tmp 98) rfl rfl rfl Ll (iC it) Z'.out (Cc it)) ?_;have aac:=At.setRow Ll (splice cs2 (q+k*17) (wz it));have uE:Out (λb=>b=R) eD (eD.setRow R (splice cs2 (q+k*17) (wz it))):=Out.setRow (M:=λb=>b=R) (Out.refl _ _) rfl _;have c14:(eD.setRow R (splice cs2 (q+k*17) (wz it))).cell? ⟨R,q+k*17+12,none⟩=some (.pointer (some ⟨x.bx,0,none⟩)):=by
     have h1:=iP (cs:=cs2) (vs:=wz it) (q:=q+k*17) (k:=q+k*17+12) (by rw[iC];exact Z'.out) (.inr (by rw[iC];omega));rw[aac.cell,h1,<-Ll.cell];exact c13
    refine⟨λ_=>⟨IU.trans uE,c14⟩,?_⟩
    (try simp only[bF,bG,bH,tks])
    refine jY ?_;have Jm:=IU.trans uE;have agV:k<((DF (SN B f z i0 i1) wJ k).set k { x with ld:=ly }).length:=by rw[List.length_set];exact hkc
    have DY:=aeO.out.aaZ agV it;rw[List.getElem_set_self,List.set_set]at DY
    have acg:Hid (fu (splice cs2 (q+k*17) (wz it)) q (DF (SN B f z i0 i1) wJ (k+1))):=Lib.hid (by
     rw[<-yG _ _ hkx,HX.out];have e:SN B f z i0 i1 x={ x with ld:=ly,it:=it }:=by
      unfold SN Gi;rw[xC,uy,HSX.out,<-hit,<-KJ,qZ,<-EW];rfl
     rw[e]
     exact DY.1)
    have Oc:=uD.own (M:=λb=>b=R) Jm λb hb h=>by subst h;exact⟨qW,pF⟩
    have B14:=XD.out (M:=λb=>b=R) n2 Jm;have C14:=Jo.out (M:=λb=>b=R) ak Jm;have aeR:=Lib.hid (PZ.out.out (M:=λb=>b=R) ak Jm);have ZU:=aC Fh Jm.size;generalize eD.setRow R (splice cs2 (q+k*17) (wz it))=wK at *;generalize splice cs2 (q+k*17) (wz it)=cs4 at *;clear hx DY LA Ll IU uE Jm c12 c13 c14 uD XD Jo PZ P6 l0 aA aB bB oo lbx aeQ Fh KJ EW hit uy xC aeO hC;go_wp2
    go_roundw
    case rel=>exact⟨k+1,n2',P2,cs4,by omega,by go_num,by omega,Oc,IK,ZU,aac,acg,B14,C14,aeR⟩
    case measure=>simp[intOf];omega
  . obtain rfl:k=m:=by omega
    have Ru:Hid (fu cs' q xs1):=Lib.hid (by
     have:=hC.out;rw[<-HL0.out,Iy,<-EF.out]at this
     exact this)
    have hn1:n'<=n+jd B f wJ k:=hn';have aeS:=Lib.hid xD;have hRr:=hSr.ro qL sO.out hkm;have IC:wr.cell? ⟨T,46,none⟩=some (.int .i64 (s.c 46)):=(hST.out.cell 46).trans (bE s ak rfl);have lTr:=hST.out.lt;have Bt:=hAr.lt;have aeT:Calls Tryz.prog 233 #[.slice (some ⟨R,q,none⟩) k k,.agg #[.int .i64 i0,.int .i64 i1],.int .i64 (s.c 46)] wr λe w'=>(∃b,e=.returned (.slice (some ⟨b,0,none⟩) k k)/\wr.heap.size<=b/\Ints w' (some ⟨b,0,none⟩) sz)/\Below wr.heap.size wr w':=by
     have hg:∀i,i<fl.length->fl.getD i 0=fl[i]! := λi h=>by simp[List.getD,h]
     have hG:∀i (h:i<xs1.length),xs1[i]=SN B f z i0 i1 (vE Y B i0 (fl.getD i 0)):=λi h=>by
      have h':i<fl.length:=by have:=zM.out;have:=HM.out;omega
      have e1:=EF.out;subst e1;have e0:=HX0.out;subst e0;simp[iw,List.getD,List.getElem?_eq_getElem h']
     have h1:=ZB (some ⟨R,q,none⟩) xs1 k i0 i1 (s.c 46) (λi=>Gi B f z i0 i1 (fl.getD i 0)) (λi=>Fw.FX B i0 1 (fl.getD i 0)) (λi=>(B (fl.getD i 0)).sty) wr (Ru.out.ims hAr) (by rw[zM.out];omega) (λi h=>by rw[hG i h];rfl) (λi h=>by rw[hG i h];rfl) (λi h=>by
      have ho:=IE.out xs1[i] (List.getElem_mem _);have hb:=(hRr.box _ ho.d).1;rw[<-ho.bx]at hb;have e:xs1[i].ld.id=fl.getD i 0:=by rw[hG i h];rfl
      have e2:(B xs1[i].ld.id).sty=(B (fl.getD i 0)).sty:=by rw[e]
      rw[e2]at hb
      exact⟨_,_,_,hb⟩)
     rw[zM.out]at h1;have e:yI (λi=>Gi B f z i0 i1 (fl.getD i 0)) (λi=>Fw.FX B i0 1 (fl.getD i 0)) k i1 (s.c 46)=sz:=by rw[<-HSZ.out];unfold clS;rw[HM.out,ZM.out]
     rw[e]at h1;exact h1
    obtain⟨l0,aA,aB,bB⟩:=At.three A0;have qd:=Lib.hid hSr;have ahN:k<=64:=hl;clear hC hn' hlt hRr hSr xD HI4
    go_upto_region 12 with(go_at_call 233;(with_reducible refine aeT.mono ?_);rintro e' w5 ⟨⟨bz,rfl,gbz,xS⟩,hb5⟩)
    have hS5:=qd.out.after hb5;have xw:=hAr.keep hb5;have B5:=A0.keep hb5;have C5:=A4.keep hb5;have NW:=Lib.hid (hST.out.keep hb5);have aeU:=Lib.hid xS;have SQ:N4<=w5.heap.size:=aC EB hb5.size;have gz:N4<=bz:=aC EB gbz;clear aeT hb5 xS qd hAr A0 A4 hST EB gbz l0 aA aB bB IC lTr Bt
    go_loopw [109] (λiv wr=>∃(j n2:Nat) (P2:Nat->Prop) (cs2:Array Value),j<=k/\iv=.int .i64 j/\n2<=n+jd B f wJ k+jd B f xs1 j/\qV Y B F w P n2 P2 wr/\(∀b,b<N4->P2 b->P b)/\N4<=wr.heap.size/\At wr R (.cells cs2 283)/\Hid (fu cs2 q (rY (XC B f z i0 i1 sz) xs1 j))/\At wr w.heap.size (.cells #[.int .i64 z,.int .i64 i0,.int .i64 i1] 112)/\At wr (w.heap.size+1) (.cells #[.slice none 0 0,.int .i64 0] 198)/\Hid (At wr T (.cells (cells s) 51))/\Hid (Ints wr (some ⟨bz,0,none⟩) sz)) (λiv _=>k-(intOf iv).toNat)
    case atStart=>exact⟨0,n',P',cs',bJ _,rfl,by have h0:jd B f xs1 0=0:=rfl;omega,hS5,aeS.out,SQ,xw,Lib.hid (by rw[zK];exact Ru.out),B5,C5,NW,aeU⟩
    case round =>
     clear hS5 xw B5 C5 NW aeU Ru aeS hn1 SQ;obtain⟨j,n2,P2,cs2,hj,rfl,hn2,hSr,xD,EB,hAr,hC,A0,A4,hST,xS⟩:=hrel;by_cases hlt:j<k
     . have hltz:(j:Int)<(k:Int):=by omega
       have Xw:j<xs1.length:=by rw[zM.out];exact hlt
       have hjc:j<(rY (XC B f z i0 i1 sz) xs1 j).length:=by rw[iL];exact Xw
       have qz:=hC.out.at_ hAr hjc;rw[qg _ _ Xw]at qz;obtain⟨x,hx⟩:∃x,xs1[j]=x:=⟨_,rfl⟩;have lZ:=Lib.hid (IE.out x (hx▸List.getElem_mem _));rw[hx]at qz;have HX:=Lib.hid hx;have qd:=Lib.hid hSr;have hRr:=hSr.ro qL sO.out hkm;have hbx:=(hRr.box x.ld.id lZ.out.d).1;rw[<-lZ.out.bx]at hbx;obtain⟨sx,hsx⟩:∃s,(B x.ld.id).sty=s:=⟨_,rfl⟩;rw[hsx]at hbx;generalize Y.vf x.ld.id=vf at hbx;generalize Y.va x.ld.id=va at hbx;generalize (B x.ld.id).ib=ib at hbx;have HSX:=Lib.hid hsx;have qw:=Lib.hid hbx;have wG:¬ P2 R:=λh=>Vf (xD R lR4 h);have Bt:=hAr.lt;have KR:wr.cell? ⟨R,q+j*17+12,none⟩=some (.pointer (some ⟨x.bx,0,none⟩)):=(qz 12 ak).trans rfl;have PU:wr.cell? ⟨R,q+j*17+5,none⟩=some (.int .i64 x.ld.id):=(qz 5 ak).trans rfl;obtain⟨lz,cz⟩:=lints xS.out (by rw[HLZ.out];exact hlt);obtain⟨v,hv⟩:∃v,sz.getD j 0=v:=⟨_,rfl⟩;rw[hv]at cz;obtain⟨l0,aA,aB,bB⟩:=At.three A0;clear hRr hbx qz hsx hx hSr
       go_upto_region 15 with(fail)
       clear cz lz;have wX:=λX (h:Below wr.heap.size wr X)=>PV hK z x.ld.id i0 i1 hz lZ.out.d x.bx lZ.out.bx X ((qd.out.after h).ro qL sO.out hkm);obtain⟨cs0,xC⟩:∃c,Fw.gY B z i0 x.ld.id=c:=⟨_,rfl⟩;simp only[xC]at wX;refine aj.kg (λa0 a W5=>∃(U:Nat) (aeV aeW u119 aeX aeY aeZ ae0:Value),a={ a0 with tmps:=(((((((a0.tmps.setIfInBounds 117 aeV).setIfInBounds 118 aeW).setIfInBounds 119 u119).setIfInBounds 120 aeX).setIfInBounds 121 aeY).setIfInBounds 122 aeZ).setIfInBounds 123 ae0).setIfInBounds 13 (.pointer (some ⟨U,0,none⟩)) }/\wr.heap.size<=U/\At W5 U (.cells #[.int .i64 cs0,.int .i64 (-1)] 108)/\Below wr.heap.size wr W5) ?_ ?_
       . have hSd:Below wr.heap.size wr wr.drew:=Below.drew (Below.refl _ _)
         refine kQ (S:=λX=>Below wr.heap.size wr X) 9 ?_ ?_
         . exact hSd
         intro hx;clear hSd;refine aH 0 ?_;refine aH 1 ?_;refine aH 2 ?_;refine aH 3 ?_;refine aH 4 ?_;refine aH 5 ?_;clear KR PU l0 aA aB bB qw hC hST xS A0 A4 hAr;refine tk2 6 7 ?_ ?_
         . refine aj.Step.call dQ (wX _ hx) ?_
           rintro e' w9 ⟨rfl,hb⟩;replace hx:=Below.ay hx (ah _) hb;clear hb;refine⟨_,rfl,λ_=>hx,?_⟩
           (try simp only[bF,bG,bH,tks])
           refine tk1 7 ?_;refine aj.Step.value (u:=.pointer (some ⟨w9.heap.size,0,none⟩)) (w':=w9.alloc (.cells #[.int .i64 0,.int .i64 0] 108)) dQ ?_;obtain⟨jg,bA,AT,fT,gT⟩:∃jg,jg=w9.alloc (.cells #[.int .i64 0,.int .i64 0] 108)/\At jg w9.heap.size (.cells #[.int .i64 0,.int .i64 0] 108)/\Below w9.heap.size w9 jg/\wr.heap.size<=w9.heap.size:=⟨_,rfl,At.new _ _,Below.alloc' (Below.refl _ _) _,hx.size⟩;rw[<-bA];clear bA;replace hx:=Below.ay hx (ah _) fT;generalize w9.heap.size=U at *;refine⟨λ_=>hx,?_⟩;exact Z1i
         . refine aj.Step.value (u:=.pointer (some ⟨wr.drew.heap.size,0,none⟩)) (w':=wr.drew.alloc (.cells #[.int .i64 0,.int .i64 0] 108)) dQ ?_
           obtain⟨jg,bA,AT,fT,gT⟩:∃jg,jg=wr.drew.alloc (.cells #[.int .i64 0,.int .i64 0] 108)/\At jg wr.drew.heap.size (.cells #[.int .i64 0,.int .i64 0] 108)/\Below wr.drew.heap.size wr.drew jg/\wr.heap.size<=wr.drew.heap.size:=⟨_,rfl,At.new _ _,Below.alloc' (Below.refl _ _) _,hx.size⟩;rw[<-bA];clear bA;replace hx:=Below.ay hx (ah _) fT;generalize wr.drew.heap.size=U at *;refine⟨λ_=>hx,?_⟩
           (try simp only[bF,bG,bH,tks])
           refine tk1 6 ?_;refine aj.Step.call dQ (wX _ hx) ?_;rintro e' w9 ⟨rfl,hb⟩;replace hx:=Below.ay hx (ah _) hb;replace AT:=AT.keep hb;clear hb;refine⟨_,rfl,λ_=>hx,?_⟩;exact Z1i
       . rintro a W9 ⟨U,aeV,aeW,u119,aeX,aeY,aeZ,ae0,rfl,gU,AU,fT⟩
         simp only[List.setIfInBounds_toArray,List.set_cons_zero,List.set_cons_succ];clear wX KR PU l0 aA aB bB
         have Xy:Hid (qU wr R (q+j*17) x):=Lib.hid (by
          have h:=hC.out.at_ hAr hjc;rw[qg _ _ Xw,HX.out]at h
          exact h)
         have ae1:=Lib.hid (aF.keep qw.out fT);have lR9:=aR Bt fT.size;have KR:W9.cell? ⟨R,q+j*17+12,none⟩=some (.pointer (some ⟨x.bx,0,none⟩)):=(fT.cell (p:=⟨R,_,none⟩) Bt).trans ((Xy.out 12 ak).trans rfl);obtain⟨l2,aN,aO,aP,aQ,aZ,bq,aX,aY⟩:=At.bx1 ae1.out;clear aN aO aP aQ aZ bq;have uz:=λX=>dV (Fw.ed sx 0) (Fw.ed sx 2) X;obtain⟨e02,EW⟩:∃v,Fw.wr (Fw.ed sx 0+Fw.ed sx 2)=v:=⟨_,rfl⟩;simp only[EW]at uz;obtain⟨t1,ht1⟩:∃t,IntKind.i64.wrap (v+e02)=t:=⟨_,rfl⟩
         go_upto_region 17 with(go_at_call 123;(with_reducible refine(uz _).mono ?_);rintro e' jg ⟨rfl,jl⟩;replace AU:=AU.keep jl;obtain⟨lU,cU0,cU1⟩:=At.two AU;have zU1:=AU.thaw 1)
         generalize hW:World.setCell _ _ _=Bw;replace AU:At Bw U (.cells #[.int .i64 cs0,.int .i64 t1] 108):=hW▸At.set AU 1 _;have fK:Below wr.heap.size wr Bw:=by
          rw[<-hW];exact Below.setCell (Below.ay fT (ah _) jl) gU _
         clear hW jl fT ae1 lR9 KR l2 aX aY uz cU0 cU1 zU1 lU;obtain⟨lU,cU0,cU1⟩:=At.two AU;have ae2:=Lib.hid (qd.out.after fK);have oU:=hAr.keep fK;have B11:=A0.keep fK;have Lf:=A4.keep fK;have uo:=Lib.hid (hST.out.keep fK)
         have Gf:=Lib.hid (xS.out.keep fK λ_ a ha=>by
          have h:=lints xS.out (by rw[HLZ.out];exact hlt);injection ha with ha;rw[<-ha]
          exact h.1)
         have PU:Bw.cell? ⟨R,q+j*17+5,none⟩=some (.int .i64 x.ld.id):=(fK.cell (p:=⟨R,_,none⟩) Bt).trans ((Xy.out 5 ak).trans rfl);have ae3:=fK.size;obtain⟨l0,aA,aB,bB⟩:=At.three B11;have hcs1:=rX B f xs1 Xw;rw[HX.out]at hcs1;have hcs2:=wm B f xs1 (j+1);rw[zM.out,Ta.out k,HCS.out]at hcs2;have ahO:=HCS.out;have hnn:=HN.out;obtain⟨ly,uy⟩:∃y,Fw.lay B f x.ld.id i0 i1 cs0 t1=y:=⟨_,rfl⟩;have Jt:ly.id=x.ld.id:=by rw[<-uy];rfl
         have MI:=Lib.hid (show q+j*17+5+7<=cs2.size by have:=hC.out.1;rw[iL]at this;have h2:j*17+17<=xs1.length*17:=ak;omega);have n1:w.heap.size≠Y.pm:=by omega
         have n2':w.heap.size≠R:=by omega
         have n5:U≠Y.pm:=by omega
         have n6:U≠R:=by omega
         have hSd:Out (λb=>b=Y.pm\/b=R) Bw Bw.drew/\Bw.drew.cell? ⟨R,q+j*17+5,none⟩=some (.int .i64 x.ld.id)/\True:=⟨(Out.refl _ _).drew,PU,trivial⟩;clear fK Xy qw hAr A0 A4 hST xS;refine kQ (S:=λX=>Out (λb=>b=Y.pm\/b=R) Bw X/\X.cell? ⟨R,q+j*17+5,none⟩=some (.int .i64 x.ld.id)/\True) 15 ?_ ?_
         . exact hSd
         intro hx;clear hSd;refine gG 0 ?_;refine gG 1 ?_;refine gG 2 ?_;refine gG 3 ?_;refine gG 4 ?_;refine gG 5 ?_;refine gG 6 ?_;refine gG 7 ?_;refine gG 8 ?_;refine gG 9 ?_;refine gG 10 ?_;have jZ:=ni hL qL sO.out hkm (ae2.out.after ((Below.refl Bw.heap.size Bw).drew)) x.ld.id i0 i1 cs0 t1 lZ.out.d lZ.out.f ak;rw[uy]at jZ;refine tk1 11 ?_;refine aj.Step.call dQ jZ ?_;rintro e' jg ⟨rfl,n3',P3,hn3,nM,Cj,kJ⟩;have SL:R<Bw.drew.heap.size:=oU.lt;have nX:At jg R (.cells cs2 283):=At.out (M:=λb=>b=Y.pm) (At.drew oU) ak kJ;have um:jg.cell? ⟨R,q+j*17+5,none⟩=some (.int .i64 x.ld.id):=(Out.cell kJ (q+j*17+5) SL ak).trans PU;have qh:Out (λb=>b=Y.pm\/b=R) Bw jg:=((Out.refl _ Bw).drew).trans (kJ.mono λb _ h => .inl h);refine⟨_,rfl,λ_=>⟨qh,um,trivial⟩,?_⟩
         (try simp only[bF,bG,bH,tks])
         have Iz:Out (λb=>b=Y.pm\/b=R) Bw jg/\jg.cell? ⟨R,q+j*17+5,none⟩=some (.int .i64 x.ld.id)/\True:=⟨qh,um,trivial⟩;refine gG 12 ?_;refine gG 13 ?_;refine tk1 14 ?_;refine aj.Step.skip (eZ nU (.tmp 149) (.tmp 147) rfl rfl rfl nX (dw ly) MI.out (o8 ly)) ?_;have LA:At (jg.setRow R (splice cs2 (q+j*17+5) (eF ly))) R (.cells (splice cs2 (q+j*17+5) (eF ly)) 283):=At.setRow nX _;have oV:Out (λb=>b=R) jg (jg.setRow R (splice cs2 (q+j*17+5) (eF ly))):=Out.setRow (M:=λb=>b=R) (Out.refl _ _) rfl _;have aa':(jg.setRow R (splice cs2 (q+j*17+5) (eF ly))).cell? ⟨R,q+j*17+5,none⟩=some (.int .i64 x.ld.id):=by
          have h1:=nW (cs:=cs2) (vs:=eF ly) (q:=q+j*17+5) (j:=0) Z59 (by rw[dw];omega);rw[Nat.add_zero]at h1;rw[LA.cell,h1,<-Jt];rfl
         have hOr:=qh.trans (oV.mono λb _ h => .inr h);refine⟨λ_=>⟨hOr,aa',trivial⟩,?_⟩
         (try simp only[bF,bG,bH,tks])
         refine jY ?_;have qW:¬ P3 R:=λh=>wG (Cj R SL h);have hput:=hC.out.PK hjc ly;rw[qg _ _ Xw,HX.out]at hput
         have agW:Hid (fu (splice cs2 (q+j*17+5) (eF ly)) q (rY (XC B f z i0 i1 sz) xs1 (j+1))):=Lib.hid (by
          rw[<-zJ _ _ Xw,HX.out];have e:XC B f z i0 i1 sz j x={ x with ld:=ly }:=by
           unfold XC;rw[hv,xC,HSX.out,<-uy,<-ht1,qZ,<-EW];rfl
          rw[e]
          exact hput.1)
         have uD:=nM.own (M:=λb=>b=R) oV λb hb h=>by subst h;exact⟨qW,pF⟩
         have XD:=B11.out (M:=λb=>b=Y.pm\/b=R) ak hOr;have Jo:=Lf.out (M:=λb=>b=Y.pm\/b=R) ak hOr;have PZ:=Lib.hid (uo.out.out (M:=λb=>b=Y.pm\/b=R) ak hOr);have ae4:=Lib.hid (vG Gf.out hOr ak);have IK:∀b,b<N4->P3 b->P b:=λb hb h=>xD b hb (Cj b (by show b<Bw.heap.size;omega) h);have Fh:N4<=(jg.setRow R (splice cs2 (q+j*17+5) (eF ly))).heap.size:=aC (aC EB ae3) hOr.size;generalize jg.setRow R (splice cs2 (q+j*17+5) (eF ly))=bQ at *;generalize splice cs2 (q+j*17+5) (eF ly)=yV at *;clear hx Iz hput nX oV aa' um kJ qh hOr Cj nM jZ l0 aA aB bB PU oU B11 Lf uo Gf hC lU cU0 cU1 AU ae2;go_wp2
         go_roundw
         case rel=>exact⟨j+1,n3',P3,yV,by omega,by go_num,by omega,uD,IK,Fh,LA,agW,XD,Jo,PZ,ae4⟩
         case measure=>simp[intOf];omega
     . obtain rfl:j=k:=by omega
       have hC2:Hid (fu cs2 q xs2):=Lib.hid (by
        have:=hC.out;rw[<-zM.out,DL,<-EG.out]at this
        exact this)
       have HN2:Hid (n2<=n+2*(fl.map (Fw.cst B f)).sum):=Lib.hid (by
        have h1:=hn2;rw[Ta.out j,HCS.out]at h1
        omega)
       have wG:¬ P2 R:=λh=>Vf (xD R lR4 h);have hPN:=Lib.hid (show¬ P2 (w.heap.size+1)from λh=>by have:=hP _ (xD _ ak h);omega);have qd:=Lib.hid hSr;have aad:=Lib.hid hSr.lt;have hb6:Below wr.heap.size wr (wr.alloc (.cells #[.int .i64 1] 3)):=Below.alloc' (Below.refl _ _) _;have xA:At (wr.alloc (.cells #[.int .i64 1] 3)) wr.heap.size (.cells #[.int .i64 1] 3):=At.new _ _;have DW:=U4 (some ⟨R,q,none⟩) xs2 j wr.heap.size _ ((hC2.out.ims hAr).after hb6) (by rw[HL2.out];omega) (xA.cell 0) xA.lt;rw[HL2.out]at DW;have hs6:=hb6.size;clear hC hn2 hlt hSr xD xA
       go_upto_region 20 with(first|(go_at_call 234;(with_reducible refine(oJ 1 _).mono ?_);rintro e w1 ⟨rfl,rfl⟩)|(go_at_call 229;(with_reducible refine DW.mono ?_);rintro e' w7 ⟨⟨bt,rfl,gbt,hT⟩,xR⟩))
       have LB:Below wr.heap.size wr w7:=hb6.trans (xR.mono hs6);have elg:long.length=j:=by rw[<-BR.out];simp[oK,HL2.out]
       have hIt:Ints w7 (some ⟨bt,0,none⟩) long:=by
        have h1:=gH _ _ Jv hT;have h2:=rZ (oK xs2);rw[BR.out,elg]at h2;rw[BR.out,h2]at h1;exact h1
       have hS7:=qd.out.after LB;have Mi:=hAr.keep LB;have B7:=A0.keep LB;have C7:=A4.keep LB;have aaf:=Lib.hid (hST.out.keep LB);have hN7:N4<=w7.heap.size:=aC EB LB.size;have hP7:=Lib.hid (λb (h:P2 b)=>aR (aad.out b h) LB.size);have HIt:=Lib.hid hIt;clear DW hb6 xR hT gbt hs6 qd hAr A0 A4 hST EB aad LB hIt xS;have IC:w7.cell? ⟨T,46,none⟩=some (.int .i64 (s.c 46)):=(aaf.out.cell 46).trans (bE s ak rfl);have lT7:=aaf.out.lt;have Rm:∀X,(Instr.build 198 #[(1,.int .i64 high)]).run Tryz.prog X=.ok (.agg #[.slice none 0 0,.int .i64 high]) X:=λ_=>by kernel_rfl
       have nL:=KZ (some ⟨bt,0,none⟩) long j j (s.c 46) w7 HIt.out elg (ah _) ak;rw[HHI.out]at nL;have ELG:=Lib.hid elg;clear elg
       go_upto_region 21 with(go_at_call 235;(with_reducible refine nL.mono ?_);rintro e w8 ⟨rfl,rfl⟩)
       generalize hW:World.alloc _ _=w9;obtain⟨Cb,hCb⟩:∃b,w7.heap.size=b:=⟨_,rfl⟩;have AC:At w9 Cb (.cells #[.slice none 0 0,.int .i64 high] 198):=hW▸At.new' _ hCb.symm;have fT:Below w7.heap.size w7 w9:=hW▸Below.alloc' (Below.refl _ _) _;have hPC:¬ P2 Cb:=λh=>by have:=hP7.out Cb h;omega
       have gC:N4<=Cb:=by omega
       rw[hCb];have Mk:=hS7.after fT;have qx:=Mi.keep fT;have B9:=B7.keep fT;have C9:=C7.keep fT;have Vp:=Lib.hid (aaf.out.keep fT);have ae5:=Lib.hid (HIt.out.after fT);have hN9:N4<=w9.heap.size:=aC hN7 fT.size;clear hW nL Rm fT hS7 Mi B7 C7 aaf HIt IC lT7 hCb hP7 hN7;obtain⟨l0,aA,aB,bB⟩:=At.three B9;obtain⟨lC,Fb,Fg⟩:=At.two AC
       go_upto_if 163 with(fail)
       go_cut [16]from 162 to 166 (λv w2=>v=.int .i64 room/\Below w9.heap.size w9 w2)
       case first =>
        by_cases hh:i1 = -1
        . have e1:=HRM.out
          rw[if_pos hh]at e1;exact Z46
        . have e1:=HRM.out
          rw[if_neg hh]at e1;exact Z46
       case rest =>
        obtain⟨rfl,jl⟩:=hcut;have nM:=Mk.after jl;have nX:=qx.keep jl;have B10:=B9.keep jl;have Mq:=C9.keep jl;have yL:=AC.keep jl;have DZ:=Lib.hid (Vp.out.keep jl);have DU:N4<=wc.heap.size:=aC hN9 jl.size;have agX:=nM.lt;have ab3:wc.cell? ⟨T,43,none⟩=some (.int .i64 (s.c 43)):=(DZ.out.cell 43).trans (bE s ak rfl);have IC:wc.cell? ⟨T,46,none⟩=some (.int .i64 (s.c 46)):=(DZ.out.cell 46).trans (bE s ak rfl);have agY:=DZ.out.lt;have Rv:=DK (some ⟨bt,0,none⟩) long j j (s.c 43) room (s.c 46) wc (ae5.out.after jl) ELG.out (ah _) ak;have e:Ju.row (Ju.starts (s.c 43) room (s.c 46) long) j=st:=by rw[<-HST.out,HL2.out]
        rw[e]at Rv;clear e Mk qx B9 C9 AC Vp ae5 hN9 jl l0 aA aB bB lC Fb Fg
        go_upto_region 25 with(go_at_call 236;(with_reducible refine Rv.mono ?_);rintro e' cZ ⟨⟨bst,rfl,agZ,NY⟩,fK⟩)
        have qX:=nM.after fK;have oU:=nX.keep fK;have B11:=B10.keep fK;have Lf:=Mq.keep fK;have IL:=yL.keep fK;have uo:=Lib.hid (DZ.out.keep fK);have VU:=Lib.hid NY;obtain⟨N5,SQ⟩:∃N,cZ.heap.size=N:=⟨_,rfl⟩;have Ca:∀b,P2 b->b<N5:=λb h=>by have h1:=qX.lt b h;rw[SQ]at h1;exact h1
        have ahP:N4<=N5:=by have:=fK.size;omega
        have lC5:Cb<N5:=by have:=IL.lt;omega
        have ag0:st≠[]->bst<N5:=λh=>by
         obtain⟨b',o',e,hl,hc⟩:=Ints.at_ NY (k:=0) (List.length_pos_iff.2 h);injection e with e;injection e with e1 e2;omega
        have HN5:=Lib.hid SQ;have HP5:=Lib.hid Ca;have ag1:=Lib.hid hPC;have hXL:Hid (xs.length=j):=Lib.hid (by rw[<-HXS.out.1,List.length_mapIdx,HL2.out]);have nst:bst≠Cb:=by have:=yL.lt;omega
        clear Rv fK nM nX B10 Mq yL DZ NY agZ agX DU ab3 IC agY SQ Ca hPC
        go_loopw [174] (λiv wr=>∃(i:Nat) (v:Value),i<=j/\iv=.int .i64 i/\qV Y B F w P n2 P2 wr/\At wr R (.cells cs2 283)/\At wr Cb (.cells #[v,.int .i64 high] 198)/\Hid (wr.ownsRow N5 114 7 v (xs.take i).length (wI (xs.take i)))/\At wr w.heap.size (.cells #[.int .i64 z,.int .i64 i0,.int .i64 i1] 112)/\At wr (w.heap.size+1) (.cells #[.slice none 0 0,.int .i64 0] 198)/\Hid (At wr T (.cells (cells s) 51))/\Hid (Ints wr (some ⟨bst,0,none⟩) st)/\N5<=wr.heap.size) (λiv _=>j-(intOf iv).toNat)
        case atStart=>exact⟨0,.slice none 0 0,bJ _,rfl,qX,oU,IL,Lib.hid (World.ownsRow_nil _ _ _ _),B11,Lf,uo,VU,by rw[HN5.out];exact ah _⟩
        case round =>
         clear qX oU IL B11 Lf uo VU;obtain⟨i,v,hi,rfl,hSr,hAr,AC,hown,A0,A4,hST,xS,EB⟩:=hrel;by_cases hlt:i<j
         . have hltz:(i:Int)<(j:Int):=by omega
           have hix:i<xs2.length:=by rw[HL2.out];exact hlt
           have qz:=hC2.out.at_ hAr hix;obtain⟨x,hx⟩:∃x,xs2[i]=x:=⟨_,rfl⟩;rw[hx]at qz;have HX:=Lib.hid hx;have qd:=Lib.hid hSr;obtain⟨lz,cz⟩:=lints xS.out (by rw[Jh.out];exact hlt);obtain⟨v0,hv0⟩:∃v,st.getD i 0=v:=⟨_,rfl⟩;rw[hv0]at cz;have HV0:=Lib.hid hv0;have Bt:=hAr.lt;clear hx hSr hv0
           go_upto_region 28 with(first|(refine dn aU _ rfl rfl (by with_reducible assumption) ?_)|(refine bV aU rfl ?_)|(refine bO aU _ _ rfl rfl rfl Z5f ?_))
           generalize hW:World.setRow _ _ _=W3;obtain⟨Q,hQ⟩:∃b,wr.heap.size=b:=⟨_,rfl⟩;have AQ:At W3 Q (.cells (nJ x) 283):=hW▸hQ▸At.setRow (At.new _ _) _;have hb3:Below wr.heap.size wr W3:=hW▸cO (Below.alloc' (Below.refl _ _) _) (ah _) _;have gQ:wr.heap.size<=Q:=Nat.le_of_eq hQ;have gQ2:Q<=wr.heap.size:=Nat.le_of_eq hQ.symm;rw[hQ];clear hW hQ qz cz lz Bt;have acy:=Lib.hid (hST.out.keep hb3);have B3:=A0.keep hb3;have Vn:W3.cell? ⟨T,44,none⟩=some (.int .i64 (s.c 44)):=(acy.out.cell 44).trans (bE s ak rfl);have lT3:=acy.out.lt;have lQ:=AQ.lt;have hIQ:Hid (qU W3 Q 0 x):=Lib.hid λj hj=>by rw[Nat.zero_add];exact AQ.cell j
           obtain⟨l0,aA,aB,bB⟩:=At.three B3;have hSd:Below W3.heap.size W3 W3.drew:=Below.drew (Below.refl _ _);refine kQ (S:=λX=>Below W3.heap.size W3 X) 10 ?_ ?_
           . exact hSd
           intro hx;clear hSd;refine aH 0 ?_;refine aH 1 ?_;refine rD 3 rfl (DC (.tmp 19) aU rfl rfl (λX h=>qU.keep hIQ.out h lQ)) ?_;refine aH 5 ?_;refine aH 6 ?_;refine aH 7 ?_;refine tk1 2 ?_;refine aj.Step.call dQ (oJ 0 _) ?_;rintro e' w7 ⟨rfl,hw7⟩;have xR:Below W3.drew.heap.size W3.drew w7:=hw7▸Below.alloc' (Below.refl _ _) _;have AB:At w7 W3.drew.heap.size (.cells #[.int .i64 0] 3):=hw7▸At.new _ _;clear hw7;replace hx:=Below.ay hx (ah _) xR;generalize W3.drew.heap.size=Bq at *;refine⟨_,rfl,λ_=>hx,?_⟩
           (try simp only[bF,bG,bH,tks])
           refine tk1 4 ?_;refine aj.Step.call dQ (PE x Bq w7 (AB.cell 0)) ?_;rintro e' w8 ⟨rfl,xQ⟩;replace hx:=Below.ay hx (ah _) xQ;refine⟨_,rfl,λ_=>hx,?_⟩
           (try simp only[bF,bG,bH,tks])
           refine tk1 8 ?_;refine aj.Step.call dQ (Ao (s.c 44) (Ah x) i0 w8) ?_;rintro e' w9 ⟨rfl,rfl⟩;refine⟨_,rfl,λ_=>hx,?_⟩
           (try simp only[bF,bG,bH,tks])
           refine aH 9 ?_;refine jY ?_;have ae6:Below wr.heap.size wr w8:=Below.ay hb3 (ah _) hx;have Oy:=AQ.keep hx;clear xR xQ AB hx acy B3 Vn lT3 l0 aA aB bB hIQ AQ lQ hb3;obtain⟨la,hla⟩:∃v,Ju.across (s.c 44) (Ah x) i0=v:=⟨_,rfl⟩;rw[hla];obtain⟨p0,hp0⟩:∃v2,IntKind.i64.wrap (la+x.m0)=v2:=⟨_,rfl⟩;obtain⟨p1,hp1⟩:∃v2,IntKind.i64.wrap (v0+x.m2)=v2:=⟨_,rfl⟩;obtain⟨y,hy⟩:∃y:Fw.Ld,{ x.ld with a0:=p0,a1:=p1 }=y:=⟨_,rfl⟩;have HY:Hid (clE (s.c 44) i0 st i x=y):=Lib.hid (by unfold clE;rw[HV0.out,hla,<-qZ (v0+x.m2),<-qZ (la+x.m0),hp0,hp1];exact hy)
           have HTK:Hid (xs.take (i+1)=xs.take i++[y]):=Lib.hid (by
            have hxi:i<xs.length:=by rw[hXL.out];exact hlt
            rw[List.take_succ_eq_append_getElem hxi];congr 2;have e:=HXS.out.1;have e2:xs[i]=clE (s.c 44) i0 st i xs2[i]:=by subst e;simp
            rw[e2,HX.out,HY.out])
           have lQ8:=Oy.lt;have c13:w8.cell? ⟨Q,13,none⟩=some (.int .i64 x.m0):=(Oy.cell 13).trans rfl;have c15:w8.cell? ⟨Q,15,none⟩=some (.int .i64 x.m2):=(Oy.cell 15).trans rfl;have c10:w8.cell? ⟨Q,10,none⟩=some (.int .i64 x.ld.a0):=(Oy.cell 10).trans rfl;have c11:w8.cell? ⟨Q,11,none⟩=some (.int .i64 x.ld.a1):=(Oy.cell 11).trans rfl;have z10:=Oy.thaw 10;have z11:=Oy.thaw 11
           go_upto_region 30 with(fail)
           generalize hW:World.setCell _ _ _=W9;have AQ9:At W9 Q (.cells (nJ { x with ld:=y }) 283):=by
            rw[<-hW,<-hy];exact At.set (At.set Oy 10 _) 11 _
           have fT:Below wr.heap.size wr W9:=by
            rw[<-hW];exact Below.setCell (Below.setCell ae6 gQ _) gQ _
           clear hW lQ8 c13 c15 c10 c11 z10 z11 Oy ae6 hp0 hp1 hla hy;have Lp:=bD (M:=λ_=>False) hown.out (λ_ _ q=>q) (Out.of_below fT);have UK:=fT.size;obtain⟨g',c',w',hr,hown',hOa⟩:=Rx y Lp ak jH;obtain⟨ln,hln⟩:∃n,(xs.take i).length+1=n:=⟨_,rfl⟩;rw[hln]at hr hown';clear hln;have hrun:=Lib.hid hr
           have hQL:∀j,j<7->W9.cell? ⟨Q,5+j,none⟩=(eF y)[j]? := λj hj=>by
            rw[AQ9.cell];exact Z2r
           have VQ:∀b,v.ownBlock=some b->N5<=b:=λb h=>(hown.out.lt b h).1;have XE:=AC.keep fT;have pG:At w' Cb (.cells #[v,.int .i64 high] 198):=At.out (M:=λb=>v.ownBlock=some b) (XE.alloc _) (λh=>by have:=VQ Cb h;omega) hOa;obtain⟨lC9,aco,acp⟩:=At.two XE;obtain⟨lCn,acr,acs⟩:=At.two pG;have acu:=pG.thaw 0;have lQ9:=AQ9.lt;have HQL:=Lib.hid hQL;clear hr Lp hQL
           go_upto_region 31 with(first|(refine eP zH nU aU _ rfl rfl (dw y) HQL.out ?_)|(refine uq aU _ rfl rfl ?_)|(at_builtin;refine wpList_append_run aU _ _ 196 rfl rfl rfl hrun.out ?_))
           generalize hW:World.setCell _ _ _=Le;have yL:At Le Cb (.cells #[.slice (some ⟨g',0,none⟩) ln c',.int .i64 high] 198):=hW▸At.set pG 0 _;have Ls:Out (λb=>b=Cb) w' Le:=hW▸Out.set (M:=λb=>b=Cb) (Out.refl _ _) rfl 0 _
           have Oh:Hid (Le.ownsRow N5 114 7 (.slice (some ⟨g',0,none⟩) ln c') (xs.take (i+1)).length (wI (xs.take (i+1)))):=Lib.hid (by
            rw[HTK.out]
            exact bD (M:=λb=>b=Cb) hown' (λg hg e=>by have:=(hown'.lt g hg).1;omega) Ls)
           have Lv:Out (λb=>v.ownBlock=some b\/b=Cb) wr Le:=(Out.of_below (Below.alloc' fT _)).trans ((hOa.mono λb _ h => .inl h).trans (Ls.mono λb _ h => .inr h))
           have hoff:∀b,b<N5->b≠Cb->¬ (v.ownBlock=some b\/b=Cb):=λb hb hn h=>by
            rcases h with h|h
            . have:=VQ b h;omega
            . exact hn h
           have nM:=qd.out.own Lv λb hb h=>by
            rcases h with h|h
            . have h1:=VQ b h
              exact⟨λhp=>by have:=HP5.out b hp;omega,by omega⟩
            . subst h
              exact⟨ag1.out,by omega⟩
           have nX:=hAr.out (hoff R ak ak) Lv;have B10:=A0.out (hoff _ ak ak) Lv;have Mq:=A4.out (hoff _ ak ak) Lv;have DZ:=Lib.hid (hST.out.out (hoff T ak ak) Lv);have ae7:=Lib.hid (vG xS.out Lv (hoff bst (ag0 (λe=>by have:=Jh.out;rw[e]at this;simp at this;omega)) ak));have DU:N5<=Le.heap.size:=aC EB Lv.size;clear hW pG Ls hown' hOa Lv hoff XE lC9 aco acp lCn acr acs acu lQ9 HQL fT UK AQ9 hown hAr A0 A4 AC hST xS hrun;go_wp2
           go_roundw
           case rel=>exact⟨i+1,_,by omega,by go_num,nM,nX,yL,Oh,B10,Mq,DZ,ae7,DU⟩
           case measure=>simp[intOf];omega
         . obtain rfl:i=j:=by omega
           have hfull:xs.take i=xs:=List.take_of_length_le (by rw[hXL.out];exact ah _);rw[hfull]at hown
           have hxne:xs≠[]:=λe=>by
            have h1:=hXL.out;rw[e]at h1;have h2:=HM.out;exact hne (List.length_eq_zero_iff.1 (by rw[h2,<-h1];rfl))
           obtain⟨Rr,cap,csr,rfl,VQ,gR,AR,Gj⟩:=K6 hown.out hxne;obtain⟨lC,Fb,Fg⟩:=At.two AC;obtain⟨l4,fA,fB⟩:=At.two A4;have iQ:=A4.thaw 0;have iR:=A4.thaw 1;have lw:w.heap.size+1<wr.heap.size:=A4.lt;have HRC:=Lib.hid Gj;have qd:=Lib.hid hSr;have hHI:=Lib.hid HXS.out.2;clear Gj hown hSr hfull hxne hAr A0 hST xS;go_wp2;generalize hW:World.setCell _ _ _=W6;replace A4:At W6 (w.heap.size+1) (.cells #[.slice (some ⟨Rr,0,none⟩) xs.length cap,.int .i64 high] 198):=hW▸At.set (At.set A4 0 _) 1 _;have SK:Out (λb=>b=w.heap.size+1) wr W6:=by
            exact Z2s
           clear hW fA fB iQ iR lC Fb Fg AC;have AR6:=AR.out (M:=λb=>b=w.heap.size+1) ak SK;have yX:=qd.out.own SK λb hb h=>by subst h;exact⟨hPN.out,by omega⟩
           obtain⟨l4,fA,fB⟩:=At.two A4;have mG:=yX.fin;have Jq:=yX.kp;have hNw:=yX.new;have acw:¬ P2 Rr:=λh=>by have:=HP5.out Rr h;omega
           refine bodyPost_ret (v:=.agg #[.slice (some ⟨Rr,0,none⟩) xs.length cap,.int .i64 high]) (by simp[results,Tryz.results173,go_sem,fA,fB,l4];first|done|exact⟨rfl,rfl⟩|rfl) rfl ⟨Rr,cap,csr,P2,n2,by rw[hHI.out],by omega,AR6,HRC.out,HN2.out,Jq,hNw,acw,mG⟩
end
end Go.Proofs.YtcbcfdihofclkaaGreat.Fix
