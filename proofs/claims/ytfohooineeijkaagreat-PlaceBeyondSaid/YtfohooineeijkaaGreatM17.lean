/- Steps of the program (17); no conditions. -/
import Derived.Test.YtfohooineeijkaaGreatM02
import Derived.Test.YtfohooineeijkaaGreatM16
set_option linter.all false
set_option maxRecDepth 100000
set_option maxHeartbeats 16000000
namespace Go.Proofs.YtfohooineeijkaaGreat.Fix
open Go.ChangeShapes Go.WideShapes Go.ChangeAt Go.RowKit
open Go.Proofs.Tryz renaming prog → ja0
open World renaming setCell → ja4,alloc → ja5
section
variable {Y:rF} {B:Int->Fw.Bx} {F:Int->Nat} {D:Int->Prop} {KM:World->Nat->Prop} {f:Nat} {w:World} {P:Nat->Prop}
theorem acd(hL:xg Y B F D KM f)(hK:∀(X X':World) (b:Nat),KM X b->Below X X X'->KM X' b)(uo:∀(X X':World) (b:Nat),KM X b->Out (λq=>q≠b) X X'->KM X' b)(hR0:RO w Y B D KM)(hkm:Y.km<w.heap.size)
  (z i0 i1:Int) (hz:D z) (hdn:∀k∈(B z).fl,D k/\F k=f) (hne:(B z).fl≠[]) (hl:(B z).fl.length<=64) (n:Nat) (Gw:Kp Y B F n P w) (hP:∀b,P b->b<w.heap.size) (hn:n+2*((B z).fl.map (Fw.cst B f)).sum<maxLen) (xs:List Fw.Ld) (hi:Int) (hm:Fw.uI B (Fw.lay B f) z i0 i1=(xs,hi)) :
  Calls ja0 97 #[Y.lb,.agg #[z,i0,i1]] w λe w'=>∃R cap cs P' n',e=.returned (.agg #[.slice (some ⟨R,0,none⟩) xs.length cap,hi])/\w.heap.size<=R/\At w' R (.cells cs 88)/\o8 cs xs/\n'<=n+2*((B z).fl.map (Fw.cst B f)).sum/\Kp Y B F n' P' w'/\(∀b,P' b->P b\/w.heap.size<=b)/\¬ P' R/\Out (λb=>b=Y.pm) w w':=by
 obtain⟨es0,U0,p9⟩:=hR0.Gv;have hpl:=p9.lt;obtain⟨fl,hfl⟩:=aC ((B z).fl);rw[hfl]at hdn hne hl hn ⊢;obtain⟨s,hs⟩:=aC ((B z).sty);obtain⟨yu,hx0⟩:=aC (iQ Y B i0 fl);obtain⟨xs1,hx1⟩:=aC (yu.map (Wz B f z i0 i1));obtain⟨sz,hszz⟩:=aC (clS B f z i0 i1 fl);obtain⟨xs2,hx2⟩:=aC (xs1.mapIdx (clB B f z i0 i1 sz));obtain⟨long,hlong⟩:=aC (o7 xs2);obtain⟨high,hhigh⟩:=aC (Li.long (s.c 46) long);obtain⟨room,hroom⟩:=aC ((if i1 = -1 then high else i1));obtain⟨st,hst⟩:=aC (Ju.row (Ju.starts (s.c 43) room (s.c 46) long) xs2.length)
 have HXS:Hid (xs2.mapIdx (clE (s.c 44) i0 st)=xs/\high=hi):=ah (by
  have h:=Hq Y B f z i0 i1 fl hfl sz hszz xs2 (by rw[hx0,hx1,hx2]) high (by rw[hs,hlong];exact hhigh);rw[hm,hs,hlong,hroom,hst]at h;injection h with h1 h2
  exact⟨h1.symm,h2.symm⟩)
 obtain⟨m,hmm⟩:=aC fl.length;have HL0:Hid (yu.length=m):=ah (by rw[<-hx0,<-hmm];simp[iQ]);have BK:Hid (xs1.length=m):=ah (by rw[<-hx1,List.length_map,HL0.out]);have HL2:Hid (xs2.length=m):=ah (by rw[<-hx2,List.length_mapIdx,BK.out]);have HLZ:Hid (sz.length=m):=ah (by rw[<-hszz];unfold clS;rw[KN,hmm]);have D9:Hid (st.length=m):=ah (by rw[<-hst,Ju.qy,HL2.out])
 have Y2:Hid (∀x∈yu,Nt Y B D F f i0 x):=ah (by
  rw[<-hx0];intro x hx;obtain⟨k,hk,e⟩:=List.mem_map.1 hx;rw[<-e]
  exact SL (hdn k hk).1 (hdn k hk).2)
 have KJ:Hid (∀x∈xs1,Nt Y B D F f i0 x):=ah (by
  rw[<-hx1];intro x hx;obtain⟨y,hy,e⟩:=List.mem_map.1 hx;rw[<-e]
  exact abQ (Y2.out y hy))
 have akC:Hid (∀x∈xs2,Nt Y B D F f i0 x):=ah (by
  rw[<-hx2];intro x hx;obtain⟨i,hi,e⟩:=List.mem_mapIdx.1 hx;rw[<-e]
  exact abR i (KJ.out _ (List.getElem_mem _)))
 have WE:Hid (∀k,jw B f xs1 k=jw B f yu k):=ah λk=>YI (by rw[<-hx1,List.map_map];rfl) k
 have HCS:Hid (jw B f yu m=(fl.map (Fw.cst B f)).sum):=ah (by
  unfold jw;rw[<-hx0,<-hmm];unfold iQ;rw[<-List.map_take,List.take_length,List.map_map]
  rfl)
 have TL:Hid (xs1=yu.map (Wz B f z i0 i1)):=ah hx1.symm;have HX2:Hid (xs2=xs1.mapIdx (clB B f z i0 i1 sz)):=ah hx2.symm;have HX0:Hid (yu=iQ Y B i0 fl):=ah hx0.symm;have HSZ:=ah hszz;have Qj:=ah hs;have HLG:=ah hlong;have HHI:=ah hhigh;have HRM:=ah hroom;have HST:=ah hst;have Iy:=ah hfl;have HM:=ah hmm;have HN:=ah hn;have HDN:=ah hdn;have wu:=ah hR0;rw[hmm]at hl;clear hx1 hx2 hx0 hszz hlong hhigh hroom hst hm hmm;have hS:=qR.start Gw hP;have yg:=hR0;obtain⟨b0,hb0⟩:=aC (Y.bl z);have hbx:=(yg.box z hz).1;rw[hb0,hs]at hbx;have zw:=ah hbx.style;have Vh:=hbx.lt;have b1:Below w w ((w.alloc (.cells #[z,i0,i1] 86)).alloc (.cells #[.slice none 0 0,()] 147)):=aD (aD aG _) _;have A0:At ((w.alloc (.cells #[z,i0,i1] 86)).alloc (.cells #[.slice none 0 0,()] 147)) w.heap.size (.cells #[z,i0,i1] 86):=At.alloc (At.new _ _) _;have A4:At ((w.alloc (.cells #[z,i0,i1] 86)).alloc (.cells #[.slice none 0 0,()] 147)) (w.heap.size+1) (.cells #[.slice none 0 0,()] 147):=At.new' _ Gs;have hS1:=hS.after b1;have GU:=yg.keep hK b1;clear hdn hR0 yg hS p9 hs hbx hfl Gw hn;go_enter Tryz.func97,Tryz.ntmps97
 go_upto_region 1 with(fail)
 generalize (w.alloc (.cells #[z,i0,i1] 86)).alloc (.cells #[.slice none 0 0,()] 147)=w1 at *;have agh:=A4.lt;have hsz:=b1.size;have hlk:=λX (h:Below w1 w1 X)=>(GU.keep hK h).look hz;simp only[hb0]at hlk;have Yy:=ah (λj hj=>(b1.cell (p:=⟨b0,0+j,none⟩) Vh).trans (zw.out j hj):vN w1 b0 0 s);have Wx:b0<w1.heap.size:=bA Vh hsz;obtain⟨lY,yK,yL,AZ,Ba,Bb,Bc⟩:=At.six GU.lay;obtain⟨l0,aA,aB,aY⟩:=At.three A0;have hSd:Below w1 w1 w1.drew:=Below.drew aG;refine jy (S:=λX=>Below w1 w1 X) 12 ?_ ?_
 . exact hSd
 intro hx;clear hSd;refine aS 0 ?_;refine aS 1 ?_;refine aS 2 ?_;refine aS 3 ?_;refine aS 4 ?_;refine aS 5 ?_;refine mG 6 rfl (bU bB rfl rfl rfl (λX h=>hlk X h)) ?_;refine aS 7 ?_;refine aS 8 ?_;refine mG 9 rfl (jr bB (.tmp 29) rfl rfl (λX h=>λj hj=>(h.cell (p:=⟨b0,0+j,none⟩) Wx).trans (Yy.out j hj))) ?_;refine tk1 10 ?_;refine aj.Step.value (kV rfl) ?_;obtain⟨w2,hw2,AS,hb2,gT⟩:∃w2,w2=w1.drew.alloc (.cells (cells Re.zero) 59)/\At w2 w1.drew (.cells (cells Re.zero) 59)/\Below w1.drew w1.drew w2/\w1.heap.size<=w1.drew.heap.size:=⟨_,rfl,At.new _ _,aD aG _,hx.size⟩;rw[<-hw2];clear hw2;replace hx:=Below.ay hx aF hb2;generalize w1.drew.heap.size=T at *;refine⟨λ_=>hx,?_⟩
 (try simp only[bV,bW,bX,tks])
 refine tk1 11 ?_;refine aj.Step.skip (kX (.tmp 5) (.tmp 30) rfl rfl rfl AS) ?_;replace AS:At (w2.setRow T (cells s)) T (.cells (cells s) 59):=At.setRow AS _;have hx2:Below w1 w1 (w2.setRow T (cells s)):=aU hx gT _;generalize w2.setRow T (cells s)=w3 at *;refine⟨λ_=>hx2,?_⟩
 (try simp only[bV,bW,bX,tks])
 refine jk ?_;have abL:=hx2.size;have rY:=hS1.after hx2;have B3:=A0.keep hx2;have C3:=A4.keep hx2;have GA:=rY.ro uo wu.out hkm;have pK:Calls ja0 131 #[Y.lb,.agg #[z,i0,i1]] w3 λe w'=>(∃R q cs,e=.returned (.slice (some ⟨R,q,none⟩) m m)/\w3.heap.size<=R/\At w' R (.cells cs 216)/\gV cs q yu)/\Below w3 w3 w':=by
  exact Z25
 obtain⟨l0,aA,aB,aY⟩:=At.three B3;have hTN:w.heap.size+1<T:=by omega
 have lT:=AS.lt;clear b1 A0 A4 hS1 GU Yy hlk yK yL AZ Ba Bb Bc lY zw hb2 hx GA Vh Wx hb0
 go_upto_region 4 with(go_at_call 131;(with_reducible refine pK.mono ?_);rintro e' w4 ⟨⟨R,q,cs,rfl,gR,hA4,U3⟩,hb4⟩)
 clear pK;have HI4:=ah U3;have Ho:=rY.after hb4;have B4:=B3.keep hb4;have C4:=C3.keep hb4;have YA:=ah (AS.keep hb4);have ad9:=hb4.size;have uN:w.heap.size<=R:=by omega
 have Yr:¬ P R:=λh=>by have:=hP R h;omega
 have lR4:=hA4.lt;have hTR:T<R:=by omega
 have hT4:T<w4.heap.size:=by omega
 obtain⟨N4,hN4⟩:=aC w4.heap.size;rw[hN4]at lR4 hT4;have HN4:=ah hN4;clear hb4 U3 AS B3 C3 rY hx2 l0 aA aB aY hN4
 go_loopw [36] (λiv wr=>∃(k n':Nat) (P':Nat->Prop) (cs':Array Value),k<=m/\iv=.int .i64 k/\n'<=n+jw B f yu k/\qR Y B F w P n' P' wr/\(∀b,b<N4->P' b->P b)/\N4<=wr.heap.size/\At wr R (.cells cs' 216)/\Hid (gV cs' q (Fj (Wz B f z i0 i1) yu k))/\At wr w (.cells #[z,i0,i1] 86)/\At wr (w.heap.size+1) (.cells #[.slice none 0 0,()] 147)/\Hid (At wr T (.cells (cells s) 59))) (λiv _=>m-(intOf iv).toNat)
 case atStart=>exact⟨0,n,P,cs,gF _,rfl,by simp[jw],Ho,λb hb h=>h,by rw[HN4.out];exact aO _,hA4,ah (by rw[Fp];exact HI4.out),B4,C4,YA⟩
 case round =>
  clear Ho hA4 B4 C4 YA;obtain⟨k,n',P',cs',hk,rfl,hn',hSr,yX,Gx,hAr,hC,A0,A4,hST⟩:=hrel;by_cases hlt:k<m
  . have hltz:(k:Int)<(m:Int):=by omega
    have hkx:k<yu.length:=by rw[HL0.out];exact hlt
    have hkc:k<(Fj (Wz B f z i0 i1) yu k).length:=by rw[kN];exact hkx
    have qU:=hC.out.at_ hAr hkc;rw[uW _ _ hkx]at qU;obtain⟨x,hx⟩:=aC (yu[k]);have mV:=ah (Y2.out x (hx▸List.getElem_mem _));rw[hx]at qU;have HX:=ah hx;have qD:=ah hSr;have hRr:=hSr.ro uo wu.out hkm;have hbx:=(hRr.box x.ld.id mV.out.d).1;rw[<-mV.out.bx]at hbx;obtain⟨sx,hsx⟩:=aC ((B x.ld.id).sty);rw[hsx]at hbx;generalize Y.vf x.ld.id=vf at hbx;generalize Y.va x.ld.id=va at hbx;generalize (B x.ld.id).ib=ib at hbx;have HSX:=ah hsx;have qM:=ah hbx;have yh:¬ P' R:=λh=>Yr (yX R lR4 h);have Dk:=hAr.lt;have Nu:wr.cell? ⟨R,q+k*17+12,none⟩=some (.pointer x.bx):=(qU 12 ak).trans rfl;have SI:wr.cell? ⟨R,q+k*17+5,none⟩=some (.int .i64 x.ld.id):=(qU 5 ak).trans rfl;obtain⟨l0,aA,aB,aY⟩:=At.three A0;clear hRr hbx qU hsx hx hSr
    go_upto_region 7 with(fail)
    have abN:=ah (qD.out.after ((Below.refl wr.heap.size wr).drew));have hcs1:=tO B f yu hkx;rw[HX.out]at hcs1;have hcs2:=xU B f yu (k+1);rw[HL0.out,HCS.out]at hcs2;have hnn:=HN.out;obtain⟨cs0,yV⟩:=aC (Fw.nP B z i0 x.ld.id);have yM:=SK hK z x.ld.id i0 i1 hz mV.out.d x.bx mV.out.bx wr.drew (abN.out.ro uo wu.out hkm);rw[yV]at yM;obtain⟨ly,xS⟩:=aC (Fw.lay B f x.ld.id i0 i1 cs0 (-1));have LX:ly.id=x.ld.id:=by rw[<-xS];rfl
    have O7:=ah (show q+k*17+5+7<=cs'.size by have:=hC.out.1;rw[kN]at this;have h2:k*17+17<=yu.length*17:=ak;omega);have n1:w.heap.size≠Y.pm:=by omega
    have n2:w.heap.size≠R:=by omega
    have n34:=wu.out.box x.ld.id mV.out.d;rw[<-mV.out.bx]at n34
    have n3:x.bx≠Y.pm:=λe=>by
     obtain⟨es1,ck1,hp1⟩:=wu.out.Gv;have h1:=n34.1;rw[e]at h1;exact absurd (h1.symm.trans hp1) bI
    have n4:x.bx≠R:=by have:=n34.1.lt;omega
    clear n34;have hSd:Out (λb=>b=Y.pm\/b=R) wr wr.drew/\wr.drew.cell? ⟨R,q+k*17+5,none⟩=some (.int .i64 x.ld.id)/\wr.drew.cell? ⟨R,q+k*17+12,none⟩=some (.pointer x.bx):=⟨(Out.refl _ _).drew,SI,Nu⟩;refine jy (S:=λX=>Out (λb=>b=Y.pm\/b=R) wr X/\X.cell? ⟨R,q+k*17+5,none⟩=some (.int .i64 x.ld.id)/\X.cell? ⟨R,q+k*17+12,none⟩=some (.pointer x.bx)) 21 ?_ ?_
    . exact hSd
    intro hx;clear hSd;refine iG 0 ?_;refine iG 1 ?_;refine iG 2 ?_;refine iG 3 ?_;refine iG 4 ?_;refine iG 5 ?_;refine iG 6 ?_;refine iG 7 ?_;refine iG 8 ?_;refine iG 9 ?_;refine iG 10 ?_;refine iG 11 ?_;refine iG 12 ?_;refine iG 13 ?_;refine iG 14 ?_;refine iG 15 ?_;refine tk1 16 ?_;refine aj.Step.call eD yM ?_;rintro e' w6 ⟨rfl,hb6⟩;have jM:Out (λb=>b=Y.pm\/b=R) wr w6:=Out.trans' ((Out.refl _ wr).drew) (Out.of_below (M:=λ_=>False) hb6) λ_ _ q=>q.elim;have tX:=abN.out.after hb6;have agU:=(Below.drew (Below.refl wr.heap.size wr)).trans hb6;have vU:=hAr.keep agU;have QD:w6.cell? ⟨R,q+k*17+5,none⟩=some (.int .i64 x.ld.id):=(hb6.cell (p:=⟨R,_,none⟩) Dk).trans SI;have BJ:w6.cell? ⟨R,q+k*17+12,none⟩=some (.pointer x.bx):=(hb6.cell (p:=⟨R,_,none⟩) Dk).trans Nu;have hx6:Out (λb=>b=Y.pm\/b=R) wr w6/\w6.cell? ⟨R,q+k*17+5,none⟩=some (.int .i64 x.ld.id)/\w6.cell? ⟨R,q+k*17+12,none⟩=some (.pointer x.bx):=⟨jM,QD,BJ⟩;refine⟨_,rfl,λ_=>hx6,?_⟩
    (try simp only[bV,bW,bX,tks])
    have sF:=tQ hL uo wu.out hkm tX x.ld.id i0 i1 cs0 (-1) mV.out.d mV.out.f ak;rw[xS]at sF;refine tk1 17 ?_;refine aj.Step.call eD sF ?_;rintro e' jD ⟨rfl,n2',P2,hn2,nZ,Jd,mq⟩;have Wy:=vU.lt;have oq:=vU.out (M:=λb=>b=Y.pm) ak mq;have vP:jD.cell? ⟨R,q+k*17+5,none⟩=some (.int .i64 x.ld.id):=(Out.cell mq (q+k*17+5) Wy ak).trans QD;have IC:jD.cell? ⟨R,q+k*17+12,none⟩=some (.pointer x.bx):=(Out.cell mq (q+k*17+12) Wy ak).trans BJ;have qF:Out (λb=>b=Y.pm\/b=R) wr jD:=jM.trans (mq.mono λb _ h => .inl h);have KF:Out (λb=>b=Y.pm\/b=R) wr jD/\jD.cell? ⟨R,q+k*17+5,none⟩=some (.int .i64 x.ld.id)/\jD.cell? ⟨R,q+k*17+12,none⟩=some (.pointer x.bx):=⟨qF,vP,IC⟩;refine⟨_,rfl,λ_=>KF,?_⟩
    (try simp only[bV,bW,bX,tks])
    refine iG 18 ?_;refine iG 19 ?_;refine tk1 20 ?_;refine aj.Step.skip (bH oC (.tmp 61) (.tmp 59) rfl rfl rfl oq (dW ly) O7.out (pY ly)) ?_;have pF:At (jD.setRow R (splice cs' (q+k*17+5) (fH ly))) R (.cells (splice cs' (q+k*17+5) (fH ly)) 216):=At.setRow oq _;have jU:Out (λb=>b=R) jD (jD.setRow R (splice cs' (q+k*17+5) (fH ly))):=Out.setRow (M:=λb=>b=R) (Out.refl _ _) rfl _;have Cr:(jD.setRow R (splice cs' (q+k*17+5) (fH ly))).cell? ⟨R,q+k*17+5,none⟩=some (.int .i64 x.ld.id):=by
     exact Z1h
    have c9:(jD.setRow R (splice cs' (q+k*17+5) (fH ly))).cell? ⟨R,q+k*17+9,none⟩=some (.int .i64 ly.s1):=by
     have h1:=om (cs:=cs') (vs:=fH ly) (q:=q+k*17+5) (j:=4) Z4q (by rw[dW];omega);rw[pF.cell,show q+k*17+9=q+k*17+5+4 by omega,h1];rfl
    have Je:(jD.setRow R (splice cs' (q+k*17+5) (fH ly))).cell? ⟨R,q+k*17+12,none⟩=some (.pointer x.bx):=by
     exact Z2s
    refine⟨λ_=>⟨qF.trans (jU.mono λb _ h => .inr h),Cr,Je⟩,?_⟩
    (try simp only[bV,bW,bX,tks])
    refine jk ?_;have sG:¬ P2 R:=λh=>yh (Jd R Wy h);have hput:=hC.out.SC hkc ly;rw[uW _ _ hkx,HX.out]at hput;have hOr:Out (λb=>b=Y.pm\/b=R) wr (jD.setRow R (splice cs' (q+k*17+5) (fH ly))):=qF.trans (jU.mono λb _ h => .inr h);have sH:=nZ.own (M:=λb=>b=R) jU λb hb h=>by subst h;exact⟨sG,uN⟩
    have agV:=ah hput.1;have ai7:Hid ((splice cs' (q+k*17+5) (fH ly)).size=cs'.size):=ah (jA Z4q);have B11:=A0.out (M:=λb=>b=Y.pm\/b=R) ak hOr;have NK:=A4.out (M:=λb=>b=Y.pm\/b=R) ak hOr;have vQ:=ah (hST.out.out (M:=λb=>b=Y.pm\/b=R) ak hOr);have Y6:=ah (At.out (M:=λb=>b=Y.pm\/b=R) qM.out ak hOr);have ai8:wr.heap.size<=w6.heap.size:=jM.size;have KR:∀b,b<N4->P2 b->P b:=λb hb h=>yX b hb (Jd b ak h);have NM:N4<=(jD.setRow R (splice cs' (q+k*17+5) (fH ly))).heap.size:=aK Gx hOr.size;generalize jD.setRow R (splice cs' (q+k*17+5) (fH ly))=rP at *;generalize splice cs' (q+k*17+5) (fH ly)=cs2 at *;clear hx hx6 KF hput oq jU Cr vP IC A0 A4 vU tX jM mq qF QD BJ l0 aA aB aY Nu SI hOr Jd nZ yM sF agU hb6 hST qM hAr Dk ai8;obtain⟨l2,aL,aM,aP,aQ,bO,bP,bM,bN⟩:=At.bx1 Y6.out;clear aL aM aP aQ bO bP;have agW:=pF.lt;have vV:=λX=>eT (Fw.ed sx 0) (Fw.ed sx 2) X;obtain⟨e02,He⟩:=aC (Fw.wr (Fw.ed sx 0+Fw.ed sx 2));simp only[He]at vV;obtain⟨hh,Nq⟩:=aC (IntKind.i64.wrap (ly.s1-e02))
    go_upto_region 8 with(fail)
    have hSd:Below rP rP rP.drew:=Below.drew aG;refine jy (S:=λX=>Below rP rP X) 17 ?_ ?_
    . exact hSd
    intro hx;clear hSd;refine aS 0 ?_;refine aS 1 ?_;refine aS 2 ?_;refine aS 3 ?_;refine aS 4 ?_;refine aS 5 ?_;refine aS 6 ?_;refine aS 7 ?_;refine aS 8 ?_;refine aS 9 ?_;refine aS 10 ?_;refine aS 11 ?_;refine aS 12 ?_;refine aS 13 ?_;refine tk1 14 ?_;refine aj.Step.call eD (vV _) ?_;rintro e' xY ⟨rfl,hb⟩;replace hx:=Below.ay hx aF hb;clear hb;refine⟨_,rfl,λ_=>hx,?_⟩
    (try simp only[bV,bW,bX,tks])
    refine aS 15 ?_;refine aS 16 ?_;refine jk ?_;have NW:=pF.keep hx;have vW:=sH.after hx;have B12:=B11.keep hx;have LM:=NK.keep hx;have SY:=ah (vQ.out.keep hx);have S9:=ah (aR.keep Y6.out hx);have c12:xY.cell? ⟨R,q+k*17+12,none⟩=some (.pointer x.bx):=(hx.cell (p:=⟨R,_,none⟩) agW).trans Je;have H8:N4<=xY.heap.size:=aK NM hx.size;clear hx pF sH B11 NK vQ Y6 Je c9 l2 bM bN vV NM agW;have lbx:=aR.lt S9.out;have agX:=NW.lt;obtain⟨l0,aA,aB,aY⟩:=At.three B12;obtain⟨it,hit⟩:=aC (Fw.asI sx 1 hh i1)
    have oD:∀X,Calls ja0 132 #[.agg #[sx.c 5,sx.c 6,sx.c 9,sx.c 10,sx.c 13,sx.c 14],.agg (cells sx),hh,i1] X λe X'=>e=.returned (.agg (x8 it))/\Below X.heap.size X X':=λX=>by
     rw[<-hit];exact SB _ _ _ _ _ _ sx hh i1 X
    have ab8:=ah (show q+k*17+5<=cs2.size by have:=O7.out;have:=ai7.out;omega);have hSd:Out (λb=>b=R) xY xY.drew/\xY.drew.cell? ⟨R,q+k*17+12,none⟩=some (.pointer x.bx):=⟨(Out.refl _ _).drew,c12⟩
    go_upto_region 9 with(fail)
    refine jy (S:=λX=>Out (λb=>b=R) xY X/\X.cell? ⟨R,q+k*17+12,none⟩=some (.pointer x.bx)) 24 ?_ ?_
    . exact hSd
    intro hx;clear hSd;refine iG 0 ?_;refine iG 1 ?_;refine iG 2 ?_;refine iG 3 ?_;refine iG 4 ?_;refine iG 5 ?_;refine iG 6 ?_;refine iG 7 ?_;refine mG 8 rfl (QG (.tmp 85) bB rfl rfl (λX h=>At.out S9.out n4 h.1)) ?_;refine iG 9 ?_;refine iG 10 ?_;refine iG 11 ?_;refine iG 12 ?_;refine iG 13 ?_;refine iG 14 ?_;refine mG 15 rfl (jr bB (.tmp 92) rfl rfl (λX h=>aR.style (At.out S9.out n4 h.1))) ?_;refine iG 16 ?_;refine iG 17 ?_;refine iG 18 ?_;refine iG 19 ?_;refine tk1 20 ?_;refine aj.Step.call eD (oD _) ?_;rintro e' Az ⟨rfl,hb⟩;have NR:At Az R (.cells cs2 216):=At.keep (At.drew NW) hb;have KW:Out (λb=>b=R) xY Az:=Out.trans' ((Out.refl _ xY).drew) (Out.of_below (M:=λ_=>False) hb) λ_ _ q=>q.elim;have c13:Az.cell? ⟨R,q+k*17+12,none⟩=some (.pointer x.bx):=(hb.cell (p:=⟨R,_,none⟩) agX).trans c12;have ai9:Out (λb=>b=R) xY Az/\Az.cell? ⟨R,q+k*17+12,none⟩=some (.pointer x.bx):=⟨KW,c13⟩;refine⟨_,rfl,λ_=>ai9,?_⟩
    (try simp only[bV,bW,bX,tks])
    refine iG 21 ?_;refine iG 22 ?_;refine tk1 23 ?_;refine aj.Step.skip (bH (q:=q+k*17) BG (.tmp 100) (.tmp 98) rfl rfl rfl NR (iU it) ab8.out (DX it)) ?_;have ab9:=At.setRow NR (splice cs2 (q+k*17) (x8 it));have vX:Out (λb=>b=R) Az (Az.setRow R (splice cs2 (q+k*17) (x8 it))):=Out.setRow (M:=λb=>b=R) (Out.refl _ _) rfl _;have c14:(Az.setRow R (splice cs2 (q+k*17) (x8 it))).cell? ⟨R,q+k*17+12,none⟩=some (.pointer x.bx):=by
     have h1:=jd (cs:=cs2) (vs:=x8 it) (q:=q+k*17) (k:=q+k*17+12) (by rw[iU];exact ab8.out) (.inr (by rw[iU];omega));rw[ab9.cell,h1,<-NR.cell];exact c13
    refine⟨λ_=>⟨KW.trans vX,c14⟩,?_⟩
    (try simp only[bV,bW,bX,tks])
    refine jk ?_;have LK:=KW.trans vX;have ai':k<((Fj (Wz B f z i0 i1) yu k).set k { x with ld:=ly }).length:=by rw[List.length_set];exact hkc
    have FL:=agV.out.ac1 ai' it;rw[List.getElem_set_self,List.set_set]at FL
    have aen:Hid (gV (splice cs2 (q+k*17) (x8 it)) q (Fj (Wz B f z i0 i1) yu (k+1))):=ah (by
     rw[<-zZ _ _ hkx,HX.out];have e:Wz B f z i0 i1 x={ x with ld:=ly,it:=it }:=by
      unfold Wz Ji;rw[yV,xS,HSX.out,<-hit,<-Nq,sK,<-He];rfl
     rw[e]
     exact FL.1)
    have QN:=vW.own (M:=λb=>b=R) LK λb hb h=>by subst h;exact⟨sG,uN⟩
    have B14:=B12.out (M:=λb=>b=R) n2 LK;have C14:=LM.out (M:=λb=>b=R) ak LK;have agY:=ah (SY.out.out (M:=λb=>b=R) ak LK);have ab4:=aK H8 LK.size;generalize Az.setRow R (splice cs2 (q+k*17) (x8 it))=w14 at *;generalize splice cs2 (q+k*17) (x8 it)=cs4 at *;clear hx FL NW NR KW vX LK c12 c13 c14 vW B12 LM SY S9 l0 aA aB aY oD lbx agX H8 Nq He hit xS yV agV hC;go_wp2
    go_roundw
    case rel=>exact⟨k+1,n2',P2,cs4,by omega,by go_num,by omega,QN,KR,ab4,ab9,aen,B14,C14,agY⟩
    case measure=>simp[intOf];omega
  . obtain rfl:k=m:=by omega
    have Vj:Hid (gV cs' q xs1):=ah (by
     have:=hC.out;rw[<-HL0.out,KA,<-TL.out]at this
     exact this)
    have hn1:n'<=n+jw B f yu k:=hn';have agZ:=ah yX;have hRr:=hSr.ro uo wu.out hkm;have KI:wr.cell? ⟨T,46,none⟩=some (.int .i64 (s.c 46)):=(hST.out.cell 46).trans (dG s ak rfl);have lTr:=hST.out.lt;have Dk:=hAr.lt;have ag0:Calls ja0 138 #[.slice (some ⟨R,q,none⟩) k k,.agg #[i0,i1],s.c 46] wr λe w'=>(∃b,e=.returned (.slice (some ⟨b,0,none⟩) k k)/\wr.heap.size<=b/\Ints w' (some ⟨b,0,none⟩) sz)/\Below wr wr w':=by
     have hg:∀i,i<fl.length->fl.getD i 0=fl[i]! := λi h=>by simp[List.getD,h]
     have hG:∀i (h:i<xs1.length),xs1[i]=Wz B f z i0 i1 (wZ Y B i0 (fl.getD i 0)):=λi h=>by
      have h':i<fl.length:=by have:=BK.out;have:=HM.out;omega
      have e1:=TL.out;subst e1;have e0:=HX0.out;subst e0;simp[iQ,List.getD,List.getElem?_eq_getElem h']
     have h1:=abP (some ⟨R,q,none⟩) xs1 k i0 i1 (s.c 46) (λi=>Ji B f z i0 i1 (fl.getD i 0)) (λi=>Fw.Uh B i0 1 (fl.getD i 0)) (λi=>(B (fl.getD i 0)).sty) wr (Vj.out.ims hAr) (by rw[BK.out];omega) (λi h=>by rw[hG i h];rfl) (λi h=>by rw[hG i h];rfl) (λi h=>by
      have ho:=KJ.out xs1[i] (List.getElem_mem _);have hb:=(hRr.box _ ho.d).1;rw[<-ho.bx]at hb;have e:xs1[i].ld.id=fl.getD i 0:=by rw[hG i h];rfl
      have e2:(B xs1[i].ld.id).sty=(B (fl.getD i 0)).sty:=by rw[e]
      rw[e2]at hb
      exact⟨_,_,_,hb⟩)
     rw[BK.out]at h1;have e:Ab (λi=>Ji B f z i0 i1 (fl.getD i 0)) (λi=>Fw.Uh B i0 1 (fl.getD i 0)) k i1 (s.c 46)=sz:=by rw[<-HSZ.out];unfold clS;rw[HM.out,Qj.out]
     rw[e]at h1;exact h1
    obtain⟨l0,aA,aB,aY⟩:=At.three A0;have qD:=ah hSr;have akD:k<=64:=hl;clear hC hn' hlt hRr hSr yX HI4
    go_upto_region 12 with(go_at_call 138;(with_reducible refine ag0.mono ?_);rintro e' w5 ⟨⟨bz,rfl,gbz,zq⟩,hb5⟩)
    have hS5:=qD.out.after hb5;have yR:=hAr.keep hb5;have B5:=A0.keep hb5;have C5:=A4.keep hb5;have QE:=ah (hST.out.keep hb5);have ag1:=ah zq;have WA:N4<=w5.heap.size:=aK Gx hb5.size;have gz:N4<=bz:=aK Gx gbz;clear ag0 hb5 zq qD hAr A0 A4 hST Gx gbz l0 aA aB aY KI lTr Dk
    go_loopw [109] (λiv wr=>∃(j n2:Nat) (P2:Nat->Prop) (cs2:Array Value),j<=k/\iv=.int .i64 j/\n2<=n+jw B f yu k+jw B f xs1 j/\qR Y B F w P n2 P2 wr/\(∀b,b<N4->P2 b->P b)/\N4<=wr.heap.size/\At wr R (.cells cs2 216)/\Hid (gV cs2 q (tT (clB B f z i0 i1 sz) xs1 j))/\At wr w (.cells #[z,i0,i1] 86)/\At wr (w.heap.size+1) (.cells #[.slice none 0 0,()] 147)/\Hid (At wr T (.cells (cells s) 59))/\Hid (Ints wr (some ⟨bz,0,none⟩) sz)) (λiv _=>k-(intOf iv).toNat)
    case atStart=>exact⟨0,n',P',cs',gF _,rfl,by have h0:jw B f xs1 0=0:=rfl;omega,hS5,agZ.out,WA,yR,ah (by rw[BI];exact Vj.out),B5,C5,QE,ag1⟩
    case round =>
     clear hS5 yR B5 C5 QE ag1 Vj agZ hn1 WA;obtain⟨j,n2,P2,cs2,hj,rfl,hn2,hSr,yX,Gx,hAr,hC,A0,A4,hST,zq⟩:=hrel;by_cases hlt:j<k
     . have hltz:(j:Int)<(k:Int):=by omega
       have hjx:j<xs1.length:=by rw[BK.out];exact hlt
       have hjc:j<(tT (clB B f z i0 i1 sz) xs1 j).length:=by rw[jc];exact hjx
       have qU:=hC.out.at_ hAr hjc;rw[qE _ _ hjx]at qU;obtain⟨x,hx⟩:=aC (xs1[j]);have mV:=ah (KJ.out x (hx▸List.getElem_mem _));rw[hx]at qU;have HX:=ah hx;have qD:=ah hSr;have hRr:=hSr.ro uo wu.out hkm;have hbx:=(hRr.box x.ld.id mV.out.d).1;rw[<-mV.out.bx]at hbx;obtain⟨sx,hsx⟩:=aC ((B x.ld.id).sty);rw[hsx]at hbx;generalize Y.vf x.ld.id=vf at hbx;generalize Y.va x.ld.id=va at hbx;generalize (B x.ld.id).ib=ib at hbx;have HSX:=ah hsx;have qM:=ah hbx;have yh:¬ P2 R:=λh=>Yr (yX R lR4 h);have Dk:=hAr.lt;have Nu:wr.cell? ⟨R,q+j*17+12,none⟩=some (.pointer x.bx):=(qU 12 ak).trans rfl;have SI:wr.cell? ⟨R,q+j*17+5,none⟩=some (.int .i64 x.ld.id):=(qU 5 ak).trans rfl;obtain⟨lz,cz⟩:=lints zq.out (by rw[HLZ.out];exact hlt);obtain⟨v,hv⟩:=aC (sz.getD j 0);rw[hv]at cz;obtain⟨l0,aA,aB,aY⟩:=At.three A0;clear hRr hbx qU hsx hx hSr
       go_upto_region 15 with(fail)
       clear cz lz;have yM:=λX (h:Below wr wr X)=>SK hK z x.ld.id i0 i1 hz mV.out.d x.bx mV.out.bx X ((qD.out.after h).ro uo wu.out hkm);obtain⟨cs0,yV⟩:=aC (Fw.nP B z i0 x.ld.id);simp only[yV]at yM;refine aj.iJ (λa0 a W5=>∃(U:Nat) (ag2 ag3 u119 ag4 ag5 ag6 ag7:Value),a={ a0 with tmps:=(((((((a0.tmps.setIfInBounds 117 ag2).setIfInBounds 118 ag3).setIfInBounds 119 u119).setIfInBounds 120 ag4).setIfInBounds 121 ag5).setIfInBounds 122 ag6).setIfInBounds 123 ag7).setIfInBounds 13 (.pointer U) }/\wr.heap.size<=U/\At W5 U (.cells #[cs0,.int .i64 (-1)] 81)/\Below wr wr W5) ?_ ?_
       . have hSd:Below wr wr wr.drew:=Below.drew aG
         refine jy (S:=λX=>Below wr wr X) 9 ?_ ?_
         . exact hSd
         intro hx;clear hSd;refine aS 0 ?_;refine aS 1 ?_;refine aS 2 ?_;refine aS 3 ?_;refine aS 4 ?_;refine aS 5 ?_;clear Nu SI l0 aA aB aY qM hC hST zq A0 A4 hAr;refine tk2 6 7 ?_ ?_
         . refine aj.Step.call eD (yM _ hx) ?_
           rintro e' w9 ⟨rfl,hb⟩;replace hx:=Below.ay hx aF hb;clear hb;refine⟨_,rfl,λ_=>hx,?_⟩
           (try simp only[bV,bW,bX,tks])
           refine tk1 7 ?_;refine aj.Step.value (u:=.pointer w9) (w':=w9.alloc (.cells #[(),()] 81)) eD ?_;obtain⟨jD,vZ,AT,iM,gT⟩:∃jD,jD=w9.alloc (.cells #[(),()] 81)/\At jD w9 (.cells #[(),()] 81)/\Below w9 w9 jD/\wr.heap.size<=w9.heap.size:=⟨_,rfl,At.new _ _,aD aG _,hx.size⟩;rw[<-vZ];clear vZ;replace hx:=Below.ay hx aF iM;generalize w9.heap.size=U at *;refine⟨λ_=>hx,?_⟩;exact Zv
         . refine aj.Step.value (u:=.pointer wr.drew) (w':=wr.drew.alloc (.cells #[(),()] 81)) eD ?_
           obtain⟨jD,vZ,AT,iM,gT⟩:∃jD,jD=wr.drew.alloc (.cells #[(),()] 81)/\At jD wr.drew (.cells #[(),()] 81)/\Below wr.drew wr.drew jD/\wr.heap.size<=wr.drew.heap.size:=⟨_,rfl,At.new _ _,aD aG _,hx.size⟩;rw[<-vZ];clear vZ;replace hx:=Below.ay hx aF iM;generalize wr.drew.heap.size=U at *;refine⟨λ_=>hx,?_⟩
           (try simp only[bV,bW,bX,tks])
           refine tk1 6 ?_;refine aj.Step.call eD (yM _ hx) ?_;rintro e' w9 ⟨rfl,hb⟩;replace hx:=Below.ay hx aF hb;replace AT:=AT.keep hb;clear hb;refine⟨_,rfl,λ_=>hx,?_⟩;exact Zv
       . rintro a W9 ⟨U,ag2,ag3,u119,ag4,ag5,ag6,ag7,rfl,gU,AU,iM⟩
         simp only[List.setIfInBounds_toArray,List.set_cons_zero,List.set_cons_succ];clear yM Nu SI l0 aA aB aY
         have HIM:Hid (sD wr R (q+j*17) x):=ah (by
          have h:=hC.out.at_ hAr hjc;rw[qE _ _ hjx,HX.out]at h
          exact h)
         have ag8:=ah (aR.keep qM.out iM);have lR9:=bA Dk iM.size;have Nu:W9.cell? ⟨R,q+j*17+12,none⟩=some (.pointer x.bx):=(iM.cell (p:=⟨R,_,none⟩) Dk).trans ((HIM.out 12 ak).trans rfl);obtain⟨l2,aL,aM,aP,aQ,bO,bP,bM,bN⟩:=At.bx1 ag8.out;clear aL aM aP aQ bO bP;have vV:=λX=>eT (Fw.ed sx 0) (Fw.ed sx 2) X;obtain⟨e02,He⟩:=aC (Fw.wr (Fw.ed sx 0+Fw.ed sx 2));simp only[He]at vV;obtain⟨t1,ht1⟩:=aC (IntKind.i64.wrap (v+e02))
         go_upto_region 17 with(go_at_call 71;(with_reducible refine(vV _).mono ?_);rintro e' jD ⟨rfl,jK⟩;replace AU:=AU.keep jK;obtain⟨lU,cU0,cU1⟩:=At.two AU;have zU1:=AU.thaw 1)
         generalize hW:ja4 _ _ _=Dn;replace AU:At Dn U (.cells #[cs0,t1] 81):=hW▸At.set AU 1 _;have iA:Below wr wr Dn:=by
          rw[<-hW];exact Below.setCell (Below.ay iM aF jK) gU _
         clear hW jK iM ag8 lR9 Nu l2 bM bN vV cU0 cU1 zU1 lU;obtain⟨lU,cU0,cU1⟩:=At.two AU;have ag9:=ah (qD.out.after iA);have pF:=hAr.keep iA;have B11:=A0.keep iA;have NK:=A4.keep iA;have vQ:=ah (hST.out.keep iA)
         have Jf:=ah (zq.out.keep iA λ_ a ha=>by
          have h:=lints zq.out (by rw[HLZ.out];exact hlt);injection ha with ha;rw[<-ha]
          exact h.1)
         have SI:Dn.cell? ⟨R,q+j*17+5,none⟩=some (.int .i64 x.ld.id):=(iA.cell (p:=⟨R,_,none⟩) Dk).trans ((HIM.out 5 ak).trans rfl);have ag':=iA.size;obtain⟨l0,aA,aB,aY⟩:=At.three B11;have hcs1:=tO B f xs1 hjx;rw[HX.out]at hcs1;have hcs2:=xU B f xs1 (j+1);rw[BK.out,WE.out k,HCS.out]at hcs2;have akE:=HCS.out;have hnn:=HN.out;obtain⟨ly,xS⟩:=aC (Fw.lay B f x.ld.id i0 i1 cs0 t1);have LX:ly.id=x.ld.id:=by rw[<-xS];rfl
         have O7:=ah (show q+j*17+5+7<=cs2.size by have:=hC.out.1;rw[jc]at this;have h2:j*17+17<=xs1.length*17:=ak;omega);have n1:w.heap.size≠Y.pm:=by omega
         have n2':w.heap.size≠R:=by omega
         have n5:U≠Y.pm:=by omega
         have n6:U≠R:=by omega
         have hSd:Out (λb=>b=Y.pm\/b=R) Dn Dn.drew/\Dn.drew.cell? ⟨R,q+j*17+5,none⟩=some (.int .i64 x.ld.id)/\True:=⟨(Out.refl _ _).drew,SI,trivial⟩;clear iA HIM qM hAr A0 A4 hST zq;refine jy (S:=λX=>Out (λb=>b=Y.pm\/b=R) Dn X/\X.cell? ⟨R,q+j*17+5,none⟩=some (.int .i64 x.ld.id)/\True) 15 ?_ ?_
         . exact hSd
         intro hx;clear hSd;refine iG 0 ?_;refine iG 1 ?_;refine iG 2 ?_;refine iG 3 ?_;refine iG 4 ?_;refine iG 5 ?_;refine iG 6 ?_;refine iG 7 ?_;refine iG 8 ?_;refine iG 9 ?_;refine iG 10 ?_;have sF:=tQ hL uo wu.out hkm (ag9.out.after ((Below.refl Dn.heap.size Dn).drew)) x.ld.id i0 i1 cs0 t1 mV.out.d mV.out.f ak;rw[xS]at sF;refine tk1 11 ?_;refine aj.Step.call eD sF ?_;rintro e' jD ⟨rfl,n3',P3,hn3,nZ,Jd,mq⟩;have Wy:R<Dn.drew.heap.size:=pF.lt;have oq:At jD R (.cells cs2 216):=At.out (M:=λb=>b=Y.pm) (At.drew pF) ak mq;have vP:jD.cell? ⟨R,q+j*17+5,none⟩=some (.int .i64 x.ld.id):=(Out.cell mq (q+j*17+5) Wy ak).trans SI;have qF:Out (λb=>b=Y.pm\/b=R) Dn jD:=((Out.refl _ Dn).drew).trans (mq.mono λb _ h => .inl h);refine⟨_,rfl,λ_=>⟨qF,vP,trivial⟩,?_⟩
         (try simp only[bV,bW,bX,tks])
         have KF:Out (λb=>b=Y.pm\/b=R) Dn jD/\jD.cell? ⟨R,q+j*17+5,none⟩=some (.int .i64 x.ld.id)/\True:=⟨qF,vP,trivial⟩;refine iG 12 ?_;refine iG 13 ?_;refine tk1 14 ?_;refine aj.Step.skip (bH oC (.tmp 149) (.tmp 147) rfl rfl rfl oq (dW ly) O7.out (pY ly)) ?_;have NW:At (jD.setRow R (splice cs2 (q+j*17+5) (fH ly))) R (.cells (splice cs2 (q+j*17+5) (fH ly)) 216):=At.setRow oq _;have pJ:Out (λb=>b=R) jD (jD.setRow R (splice cs2 (q+j*17+5) (fH ly))):=Out.setRow (M:=λb=>b=R) (Out.refl _ _) rfl _;have adb:(jD.setRow R (splice cs2 (q+j*17+5) (fH ly))).cell? ⟨R,q+j*17+5,none⟩=some (.int .i64 x.ld.id):=by
          have h1:=om (cs:=cs2) (vs:=fH ly) (q:=q+j*17+5) (j:=0) Z4q (by rw[dW];omega);rw[Nat.add_zero]at h1;rw[NW.cell,h1,<-LX];rfl
         have hOr:=qF.trans (pJ.mono λb _ h => .inr h);refine⟨λ_=>⟨hOr,adb,trivial⟩,?_⟩
         (try simp only[bV,bW,bX,tks])
         refine jk ?_;have sG:¬ P3 R:=λh=>yh (Jd R Wy h);have hput:=hC.out.SC hjc ly;rw[qE _ _ hjx,HX.out]at hput
         have aja:Hid (gV (splice cs2 (q+j*17+5) (fH ly)) q (tT (clB B f z i0 i1 sz) xs1 (j+1))):=ah (by
          rw[<-BH _ _ hjx,HX.out];have e:clB B f z i0 i1 sz j x={ x with ld:=ly }:=by
           unfold clB;rw[hv,yV,HSX.out,<-xS,<-ht1,sK,<-He];rfl
          rw[e]
          exact hput.1)
         have vW:=nZ.own (M:=λb=>b=R) pJ λb hb h=>by subst h;exact⟨sG,uN⟩
         have B12:=B11.out (M:=λb=>b=Y.pm\/b=R) ak hOr;have LM:=NK.out (M:=λb=>b=Y.pm\/b=R) ak hOr;have SY:=ah (vQ.out.out (M:=λb=>b=Y.pm\/b=R) ak hOr);have aha:=ah (xk Jf.out hOr ak);have KR:∀b,b<N4->P3 b->P b:=λb hb h=>yX b hb (Jd b (by show b<Dn.heap.size;omega) h);have H8:N4<=(jD.setRow R (splice cs2 (q+j*17+5) (fH ly))).heap.size:=aK (aK Gx ag') hOr.size;generalize jD.setRow R (splice cs2 (q+j*17+5) (fH ly))=xY at *;generalize splice cs2 (q+j*17+5) (fH ly)=BL at *;clear hx KF hput oq pJ adb vP mq qF hOr Jd nZ sF l0 aA aB aY SI pF B11 NK vQ Jf hC lU cU0 cU1 AU ag9;go_wp2
         go_roundw
         case rel=>exact⟨j+1,n3',P3,BL,by omega,by go_num,by omega,vW,KR,H8,NW,aja,B12,LM,SY,aha⟩
         case measure=>simp[intOf];omega
     . obtain rfl:j=k:=by omega
       have hC2:Hid (gV cs2 q xs2):=ah (by
        have:=hC.out;rw[<-BK.out,Fv,<-HX2.out]at this
        exact this)
       have HN2:Hid (n2<=n+2*(fl.map (Fw.cst B f)).sum):=ah (by
        have h1:=hn2;rw[WE.out j,HCS.out]at h1
        omega)
       have yh:¬ P2 R:=λh=>Yr (yX R lR4 h);have hPN:=ah (show¬ P2 (w.heap.size+1)from λh=>by have:=hP _ (yX _ ak h);omega);have qD:=ah hSr;have ab':=ah hSr.lt;have hb6:Below wr wr (wr.alloc (.cells #[.int .i64 1] 3)):=aD aG _;have vU:At (wr.alloc (.cells #[.int .i64 1] 3)) wr.heap.size (.cells #[.int .i64 1] 3):=At.new _ _;have FJ:=Yh (some ⟨R,q,none⟩) xs2 j wr.heap.size _ ((hC2.out.ims hAr).after hb6) (by rw[HL2.out];omega) (vU.cell 0) vU.lt;rw[HL2.out]at FJ;have hs6:=hb6.size;clear hC hn2 hlt hSr yX vU
       go_upto_region 20 with(first|(go_at_call 139;(with_reducible refine(oZ 1 _).mono ?_);rintro e w1 ⟨rfl,rfl⟩)|(go_at_call 134;(with_reducible refine FJ.mono ?_);rintro e' w7 ⟨⟨bt,rfl,gbt,hT⟩,pG⟩))
       have NY:Below wr wr w7:=hb6.trans (pG.mono hs6);have elg:long.length=j:=by rw[<-HLG.out];simp[o7,HL2.out]
       have hIt:Ints w7 (some ⟨bt,0,none⟩) long:=by
        have h1:=iI _ _ LY hT;have h2:=tV (o7 xs2);rw[HLG.out,elg]at h2;rw[HLG.out,h2]at h1;exact h1
       have hS7:=qD.out.after NY;have OO:=hAr.keep NY;have B7:=A0.keep NY;have C7:=A4.keep NY;have ace:=ah (hST.out.keep NY);have hN7:N4<=w7.heap.size:=aK Gx NY.size;have hP7:=ah (λb (h:P2 b)=>bA (ab'.out b h) NY.size);have HIt:=ah hIt;clear FJ hb6 pG hT gbt hs6 qD hAr A0 A4 hST Gx ab' NY hIt zq;have KI:w7.cell? ⟨T,46,none⟩=some (.int .i64 (s.c 46)):=(ace.out.cell 46).trans (dG s ak rfl);have lT7:=ace.out.lt;have Vb:∀X,(Instr.build 147 #[(1,.int .i64 high)]).run ja0 X=.ok (.agg #[.slice none 0 0,high]) X:=λ_=>by kernel_rfl
       have nY:=Nz (some ⟨bt,0,none⟩) long j j (s.c 46) w7 HIt.out elg aF ak;rw[HHI.out]at nY;have ELG:=ah elg;clear elg
       go_upto_region 21 with(go_at_call 140;(with_reducible refine nY.mono ?_);rintro e w8 ⟨rfl,rfl⟩)
       generalize hW:ja5 _ _=w9;obtain⟨Cb,hCb⟩:=aC w7.heap.size;have AC:At w9 Cb (.cells #[.slice none 0 0,high] 147):=hW▸At.new' _ hCb.symm;have iM:Below w7 w7 w9:=hW▸aD aG _;have hPC:¬ P2 Cb:=λh=>by have:=hP7.out Cb h;omega
       have gC:N4<=Cb:=by omega
       rw[hCb];have Hf:=hS7.after iM;have qO:=OO.keep iM;have B9:=B7.keep iM;have C9:=C7.keep iM;have YD:=ah (ace.out.keep iM);have ahb:=ah (HIt.out.after iM);have hN9:N4<=w9.heap.size:=aK hN7 iM.size;clear hW nY Vb iM hS7 OO B7 C7 ace HIt KI lT7 hCb hP7 hN7;obtain⟨l0,aA,aB,aY⟩:=At.three B9;obtain⟨lC,Hz,H7⟩:=At.two AC
       go_upto_if 163 with(fail)
       go_cut [16]from 162 to 166 (λv w2=>v=.int .i64 room/\Below w9 w9 w2)
       case first =>
        by_cases hh:i1 = -1
        . have e1:=HRM.out
          rw[if_pos hh]at e1;exact Z3h
        . have e1:=HRM.out
          rw[if_neg hh]at e1;exact Z3h
       case rest =>
        obtain⟨rfl,jK⟩:=hcut;have nZ:=Hf.after jK;have oq:=qO.keep jK;have B10:=B9.keep jK;have OT:=C9.keep jK;have Af:=AC.keep jK;have FM:=ah (YD.out.keep jK);have FH:N4<=wc.heap.size:=aK hN9 jK.size;have ajb:=nZ.lt;have aeb:wc.cell? ⟨T,43,none⟩=some (.int .i64 (s.c 43)):=(FM.out.cell 43).trans (dG s ak rfl);have KI:wc.cell? ⟨T,46,none⟩=some (.int .i64 (s.c 46)):=(FM.out.cell 46).trans (dG s ak rfl);have ajc:=FM.out.lt;have Vk:=Fu (some ⟨bt,0,none⟩) long j j (s.c 43) room (s.c 46) wc (ahb.out.after jK) ELG.out aF ak;have e:Ju.row (Ju.starts (s.c 43) room (s.c 46) long) j=st:=by rw[<-HST.out,HL2.out]
        rw[e]at Vk;clear e Hf qO B9 C9 AC YD ahb hN9 jK l0 aA aB aY lC Hz H7
        go_upto_region 25 with(go_at_call 141;(with_reducible refine Vk.mono ?_);rintro e' rP ⟨⟨bst,rfl,ajd,QF⟩,iA⟩)
        have sH:=nZ.after iA;have pF:=oq.keep iA;have B11:=B10.keep iA;have NK:=OT.keep iA;have KT:=Af.keep iA;have vQ:=ah (FM.out.keep iA);have Y7:=ah QF;obtain⟨N5,WA⟩:=aC rP.heap.size;have DW:∀b,P2 b->b<N5:=λb h=>by have h1:=sH.lt b h;rw[WA]at h1;exact h1
        have akF:N4<=N5:=by have:=iA.size;omega
        have lC5:Cb<N5:=by have:=KT.lt;omega
        have aje:st≠[]->bst<N5:=λh=>by
         obtain⟨b',o',e,hl,hc⟩:=Ints.at_ QF (k:=0) (List.length_pos_iff.2 h);injection e with e;injection e with e1 e2;omega
        have HN5:=ah WA;have HP5:=ah DW;have ajf:=ah hPC;have hXL:Hid (xs.length=j):=ah (by rw[<-HXS.out.1,List.length_mapIdx,HL2.out]);have nst:bst≠Cb:=by have:=Af.lt;omega
        clear Vk iA nZ oq B10 OT Af FM QF ajd ajb FH aeb KI ajc WA DW hPC
        go_loopw [174] (λiv wr=>∃(i:Nat) (v:Value),i<=j/\iv=.int .i64 i/\qR Y B F w P n2 P2 wr/\At wr R (.cells cs2 216)/\At wr Cb (.cells #[v,high] 147)/\Hid (wr.ownsRow N5 88 7 v (xs.take i).length (yt (xs.take i)))/\At wr w (.cells #[z,i0,i1] 86)/\At wr (w.heap.size+1) (.cells #[.slice none 0 0,()] 147)/\Hid (At wr T (.cells (cells s) 59))/\Hid (Ints wr (some ⟨bst,0,none⟩) st)/\N5<=wr.heap.size) (λiv _=>j-(intOf iv).toNat)
        case atStart=>exact⟨0,.slice none 0 0,gF _,rfl,sH,pF,KT,ah (World.ownsRow_nil _ _ _ _),B11,NK,vQ,Y7,by rw[HN5.out];exact aO _⟩
        case round =>
         clear sH pF KT B11 NK vQ Y7;obtain⟨i,v,hi,rfl,hSr,hAr,AC,hown,A0,A4,hST,zq,Gx⟩:=hrel;by_cases hlt:i<j
         . have hltz:(i:Int)<(j:Int):=by omega
           have hix:i<xs2.length:=by rw[HL2.out];exact hlt
           have qU:=hC2.out.at_ hAr hix;obtain⟨x,hx⟩:=aC (xs2[i]);rw[hx]at qU;have HX:=ah hx;have qD:=ah hSr;obtain⟨lz,cz⟩:=lints zq.out (by rw[D9.out];exact hlt);obtain⟨v0,hv0⟩:=aC (st.getD i 0);rw[hv0]at cz;have HV0:=ah hv0;have Dk:=hAr.lt;clear hx hSr hv0
           go_upto_region 28 with(first|(refine dQ bB _ rfl rfl (by with_reducible assumption) ?_)|(refine dJ bB rfl ?_)|(refine dI bB _ _ rfl rfl rfl Z4u ?_))
           generalize hW:World.setRow _ _ _=W3;obtain⟨Q,hQ⟩:=aC wr.heap.size;have AQ:At W3 Q (.cells (nW x) 216):=hW▸hQ▸At.setRow (At.new _ _) _;have hb3:Below wr wr W3:=hW▸aU (aD aG _) aF _;have gQ:wr.heap.size<=Q:=Nat.le_of_eq hQ;have gQ2:Q<=wr.heap.size:=Nat.le_of_eq hQ.symm;rw[hQ];clear hW hQ qU cz lz Dk;have aeB:=ah (hST.out.keep hb3);have B3:=A0.keep hb3;have YB:W3.cell? ⟨T,44,none⟩=some (.int .i64 (s.c 44)):=(aeB.out.cell 44).trans (dG s ak rfl);have lT3:=aeB.out.lt;have lQ:=AQ.lt;have hIQ:Hid (sD W3 Q 0 x):=ah λj hj=>by rw[Nat.zero_add];exact AQ.cell j
           obtain⟨l0,aA,aB,aY⟩:=At.three B3;have hSd:Below W3 W3 W3.drew:=Below.drew aG;refine jy (S:=λX=>Below W3 W3 X) 10 ?_ ?_
           . exact hSd
           intro hx;clear hSd;refine aS 0 ?_;refine aS 1 ?_;refine mG 3 rfl (Fh (.tmp 19) bB rfl rfl (λX h=>sD.keep hIQ.out h lQ)) ?_;refine aS 5 ?_;refine aS 6 ?_;refine aS 7 ?_;refine tk1 2 ?_;refine aj.Step.call eD (oZ 0 _) ?_;rintro e' w7 ⟨rfl,hw7⟩;have pG:Below W3.drew W3.drew w7:=hw7▸aD aG _;have AB:At w7 W3.drew (.cells #[()] 3):=hw7▸At.new _ _;clear hw7;replace hx:=Below.ay hx aF pG;generalize W3.drew.heap.size=Bq at *;refine⟨_,rfl,λ_=>hx,?_⟩
           (try simp only[bV,bW,bX,tks])
           refine tk1 4 ?_;refine aj.Step.call eD (Sz x Bq w7 (AB.cell 0)) ?_;rintro e' w8 ⟨rfl,yc⟩;replace hx:=Below.ay hx aF yc;refine⟨_,rfl,λ_=>hx,?_⟩
           (try simp only[bV,bW,bX,tks])
           refine tk1 8 ?_;refine aj.Step.call eD (Ct (s.c 44) (Cn x) i0 w8) ?_;rintro e' w9 ⟨rfl,rfl⟩;refine⟨_,rfl,λ_=>hx,?_⟩
           (try simp only[bV,bW,bX,tks])
           refine aS 9 ?_;refine jk ?_;have ahc:Below wr wr w8:=Below.ay hb3 aF hx;have AQ8:=AQ.keep hx;clear pG yc AB hx aeB B3 YB lT3 l0 aA aB aY hIQ AQ lQ hb3;obtain⟨la,hla⟩:=aC (Ju.across (s.c 44) (Cn x) i0);rw[hla];obtain⟨p0,hp0⟩:=aC (IntKind.i64.wrap (la+x.m0));obtain⟨p1,hp1⟩:=aC (IntKind.i64.wrap (v0+x.m2));obtain⟨y,hy⟩:∃y:Fw.Ld,{ x.ld with a0:=p0,a1:=p1 }=y:=⟨_,rfl⟩;have HY:Hid (clE (s.c 44) i0 st i x=y):=ah (by unfold clE;rw[HV0.out,hla,<-sK (v0+x.m2),<-sK (la+x.m0),hp0,hp1];exact hy)
           have HTK:Hid (xs.take (i+1)=xs.take i++[y]):=ah (by
            have hxi:i<xs.length:=by rw[hXL.out];exact hlt
            rw[List.take_succ_eq_append_getElem hxi];congr 2;have e:=HXS.out.1;have e2:xs[i]=clE (s.c 44) i0 st i xs2[i]:=by subst e;simp
            rw[e2,HX.out,HY.out])
           have lQ8:=AQ8.lt;have c13:w8.cell? ⟨Q,13,none⟩=some (.int .i64 x.m0):=(AQ8.cell 13).trans rfl;have c15:w8.cell? ⟨Q,15,none⟩=some (.int .i64 x.m2):=(AQ8.cell 15).trans rfl;have c10:w8.cell? ⟨Q,10,none⟩=some (.int .i64 x.ld.a0):=(AQ8.cell 10).trans rfl;have c11:w8.cell? ⟨Q,11,none⟩=some (.int .i64 x.ld.a1):=(AQ8.cell 11).trans rfl;have z10:=AQ8.thaw 10;have z11:=AQ8.thaw 11
           go_upto_region 30 with(fail)
           generalize hW:ja4 _ _ _=W9;have AQ9:At W9 Q (.cells (nW { x with ld:=y }) 216):=by
            rw[<-hW,<-hy];exact At.set (At.set AQ8 10 _) 11 _
           have iM:Below wr wr W9:=by
            rw[<-hW];exact Below.setCell (Below.setCell ahc gQ _) gQ _
           clear hW lQ8 c13 c15 c10 c11 z10 z11 AQ8 ahc hp0 hp1 hla hy;have NT:=cK (M:=λ_=>False) hown.out (λ_ _ q=>q) (Out.of_below iM);have hs9:=iM.size;obtain⟨g',c',w',hr,hown',hOa⟩:=Vl y NT ak jB;obtain⟨ln,hln⟩:=aC ((xs.take i).length+1);rw[hln]at hr hown';clear hln;have hrun:=ah hr
           have hQL:∀j,j<7->W9.cell? ⟨Q,5+j,none⟩=(fH y)[j]? := λj hj=>by
            rw[AQ9.cell];exact Z29
           have Y5:∀b,v.ownBlock=some b->N5<=b:=λb h=>(hown.out.lt b h).1;have AC9:=AC.keep iM;have ACn:At w' Cb (.cells #[v,high] 147):=At.out (M:=λb=>v.ownBlock=some b) (AC9.alloc _) (λh=>by have:=Y5 Cb h;omega) hOa;obtain⟨lC9,aeu,aev⟩:=At.two AC9;obtain⟨lCn,aew,aex⟩:=At.two ACn;have aey:=ACn.thaw 0;have lQ9:=AQ9.lt;have HQL:=ah hQL;clear hr NT hQL
           go_upto_region 31 with(first|(refine fQ BF oC bB _ rfl rfl (dW y) HQL.out ?_)|(refine vR bB _ rfl rfl ?_)|(at_builtin;refine wpList_append_run bB _ _ 145 rfl rfl rfl hrun.out ?_))
           generalize hW:ja4 _ _ _=NJ;have Af:At NJ Cb (.cells #[.slice g' ln c',high] 147):=hW▸At.set ACn 0 _;have NU:Out (λb=>b=Cb) w' NJ:=hW▸Out.set (M:=λb=>b=Cb) (Out.refl _ _) rfl 0 _
           have QU:Hid (NJ.ownsRow N5 88 7 (.slice g' ln c') (xs.take (i+1)).length (yt (xs.take (i+1)))):=ah (by
            rw[HTK.out]
            exact cK (M:=λb=>b=Cb) hown' (λg hg e=>by have:=(hown'.lt g hg).1;omega) NU)
           have NV:Out (λb=>v.ownBlock=some b\/b=Cb) wr NJ:=(Out.of_below (aD iM _)).trans ((hOa.mono λb _ h => .inl h).trans (NU.mono λb _ h => .inr h))
           have hoff:∀b,b<N5->b≠Cb->¬ (v.ownBlock=some b\/b=Cb):=λb hb hn h=>by
            rcases h with h|h
            . have:=Y5 b h;omega
            . exact hn h
           have nZ:=qD.out.own NV λb hb h=>by
            rcases h with h|h
            . have h1:=Y5 b h
              exact⟨λhp=>by have:=HP5.out b hp;omega,by omega⟩
            . subst h
              exact⟨ajf.out,by omega⟩
           have oq:=hAr.out (hoff R ak ak) NV;have B10:=A0.out (hoff _ ak ak) NV;have OT:=A4.out (hoff _ ak ak) NV;have FM:=ah (hST.out.out (hoff T ak ak) NV);have ahd:=ah (xk zq.out NV (hoff bst (aje (λe=>by have:=D9.out;rw[e]at this;simp at this;omega)) ak));have FH:N5<=NJ.heap.size:=aK Gx NV.size;clear hW ACn NU hown' hOa NV hoff AC9 lC9 aeu aev lCn aew aex aey lQ9 HQL iM hs9 AQ9 hown hAr A0 A4 AC hST zq hrun;go_wp2
           go_roundw
           case rel=>exact⟨i+1,_,by omega,by go_num,nZ,oq,Af,QU,B10,OT,FM,ahd,FH⟩
           case measure=>simp[intOf];omega
         . obtain rfl:i=j:=by omega
           have hfull:xs.take i=xs:=List.take_of_length_le (by rw[hXL.out];exact aO _);rw[hfull]at hown
           have hxne:xs≠[]:=λe=>by
            have h1:=hXL.out;rw[e]at h1;have h2:=HM.out;exact hne (List.length_eq_zero_iff.1 (by rw[h2,<-h1];rfl))
           obtain⟨Rr,cap,csr,rfl,Y5,gR,AR,Jj⟩:=NA hown.out hxne;obtain⟨lC,Hz,H7⟩:=At.two AC;obtain⟨l4,fF,fG⟩:=At.two A4;have je:=A4.thaw 0;have jf:=A4.thaw 1;have lw:w.heap.size+1<wr.heap.size:=A4.lt;have HRC:=ah Jj;have qD:=ah hSr;have hHI:=ah HXS.out.2;clear Jj hown hSr hfull hxne hAr A0 hST zq;go_wp2;generalize hW:ja4 _ _ _=W6;replace A4:At W6 (w.heap.size+1) (.cells #[.slice Rr xs.length cap,high] 147):=hW▸At.set (At.set A4 0 _) 1 _;have SG:Out (λb=>b=w.heap.size+1) wr W6:=by
            exact Z2a
           clear hW fF fG je jf lC Hz H7 AC;have AR6:=AR.out (M:=λb=>b=w.heap.size+1) ak SG;have tX:=qD.out.own SG λb hb h=>by subst h;exact⟨hPN.out,by omega⟩
           obtain⟨l4,fF,fG⟩:=At.two A4;have jM:=tX.fin;have LQ:=tX.kp;have hNw:=tX.new;have aeA:¬ P2 Rr:=λh=>by have:=HP5.out Rr h;omega
           refine bodyPost_ret (v:=.agg #[.slice Rr xs.length cap,high]) (by simp[results,Tryz.results97,go_sem,fF,fG,l4];first|done|exact⟨rfl,rfl⟩|rfl) rfl ⟨Rr,cap,csr,P2,n2,by rw[hHI.out],by omega,AR6,HRC.out,HN2.out,LQ,hNw,aeA,jM⟩
end
structure Wk(B:Int->Fw.Bx)(F:Int->Nat)(D:Int->Prop):Prop where
 down:∀z,D z->∀k∈(B z).fl,D k/\F z=F k+1
 len:∀z,D z->(B z).fl.length<=64
 kind:∀z,D z->(B z).sty.c 0=0\/(B z).sty.c 0=1\/(B z).sty.c 0=2
 deep:∀z,D z->F z<=1000
theorem pI.lt{X:World}{b:Nat}(h:pI X b):b<X.heap.size:=by
 obtain⟨n,g,h1,_⟩:=h;exact h1.lt
section
variable {Y:rF} {B:Int->Fw.Bx} {F:Int->Nat} {D:Int->Prop}
def aeC(Y:rF)(B:Int->Fw.Bx)(F:Int->Nat)(D:Int->Prop)(f:Nat):Prop :=
 ∀(z i0 i1:Int) (w:World) (n:Nat) (P:Nat->Prop),D z->F z=f->Wf i0->Wf i1->RO w Y B D pI->Kp Y B F n P w->(∀b,P b->b<w.heap.size)->n+Fw.cst B f z<maxLen ->
  Calls ja0 67 #[Y.lb,.agg #[z,i0,i1]] w λe w' =>
   ∃v n' P',e=.returned v/\CV w' P' v (Fw.cont B f z i0 i1)/\n'<=n+Fw.cst B f z/\Kp Y B F n' P' w'/\(∀b,P' b->P b\/w.heap.size<=b)/\Out (λb=>b=Y.pm) w w'
theorem acf(B:Int->Fw.Bx)(f:Nat)(z:Int):1<=Fw.cst B f z:=by
 cases f<;>simp only[Fw.cst]<;>omega
theorem ade(W:Wk B F D)(f:Nat)(hL:∀f',f=f'+1->xg Y B F D pI f'):aeC Y B F D f:=by
 intro z i0 i1 w n P hz hf h0 h1 hR Gw hP hn;have hc1:=acf B f z;by_cases hne:(B z).fl=[]
 . have hc:Fw.cont B f z i0 i1=([],(B z).sty.c 54):=by
    cases f with
    | zero=>rfl
    | succ f=>simp only[Fw.cont];rw[if_pos hne]
   refine(Ky pI.keep z i0 i1 hz w hR hne).mono λe w' ⟨he,hb⟩ => ?_;refine⟨_,n,P,he,?_,by omega,Gw.out (M:=λ_=>False) (Out.of_below hb) λ_ _ q=>q,λb h => .inl h,Out.of_below hb⟩;rw[hc];exact⟨none,0,rfl,.inl rfl⟩
 . obtain⟨f',rfl⟩:∃f',f=f'+1:=by
    cases hfl:(B z).fl with
    | nil=>exact absurd hfl hne
    | cons k l =>
      have:=(W.down z hz k (by rw[hfl];simp)).2;exact⟨F k,by omega⟩
   have hdn:∀k∈(B z).fl,D k/\F k=f':=λk hk=>by
    have:=W.down z hz k hk;exact⟨this.1,by omega⟩
   obtain⟨hpP,g,hg,hgv⟩:=Gw;have Gw:Kp Y B F n P w:=⟨hpP,g,hg,hgv⟩;have LP:=hR.wf z hz;cases hgk:g (klit z i0 i1)with
   | some v =>
     have hcv:=hgv z i0 i1 v LP h0 h1 hgk;rw[hf]at hcv;obtain⟨A,cap,rfl,hld⟩:=hcv;refine(Kz pI.keep z i0 i1 hz w hR n h0 h1 hne g hg _ _ _ _ hgk).mono λe w' ⟨he,hb⟩ => ?_;exact⟨_,n,P,he,⟨A,cap,rfl,hld.out (M:=λ_=>False) (Out.of_below hb) (λ_ _ q=>q) λ_ q=>q⟩,by omega,Gw.out (M:=λ_=>False) (Out.of_below hb) λ_ _ q=>q,λb h => .inl h,Out.of_below hb⟩
   | none =>
     obtain⟨xs,hxs⟩:=aC ((Fw.kind B (Fw.lay B f') f' z i0 i1).1);obtain⟨hi,hhi⟩:=aC ((Fw.kind B (Fw.lay B f') f' z i0 i1).2);have hk:Fw.kind B (Fw.lay B f') f' z i0 i1=(xs,hi):=by rw[<-hxs,<-hhi]
     have acg:xs.map (·.id)=(B z).fl:=by rw[<-hxs];exact Fw.Ml B f' z i0 i1
     have hcn:Fw.cont B (F z) z i0 i1=(xs.map (Fw.mv B i0 i1),hi):=by
      rw[hf];simp only[Fw.cont];rw[if_neg hne];show((Fw.kind B (Fw.lay B f') f' z i0 i1).1.map (Fw.mv B i0 i1),(Fw.kind B (Fw.lay B f') f' z i0 i1).2)=_;rw[hxs,hhi]
     have hDx:∀x∈xs,D x.id:=λx hx=>(hdn x.id (by rw[<-acg];exact List.mem_map_of_mem hx)).1;have hlx:xs.length=(B z).fl.length:=by rw[<-acg,List.length_map]
     have aeD:=W.len z hz;have aeE:f'<=1000:=by have:=W.deep z hz;omega
     have abZ:Fw.cst B (f'+1) z=1+3*((B z).fl.map (Fw.cst B f')).sum:=rfl;rw[abZ]at hn hc1 ⊢
     have hxne:xs≠[]:=λe=>by
      rw[e]at acg;exact hne acg.symm
     have key:∀(kf:FuncId),(∀(args:Array Value) (X:World),(callFunc kf args).run ja0 X=.ok (.enter kf args) X)->(∀X,pI X Y.km->(Instr.lookup 91 (.map (some Y.km)) (.int .i64 ((B z).sty.c 0)) false).run ja0 X=.ok (.func (.func kf) #[] #[]) X) ->
       (∀X,RO X Y B D pI->Kp Y B F n P X->(∀b,P b->b<X.heap.size)->Calls ja0 kf #[Y.lb,.agg #[z,i0,i1]] X λe X'=>∃R cap cs P' n',e=.returned (.agg #[.slice (some ⟨R,0,none⟩) xs.length cap,hi])/\X.heap.size<=R/\At X' R (.cells cs 88)/\o8 cs xs/\n'<=n+2*((B z).fl.map (Fw.cst B f')).sum/\Kp Y B F n' P' X'/\(∀b,P' b->P b\/X.heap.size<=b)/\¬ P' R/\Out (λb=>b=Y.pm) X X') ->
       Calls ja0 67 #[Y.lb,.agg #[z,i0,i1]] w λe w' =>
        ∃v n' P',e=.returned v/\CV w' P' v (Fw.cont B (f'+1) z i0 i1)/\n'<=n+(1+3*((B z).fl.map (Fw.cst B f')).sum)/\Kp Y B F n' P' w'/\(∀b,P' b->P b\/w.heap.size<=b)/\Out (λb=>b=Y.pm) w w':=λkf hcf OP hkind =>
      (Ns pI.keep pI.out F z i0 i1 hz w hR n P Gw hP h0 h1 hne kf hcf hR.kinds.lt OP xs hi hcn hDx (2*((B z).fl.map (Fw.cst B f')).sum) ak ak g hg hgk hkind).mono λe w' ⟨v,P',n',h1,h2,h3,h4,h5,h6⟩=>⟨v,n',P',h1,by rw[hf]at h2;exact h2,by omega,h4,h5,h6⟩
     rcases W.kind z hz with hq|hq|hq
     . refine key 95 (λ_ _=>rfl) (λX h=>h.look _ _ (.inl ⟨hq,rfl⟩)) λX hRX hKX hPX => ?_
       refine aej (hL f' rfl) pI.keep pI.out W.down (λz hz=>aK (W.len z hz) ak) aeE hRX hRX.kinds.lt z i0 i1 hz hdn hne aeD n hKX hPX ak xs hi ?_;rw[<-hk];unfold Fw.kind;rw[if_neg ak,if_neg ak]
     . refine key 96 (λ_ _=>rfl) (λX h=>h.look _ _ (.inr (.inl ⟨hq,rfl⟩))) λX hRX hKX hPX => ?_
       refine ai1 (hL f' rfl) pI.keep pI.out hRX hRX.kinds.lt z i0 i1 hz hdn hne aeD n hKX hPX ak xs hi ?_ hxne;rw[<-hk];unfold Fw.kind;rw[if_pos hq]
     . refine key 97 (λ_ _=>rfl) (λX h=>h.look _ _ (.inr (.inr ⟨hq,rfl⟩))) λX hRX hKX hPX => ?_
       refine acd (hL f' rfl) pI.keep pI.out hRX hRX.kinds.lt z i0 i1 hz hdn hne aeD n hKX hPX ak xs hi ?_;rw[<-hk];unfold Fw.kind;rw[if_neg ak,if_pos hq]
theorem Jo(W:Wk B F D)(f:Nat)(hI:aeC Y B F D f):xg Y B F D pI f:=by
 intro z r0 r1 t0 t1 w n P hz hf hR Gw hP hkm hn
 refine(abC (Iv:=λP X=>Kp Y B F n P X/\∀b,P b->b<X.heap.size) (Iv2:=λP X=>∃n',n'<=n+Fw.cst B f z/\Kp Y B F n' P X) pI.keep
  (λ{P M X X'} h k hm=>⟨h.1.out k hm,λb hb=>bA (h.2 b hb) k.size⟩)
  (λ{P M X X'} h k hm=>by obtain⟨n',h1,h2⟩:=h;exact⟨n',h1,h2.out k hm⟩)
  (λ{P X} h=>⟨n,by omega,h.1⟩) P z r0 r1 t0 t1 hz w hR ⟨Gw,hP⟩ hP (Fw.cont B f) ?_).mono λe w' ⟨he,⟨P',⟨n',h1,h2⟩,h3⟩,h4⟩=>⟨he,n',P',h1,h2,h3,h4⟩
 intro X i0 hRX hKX hi0;have hb:=Fw.Es (B z).sty 0 r0 r0 t0;refine(hI z i0 (-1) X n P hz hf (by rw[jZ,hi0];omega) Z4n hRX hKX.1 hKX.2 hn).mono λe X' ⟨v,n',P',he,hcv,hn',hK',hP',hO⟩ => ?_;obtain⟨A,cap,rfl,_⟩:=hcv;exact⟨⟨_,he⟩,⟨P',⟨n',hn',hK'⟩,hP'⟩,hO⟩
theorem KZ(Y:rF)(W:Wk B F D):∀f,aeC Y B F D f/\xg Y B F D pI f:=by
 intro f
 induction f with
 | zero =>
   have h:=ade (Y:=Y) W 0 λf' e=>by omega
   exact⟨h,Jo W 0 h⟩
 | succ f ih =>
   have h:=ade (Y:=Y) W (f+1) λf' e=>by obtain rfl:f=f':=ak;exact ih.2
   exact⟨h,Jo W (f+1) h⟩
end
def Vx(s:Re.St)(y:Nat)(ry r0:Int):Int:=if Fw.LJ s y ry=true\/Fw.Gn s y 0 ry=false\/Fw.Gn s y 1 ry=false then -1 else max (Fw.wr (Fw.wr (Fw.wr (ry-Fw.ins s y 0 ry)-Fw.ins s y 1 ry)-Fw.mgs s y r0)) 0
theorem aeF(b:Nat)(s:Re.St)(fl ap:Value)(ib:Bool)(r0 r1:Int)(w:World)(h:aR w b s fl ap ib):Calls ja0 103 #[b,(),.agg #[r0,r1]] w λx w'=>x=.returned (.int .i64 (Vx s 0 r0 r0))/\Below w w w':=by
 have i0:∀(a b c d:Int) (w:World),(Instr.index 140 (.agg #[a,.int .i64 b,c,d]) (.int .i64 0)).run ja0 w=.ok (.agg #[a,.int .i64 b]) w:=λ_ _ _ _ _=>by kernel_rfl
 have i1:∀(a b c d:Int) (w:World),(Instr.index 140 (.agg #[a,.int .i64 b,c,d]) (.int .i64 1)).run ja0 w=.ok (.agg #[c,d]) w:=λ_ _ _ _ _=>by kernel_rfl
 obtain⟨ans,gy⟩:=aC (Vx s 0 r0 r0);rw[gy];have hfd:Fw.LJ s 0 r0=Fx.dY (s.c 3) r0:=rfl;unfold Vx at gy;rw[hfd]at gy;have fT:=ah gy;clear gy hfd;go_enter Tryz.func103,Tryz.ntmps103
 go_upto_region 1 with(fail)
 generalize hW:ja5 _ _=W0;have A0:At W0 w (.cells #[r0,r1] 81):=hW▸At.new _ _;have A2:aR W0 b s fl ap ib:=hW▸aR.alloc h _;have hB:Below w w W0:=hW▸aD aG _;clear hW h;obtain⟨l0,aA,aB⟩:=A0.two
 go_upto_region 2 with((go_at_call 145;(with_reducible refine(wV b s fl ap ib r0 r1 _ A2).mono ?_);rintro e w3 ⟨rfl,hb⟩))
 replace A0:=A0.keep hb;replace A2:=A2.keep hb;replace hB:=Below.ay hB aF hb;clear l0 aA aB hb;obtain⟨l0,aA,aB⟩:=A0.two
 go_upto_region 3 with((go_at_call 145;(with_reducible refine(zP b s fl ap ib r0 r1 _ A2).mono ?_);rintro e w4 ⟨rfl,hb⟩))
 replace A0:=A0.keep hb;replace A2:=A2.keep hb;replace hB:=Below.ay hB aF hb;clear l0 aA aB hb;obtain⟨l0,aA,aB⟩:=A0.two;obtain⟨l2,aL,aM,aP,aQ,bO,bP,bM,bN⟩:=At.bx0 A2;generalize Fw.ins s 0 0 r0=p0 at *;generalize Fw.ins s 0 1 r0=p1 at *;cases hfx:Fx.dY (s.c 3) r0 with
 | true =>
   have E:Hid (-1=ans):=ah (by rw[<-fT.out,hfx];simp);clear fT;exact Ze
 | false =>
   cases hg0:Fw.Gn s 0 0 r0 with
   | false =>
     have E:Hid (-1=ans):=ah (by rw[<-fT.out,hg0];simp);clear fT hg0;exact Ze
   | true =>
     cases hg1:Fw.Gn s 0 1 r0 with
     | false =>
       have E:Hid (-1=ans):=ah (by rw[<-fT.out,hg1];simp);clear fT hg1 hg0;exact Ze
     | true =>
       have E:Hid (max (Fw.wr (Fw.wr (Fw.wr (r0-p0)-p1)-Fw.mgs s 0 r0)) 0=ans):=ah (by rw[<-fT.out,hfx,hg0,hg1];simp);exact Zp
theorem aeG(b:Nat)(s:Re.St)(fl ap:Value)(ib:Bool)(r0 r1:Int)(w:World)(h:aR w b s fl ap ib):Calls ja0 103 #[b,.int .i64 1,.agg #[r0,r1]] w λx w'=>x=.returned (.int .i64 (Vx s 1 r1 r0))/\Below w w w':=by
 have i0:∀(a b c d:Int) (w:World),(Instr.index 140 (.agg #[a,.int .i64 b,c,d]) (.int .i64 0)).run ja0 w=.ok (.agg #[a,.int .i64 b]) w:=λ_ _ _ _ _=>by kernel_rfl
 have i1:∀(a b c d:Int) (w:World),(Instr.index 140 (.agg #[a,.int .i64 b,c,d]) (.int .i64 1)).run ja0 w=.ok (.agg #[c,d]) w:=λ_ _ _ _ _=>by kernel_rfl
 obtain⟨ans,gy⟩:=aC (Vx s 1 r1 r0);rw[gy];have hfd:Fw.LJ s 1 r1=Fx.dY (s.c 5) r1:=rfl;unfold Vx at gy;rw[hfd]at gy;have fT:=ah gy;clear gy hfd;go_enter Tryz.func103,Tryz.ntmps103
 go_upto_region 1 with(fail)
 generalize hW:ja5 _ _=W0;have A0:At W0 w (.cells #[r0,r1] 81):=hW▸At.new _ _;have A2:aR W0 b s fl ap ib:=hW▸aR.alloc h _;have hB:Below w w W0:=hW▸aD aG _;clear hW h;obtain⟨l0,aA,aB⟩:=A0.two
 go_upto_region 2 with((go_at_call 145;(with_reducible refine(wB b s fl ap ib r0 r1 _ A2).mono ?_);rintro e w3 ⟨rfl,hb⟩))
 replace A0:=A0.keep hb;replace A2:=A2.keep hb;replace hB:=Below.ay hB aF hb;clear l0 aA aB hb;obtain⟨l0,aA,aB⟩:=A0.two
 go_upto_region 3 with((go_at_call 145;(with_reducible refine(zu b s fl ap ib r0 r1 _ A2).mono ?_);rintro e w4 ⟨rfl,hb⟩))
 replace A0:=A0.keep hb;replace A2:=A2.keep hb;replace hB:=Below.ay hB aF hb;clear l0 aA aB hb;obtain⟨l0,aA,aB⟩:=A0.two;obtain⟨l2,aL,aM,aP,aQ,bO,bP,bM,bN⟩:=At.bx1 A2;generalize Fw.ins s 1 0 r1=p0 at *;generalize Fw.ins s 1 1 r1=p1 at *;cases hfx:Fx.dY (s.c 5) r1 with
 | true =>
   have E:Hid (-1=ans):=ah (by rw[<-fT.out,hfx];simp);clear fT;exact Ze
 | false =>
   cases hg0:Fw.Gn s 1 0 r1 with
   | false =>
     have E:Hid (-1=ans):=ah (by rw[<-fT.out,hg0];simp);clear fT hg0;exact Ze
   | true =>
     cases hg1:Fw.Gn s 1 1 r1 with
     | false =>
       have E:Hid (-1=ans):=ah (by rw[<-fT.out,hg1];simp);clear fT hg1 hg0;exact Ze
     | true =>
       have E:Hid (max (Fw.wr (Fw.wr (Fw.wr (r1-p0)-p1)-Fw.mgs s 1 r0)) 0=ans):=ah (by rw[<-fT.out,hfx,hg0,hg1];simp);exact Zp
def OU(s:Re.St)(y:Nat)(ry r0 pad long:Int):Int:=if Fw.Gn s y 0 ry=true then Fw.wr (Fw.ins s y 0 ry+Fw.mg s y 0 r0)else if Fw.Gn s y 1 ry=true then Fw.wr (Fw.wr (Fw.wr (ry-Fw.ins s y 1 ry)-Fw.mg s y 1 r0)-long)else Fw.wr (pad+Fw.mg s y 0 r0)
theorem Y8(b:Nat)(s:Re.St)(fl ap:Value)(ib:Bool)(a0 a1 r0 r1 p0 p1 long:Int)(w:World)(h:aR w b s fl ap ib):Calls ja0 106 #[b,(),.agg #[a0,a1,r0,r1,p0,p1],long] w λx w'=>x=.returned (.int .i64 (OU s 0 r0 r0 p0 long))/\Below w w w':=by
 have i0:∀(a b c d:Int) (w:World),(Instr.index 140 (.agg #[a,.int .i64 b,c,d]) (.int .i64 0)).run ja0 w=.ok (.agg #[a,.int .i64 b]) w:=λ_ _ _ _ _=>by kernel_rfl
 have i1:∀(a b c d:Int) (w:World),(Instr.index 140 (.agg #[a,.int .i64 b,c,d]) (.int .i64 1)).run ja0 w=.ok (.agg #[c,d]) w:=λ_ _ _ _ _=>by kernel_rfl
 obtain⟨ans,gy⟩:=aC (OU s 0 r0 r0 p0 long);rw[gy];unfold OU at gy;have fT:=ah gy;clear gy;go_enter Tryz.func106,Tryz.ntmps106
 go_upto_region 1 with(fail)
 generalize hW:ja5 _ _=W0;have A0:At W0 w (.cells #[a0,a1,r0,r1,p0,p1] 179):=hW▸At.new _ _;have A2:aR W0 b s fl ap ib:=hW▸aR.alloc h _;have hB:Below w w W0:=hW▸aD aG _;clear hW h;obtain⟨l0,aA,aB,aY,dP,iX,iY⟩:=At.six A0
 go_upto_region 2 with((go_at_call 108;(with_reducible refine(iD b s fl ap ib r0 r1 _ A2).mono ?_);rintro e w3 ⟨rfl,hb⟩))
 generalize hW:ja5 _ _=W1;have A1:At W1 w3 (.cells #[Fw.mg s 0 0 r0,Fw.mg s 0 1 r0] 139):=hW▸At.new _ _;have hb2:Below W0 W0 W1:=hW▸(hb.trans (Below.mono (aD aG _) hb.size));clear hW hb;generalize w3.heap.size=T at *;replace A0:=A0.keep hb2;replace A2:=A2.keep hb2;replace hB:=Below.ay hB aF hb2;clear l0 aA aB aY dP iX iY hb2;obtain⟨l0,aA,aB,aY,dP,iX,iY⟩:=At.six A0;generalize Fw.mg s 0 0 r0=m0 at *;generalize Fw.mg s 0 1 r0=m1 at *
 go_upto_region 3 with((go_at_call 145;(with_reducible refine(wV b s fl ap ib r0 r1 _ A2).mono ?_);rintro e w4 ⟨rfl,hb⟩))
 replace A0:=A0.keep hb;replace A1:=A1.keep hb;replace A2:=A2.keep hb;replace hB:=Below.ay hB aF hb;clear l0 aA aB aY dP iX iY hb;obtain⟨l0,aA,aB,aY,dP,iX,iY⟩:=At.six A0;obtain⟨l1,aH,aJ⟩:=A1.two;generalize Fw.ins s 0 0 r0=q0 at *;cases hg0:Fw.Gn s 0 0 r0 with
 | true =>
   exact Z2y
 | false =>
   have HG:=ah hg0;clear hg0
   go_upto_region 6 with((go_at_call 145;(with_reducible refine(zP b s fl ap ib r0 r1 _ A2).mono ?_);rintro e w5 ⟨rfl,hb⟩))
   replace A0:=A0.keep hb;replace A1:=A1.keep hb;replace A2:=A2.keep hb;replace hB:=Below.ay hB aF hb;clear l0 aA aB aY dP iX iY hb l1 aH aJ;obtain⟨l0,aA,aB,aY,dP,iX,iY⟩:=At.six A0;obtain⟨l1,aH,aJ⟩:=A1.two;generalize Fw.ins s 0 1 r0=q1 at *;cases hg1:Fw.Gn s 0 1 r0 with
   | true =>
     have E:Hid (Fw.wr (Fw.wr (Fw.wr (r0-q1)-m1)-long)=ans):=ah Z4s;clear fT hg1 HG
     go_upto_region 7 with(fail)
     exact Zk
   | false =>
     have E:Hid (Fw.wr (p0+m0)=ans):=ah Z4s;clear fT hg1 HG
     go_upto_region 8 with(fail)
     exact Zk
theorem Y9(b:Nat)(s:Re.St)(fl ap:Value)(ib:Bool)(a0 a1 r0 r1 p0 p1 long:Int)(w:World)(h:aR w b s fl ap ib):Calls ja0 106 #[b,.int .i64 1,.agg #[a0,a1,r0,r1,p0,p1],long] w λx w'=>x=.returned (.int .i64 (OU s 1 r1 r0 p1 long))/\Below w w w':=by
 have i0:∀(a b c d:Int) (w:World),(Instr.index 140 (.agg #[a,.int .i64 b,c,d]) (.int .i64 0)).run ja0 w=.ok (.agg #[a,.int .i64 b]) w:=λ_ _ _ _ _=>by kernel_rfl
 have i1:∀(a b c d:Int) (w:World),(Instr.index 140 (.agg #[a,.int .i64 b,c,d]) (.int .i64 1)).run ja0 w=.ok (.agg #[c,d]) w:=λ_ _ _ _ _=>by kernel_rfl
 obtain⟨ans,gy⟩:=aC (OU s 1 r1 r0 p1 long);rw[gy];unfold OU at gy;have fT:=ah gy;clear gy;go_enter Tryz.func106,Tryz.ntmps106
 go_upto_region 1 with(fail)
 generalize hW:ja5 _ _=W0;have A0:At W0 w (.cells #[a0,a1,r0,r1,p0,p1] 179):=hW▸At.new _ _;have A2:aR W0 b s fl ap ib:=hW▸aR.alloc h _;have hB:Below w w W0:=hW▸aD aG _;clear hW h;obtain⟨l0,aA,aB,aY,dP,iX,iY⟩:=At.six A0
 go_upto_region 2 with((go_at_call 108;(with_reducible refine(iD b s fl ap ib r0 r1 _ A2).mono ?_);rintro e w3 ⟨rfl,hb⟩))
 generalize hW:ja5 _ _=W1;have A1:At W1 w3 (.cells #[Fw.mg s 1 0 r0,Fw.mg s 1 1 r0] 139):=hW▸At.new _ _;have hb2:Below W0 W0 W1:=hW▸(hb.trans (Below.mono (aD aG _) hb.size));clear hW hb;generalize w3.heap.size=T at *;replace A0:=A0.keep hb2;replace A2:=A2.keep hb2;replace hB:=Below.ay hB aF hb2;clear l0 aA aB aY dP iX iY hb2;obtain⟨l0,aA,aB,aY,dP,iX,iY⟩:=At.six A0;generalize Fw.mg s 1 0 r0=m0 at *;generalize Fw.mg s 1 1 r0=m1 at *
 go_upto_region 3 with((go_at_call 145;(with_reducible refine(wB b s fl ap ib r0 r1 _ A2).mono ?_);rintro e w4 ⟨rfl,hb⟩))
 replace A0:=A0.keep hb;replace A1:=A1.keep hb;replace A2:=A2.keep hb;replace hB:=Below.ay hB aF hb;clear l0 aA aB aY dP iX iY hb;obtain⟨l0,aA,aB,aY,dP,iX,iY⟩:=At.six A0;obtain⟨l1,aH,aJ⟩:=A1.two;generalize Fw.ins s 1 0 r1=q0 at *;cases hg0:Fw.Gn s 1 0 r1 with
 | true =>
   exact Z2y
 | false =>
   have HG:=ah hg0;clear hg0
   go_upto_region 6 with((go_at_call 145;(with_reducible refine(zu b s fl ap ib r0 r1 _ A2).mono ?_);rintro e w5 ⟨rfl,hb⟩))
   replace A0:=A0.keep hb;replace A1:=A1.keep hb;replace A2:=A2.keep hb;replace hB:=Below.ay hB aF hb;clear l0 aA aB aY dP iX iY hb l1 aH aJ;obtain⟨l0,aA,aB,aY,dP,iX,iY⟩:=At.six A0;obtain⟨l1,aH,aJ⟩:=A1.two;generalize Fw.ins s 1 1 r1=q1 at *;cases hg1:Fw.Gn s 1 1 r1 with
   | true =>
     have E:Hid (Fw.wr (Fw.wr (Fw.wr (r1-q1)-m1)-long)=ans):=ah Z4s;clear fT hg1 HG
     go_upto_region 7 with(fail)
     exact Zk
   | false =>
     have E:Hid (Fw.wr (p1+m0)=ans):=ah Z4s;clear fT hg1 HG
     go_upto_region 8 with(fail)
     exact Zk
end Go.Proofs.YtfohooineeijkaaGreat.Fix
