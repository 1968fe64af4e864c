/- What functions of the program do, in plain numbers, part 18; no conditions. -/
import Derived.Test.YtmidaiklolmkcaaGreatM17
set_option linter.unusedVariables false
set_option linter.unusedSimpArgs false
set_option linter.unusedSectionVars false
set_option maxRecDepth 100000
set_option maxHeartbeats 16000000
namespace Go.Proofs.YtmidaiklolmkcaaGreat.Fix
open Go.ChangeShapes Go.WideShapes Go.ChangeAt Go.RowKit
section
variable {Y:sj} {B:Int->Fw.Bx} {F:Int->Nat} {D:Int->Prop} {KM:World->Nat->Prop} {f:Nat} {w:World} {P:Nat->Prop}
theorem aaQ(hL:vJ Y B F D KM f)(hK:∀(X X':World) (b:Nat),KM X b->Below X.heap.size X X'->KM X' b)(qR:∀(X X':World) (b:Nat),KM X b->Out (λq=>q≠b) X X'->KM X' b)(hR0:RO w Y B D KM)(hkm:Y.km<w.heap.size)
  (z i0 i1:Int) (hz:D z) (hdn:∀k∈(B z).fl,D k/\F k=f) (hne:(B z).fl≠[]) (hl:(B z).fl.length<=64) (n:Nat) (ER:Kp Y B F n P w) (hP:∀b,P b->b<w.heap.size) (hn:n+2*((B z).fl.map (Fw.cst B f)).sum<maxLen) (xs:List Fw.Ld) (hi:Int) (hm:Fw.iE B (Fw.lay B f) z i0 i1=(xs,hi)) :
  Calls Tryz.prog 68 #[.pointer (some ⟨Y.lb,0,none⟩),.agg #[.int .i64 z,.int .i64 i0,.int .i64 i1]] w λe w'=>∃R cap cs P' n',e=.returned (.agg #[.slice (some ⟨R,0,none⟩) xs.length cap,.int .i64 hi])/\w.heap.size<=R/\At w' R (.cells cs 77)/\oV cs xs/\n'<=n+2*((B z).fl.map (Fw.cst B f)).sum/\Kp Y B F n' P' w'/\(∀b,P' b->P b\/w.heap.size<=b)/\¬ P' R/\Out (λb=>b=Y.pm) w w':=by
 obtain⟨es0,RG,pU⟩:=hR0.EO;have hpl:=pU.lt;obtain⟨fl,hfl⟩:=aA ((B z).fl);rw[hfl]at hdn hne hl hn ⊢;obtain⟨s,hs⟩:=aA ((B z).sty);obtain⟨wP,hx0⟩:=aA (iw Y B i0 fl);obtain⟨xs1,hx1⟩:=aA (wP.map (TK B f z i0 i1));obtain⟨sz,hszz⟩:=aA (clS B f z i0 i1 fl);obtain⟨xs2,hx2⟩:=aA (xs1.mapIdx (Yq B f z i0 i1 sz));obtain⟨long,hlong⟩:=aA (oU xs2);obtain⟨high,hhigh⟩:=aA (Li.long (s.c 46) long);obtain⟨room,hroom⟩:=aA ((if i1 = -1 then high else i1));obtain⟨st,hst⟩:=aA (Ju.row (Ju.starts (s.c 43) room (s.c 46) long) xs2.length)
 have HXS:Hid (xs2.mapIdx (clE (s.c 44) i0 st)=xs/\high=hi):=ah (by
  have h:=FB Y B f z i0 i1 fl hfl sz hszz xs2 (by rw[hx0,hx1,hx2]) high (by rw[hs,hlong];exact hhigh);rw[hm,hs,hlong,hroom,hst]at h;injection h with h1 h2
  exact⟨h1.symm,h2.symm⟩)
 obtain⟨m,hmm⟩:=aA fl.length;have HL0:Hid (wP.length=m):=ah (by rw[<-hx0,<-hmm];simp[iw]);have zZ:Hid (xs1.length=m):=ah (by rw[<-hx1,List.length_map,HL0.out]);have HL2:Hid (xs2.length=m):=ah (by rw[<-hx2,List.length_mapIdx,zZ.out]);have HLZ:Hid (sz.length=m):=ah (by rw[<-hszz];unfold clS;rw[I7,hmm]);have Jz:Hid (st.length=m):=ah (by rw[<-hst,Ju.qd,HL2.out])
 have Wy:Hid (∀x∈wP,Ll Y B D F f i0 x):=ah (by
  rw[<-hx0];intro x hx;obtain⟨k,hk,e⟩:=List.mem_map.1 hx;rw[<-e]
  exact Qn (hdn k hk).1 (hdn k hk).2)
 have I6:Hid (∀x∈xs1,Ll Y B D F f i0 x):=ah (by
  rw[<-hx1];intro x hx;obtain⟨y,hy,e⟩:=List.mem_map.1 hx;rw[<-e]
  exact aaw (Wy.out y hy))
 have ajc:Hid (∀x∈xs2,Ll Y B D F f i0 x):=ah (by
  rw[<-hx2];intro x hx;obtain⟨i,hi,e⟩:=List.mem_mapIdx.1 hx;rw[<-e]
  exact aax i (I6.out _ (List.getElem_mem _)))
 have TR:Hid (∀k,jh B f xs1 k=jh B f wP k):=ah λk=>V6 (by rw[<-hx1,List.map_map];rfl) k
 have HCS:Hid (jh B f wP m=(fl.map (Fw.cst B f)).sum):=ah (by
  unfold jh;rw[<-hx0,<-hmm];unfold iw;rw[<-List.map_take,List.take_length,List.map_map]
  rfl)
 have QO:Hid (xs1=wP.map (TK B f z i0 i1)):=ah hx1.symm;have HX2:Hid (xs2=xs1.mapIdx (Yq B f z i0 i1 sz)):=ah hx2.symm;have HX0:Hid (wP=iw Y B i0 fl):=ah hx0.symm;have HSZ:=ah hszz;have HSS:=ah hs;have HLG:=ah hlong;have HHI:=ah hhigh;have HRM:=ah hroom;have HST:=ah hst;have F5:=ah hfl;have HM:=ah hmm;have HN:=ah hn;have HDN:=ah hdn;have sV:=ah hR0;rw[hmm]at hl;clear hx1 hx2 hx0 hszz hlong hhigh hroom hst hm hmm;have hS:=rA.start ER hP;have wL:=hR0;obtain⟨b0,hb0⟩:=aA (Y.bl z);have hbx:=(wL.box z hz).1;rw[hb0,hs]at hbx;have yc:=ah hbx.style;have R4:=hbx.lt;have b1:Below w.heap.size w ((w.alloc (.cells #[.int .i64 z,.int .i64 i0,.int .i64 i1] 75)).alloc (.cells #[.slice none 0 0,.int .i64 0] 120)):=Below.alloc' (Below.alloc' aF _) _;have A0:At ((w.alloc (.cells #[.int .i64 z,.int .i64 i0,.int .i64 i1] 75)).alloc (.cells #[.slice none 0 0,.int .i64 0] 120)) w.heap.size (.cells #[.int .i64 z,.int .i64 i0,.int .i64 i1] 75):=At.alloc (At.new _ _) _;have A4:At ((w.alloc (.cells #[.int .i64 z,.int .i64 i0,.int .i64 i1] 75)).alloc (.cells #[.slice none 0 0,.int .i64 0] 120)) (w.heap.size+1) (.cells #[.slice none 0 0,.int .i64 0] 120):=At.new' _ EM;have hS1:=hS.after b1;have Fh:=wL.keep hK b1;clear hdn hR0 wL hS pU hs hbx hfl ER hn;go_enter Tryz.func68,Tryz.ntmps68
 go_upto_region 1 with(fail)
 generalize (w.alloc (.cells #[.int .i64 z,.int .i64 i0,.int .i64 i1] 75)).alloc (.cells #[.slice none 0 0,.int .i64 0] 120)=w1 at *;have aeT:=A4.lt;have hsz:=b1.size;have hlk:=λX (h:Below w1.heap.size w1 X)=>(Fh.keep hK h).look hz;simp only[hb0]at hlk;have VO:=ah (λj hj=>(b1.cell (p:=⟨b0,0+j,none⟩) R4).trans (yc.out j hj):uz w1 b0 0 s);have TH:b0<w1.heap.size:=aV R4 hsz;obtain⟨lY,xw,xA,zu,zw,zy,zA⟩:=At.six Fh.lay;obtain⟨l0,aB,aC,bH⟩:=At.three A0;have hSd:Below w1.heap.size w1 w1.drew:=Below.drew aF;refine lF (S:=λX=>Below w1.heap.size w1 X) 12 ?_ ?_
 . exact hSd
 intro hx;clear hSd;refine aM 0 ?_;refine aM 1 ?_;refine aM 2 ?_;refine aM 3 ?_;refine aM 4 ?_;refine aM 5 ?_;refine rO 6 rfl (eB aX rfl rfl rfl (λX h=>hlk X h)) ?_;refine aM 7 ?_;refine aM 8 ?_;refine rO 9 rfl (jd aX (.tmp 29) rfl rfl (λX h=>λj hj=>(h.cell (p:=⟨b0,0+j,none⟩) TH).trans (VO.out j hj))) ?_;refine tk1 10 ?_;refine ak.Step.value (eU rfl) ?_;obtain⟨w2,hw2,AS,hb2,gT⟩:∃w2,w2=w1.drew.alloc (.cells (cells Re.zero) 46)/\At w2 w1.drew.heap.size (.cells (cells Re.zero) 46)/\Below w1.drew.heap.size w1.drew w2/\w1.heap.size<=w1.drew.heap.size:=⟨_,rfl,At.new _ _,Below.alloc' aF _,hx.size⟩;rw[<-hw2];clear hw2;replace hx:=Below.ay hx aD hb2;generalize w1.drew.heap.size=T at *;refine⟨λ_=>hx,?_⟩
 (try simp only[bL,bM,bN,tks])
 refine tk1 11 ?_;refine ak.Step.skip (nH (.tmp 5) (.tmp 30) rfl rfl rfl AS) ?_;replace AS:At (w2.setRow T (cells s)) T (.cells (cells s) 46):=At.setRow AS _;have hx2:Below w1.heap.size w1 (w2.setRow T (cells s)):=bW hx gT _;generalize w2.setRow T (cells s)=w3 at *;refine⟨λ_=>hx2,?_⟩
 (try simp only[bL,bM,bN,tks])
 refine ko ?_;have aar:=hx2.size;have uN:=hS1.after hx2;have B3:=A0.keep hx2;have C3:=A4.keep hx2;have EW:=uN.ro qR sV.out hkm;have rF:Calls Tryz.prog 92 #[.pointer (some ⟨Y.lb,0,none⟩),.agg #[.int .i64 z,.int .i64 i0,.int .i64 i1]] w3 λe w'=>(∃R q cs,e=.returned (.slice (some ⟨R,q,none⟩) m m)/\w3.heap.size<=R/\At w' R (.cells cs 168)/\fE cs q wP)/\Below w3.heap.size w3 w':=by
  exact Z2p
 obtain⟨l0,aB,aC,bH⟩:=At.three B3;have hTN:w.heap.size+1<T:=by omega
 have lT:=AS.lt;clear b1 A0 A4 hS1 Fh VO hlk xw xA zu zw zy zA lY yc hb2 hx EW R4 TH hb0
 go_upto_region 4 with(go_at_call 92;(with_reducible refine rF.mono ?_);rintro e' w4 ⟨⟨R,q,cs,rfl,gR,Yp,RH⟩,hb4⟩)
 clear rF;have HI4:=ah RH;have Qk:=uN.after hb4;have B4:=B3.keep hb4;have C4:=C3.keep hb4;have VQ:=ah (AS.keep hb4);have acN:=hb4.size;have ru:w.heap.size<=R:=by omega
 have VI:¬ P R:=λh=>by have:=hP R h;omega
 have lR4:=Yp.lt;have hTR:T<R:=by omega
 have hT4:T<w4.heap.size:=by omega
 obtain⟨N4,hN4⟩:=aA w4.heap.size;rw[hN4]at lR4 hT4;have HN4:=ah hN4;clear hb4 RH AS B3 C3 uN hx2 l0 aB aC bH hN4
 go_loopw [36] (λiv wr=>∃(k n':Nat) (P':Nat->Prop) (cs':Array Value),k<=m/\iv=.int .i64 k/\n'<=n+jh B f wP k/\rA Y B F w P n' P' wr/\(∀b,b<N4->P' b->P b)/\N4<=wr.heap.size/\At wr R (.cells cs' 168)/\Hid (fE cs' q (DZ (TK B f z i0 i1) wP k))/\At wr w.heap.size (.cells #[.int .i64 z,.int .i64 i0,.int .i64 i1] 75)/\At wr (w.heap.size+1) (.cells #[.slice none 0 0,.int .i64 0] 120)/\Hid (At wr T (.cells (cells s) 46))) (λiv _=>m-(intOf iv).toNat)
 case atStart=>exact⟨0,n,P,cs,fC _,rfl,by simp[jh],Qk,λb hb h=>h,by rw[HN4.out];exact aG _,Yp,ah (by rw[D5];exact HI4.out),B4,C4,VQ⟩
 case round =>
  clear Qk Yp B4 C4 VQ;obtain⟨k,n',P',cs',hk,rfl,hn',hSr,xP,ES,hAr,hC,A0,A4,hST⟩:=hrel;by_cases hlt:k<m
  . have hltz:(k:Int)<(m:Int):=by omega
    have hkx:k<wP.length:=by rw[HL0.out];exact hlt
    have hkc:k<(DZ (TK B f z i0 i1) wP k).length:=by rw[j6];exact hkx
    have qG:=hC.out.at_ hAr hkc;rw[tT _ _ hkx]at qG;obtain⟨x,hx⟩:=aA (wP[k]);have mI:=ah (Wy.out x (hx▸List.getElem_mem _));rw[hx]at qG;have HX:=ah hx;have qx:=ah hSr;have hRr:=hSr.ro qR sV.out hkm;have hbx:=(hRr.box x.ld.id mI.out.d).1;rw[<-mI.out.bx]at hbx;obtain⟨sx,hsx⟩:=aA ((B x.ld.id).sty);rw[hsx]at hbx;generalize Y.vf x.ld.id=vf at hbx;generalize Y.va x.ld.id=va at hbx;generalize (B x.ld.id).ib=ib at hbx;have HSX:=ah hsx;have qE:=ah hbx;have wM:¬ P' R:=λh=>VI (xP R lR4 h);have BK:=hAr.lt;have Lm:wr.cell? ⟨R,q+k*17+12,none⟩=some (.pointer (some ⟨x.bx,0,none⟩)):=(qG 12 aj).trans rfl;have Ql:wr.cell? ⟨R,q+k*17+5,none⟩=some (.int .i64 x.ld.id):=(qG 5 aj).trans rfl;obtain⟨l0,aB,aC,bH⟩:=At.three A0;clear hRr hbx qG hsx hx hSr
    go_upto_region 7 with(fail)
    have aat:=ah (qx.out.after ((Below.refl wr.heap.size wr).drew));have hcs1:=sw B f wP hkx;rw[HX.out]at hcs1;have hcs2:=wC B f wP (k+1);rw[HL0.out,HCS.out]at hcs2;have hnn:=HN.out;obtain⟨cs0,xO⟩:=aA (Fw.fq B z i0 x.ld.id);have xB:=Qm hK z x.ld.id i0 i1 hz mI.out.d x.bx mI.out.bx wr.drew (aat.out.ro qR sV.out hkm);rw[xO]at xB;obtain⟨ly,qI⟩:=aA (Fw.lay B f x.ld.id i0 i1 cs0 (-1));have JJ:ly.id=x.ld.id:=by rw[<-qI];rfl
    have M9:=ah (show q+k*17+5+7<=cs'.size by have:=hC.out.1;rw[j6]at this;have h2:k*17+17<=wP.length*17:=aj;omega);have n1:w.heap.size≠Y.pm:=by omega
    have n2:w.heap.size≠R:=by omega
    have n34:=sV.out.box x.ld.id mI.out.d;rw[<-mI.out.bx]at n34
    have n3:x.bx≠Y.pm:=λe=>by
     obtain⟨es1,ck1,hp1⟩:=sV.out.EO;have h1:=n34.1;rw[e]at h1;exact absurd (h1.symm.trans hp1) eZ
    have n4:x.bx≠R:=by have:=n34.1.lt;omega
    clear n34;have hSd:Out (λb=>b=Y.pm\/b=R) wr wr.drew/\wr.drew.cell? ⟨R,q+k*17+5,none⟩=some (.int .i64 x.ld.id)/\wr.drew.cell? ⟨R,q+k*17+12,none⟩=some (.pointer (some ⟨x.bx,0,none⟩)):=⟨(Out.refl _ _).drew,Ql,Lm⟩;refine lF (S:=λX=>Out (λb=>b=Y.pm\/b=R) wr X/\X.cell? ⟨R,q+k*17+5,none⟩=some (.int .i64 x.ld.id)/\X.cell? ⟨R,q+k*17+12,none⟩=some (.pointer (some ⟨x.bx,0,none⟩))) 21 ?_ ?_
    . exact hSd
    intro hx;clear hSd;refine gJ 0 ?_;refine gJ 1 ?_;refine gJ 2 ?_;refine gJ 3 ?_;refine gJ 4 ?_;refine gJ 5 ?_;refine gJ 6 ?_;refine gJ 7 ?_;refine gJ 8 ?_;refine gJ 9 ?_;refine gJ 10 ?_;refine gJ 11 ?_;refine gJ 12 ?_;refine gJ 13 ?_;refine gJ 14 ?_;refine gJ 15 ?_;refine tk1 16 ?_;refine ak.Step.call dV xB ?_;rintro e' w6 ⟨rfl,hb6⟩;have mP:Out (λb=>b=Y.pm\/b=R) wr w6:=Out.trans' ((Out.refl _ wr).drew) (Out.of_below (M:=λ_=>False) hb6) λ_ _ q=>q.elim;have zo:=aat.out.after hb6;have afu:=(Below.drew (Below.refl wr.heap.size wr)).trans hb6;have xL:=hAr.keep afu;have Ot:w6.cell? ⟨R,q+k*17+5,none⟩=some (.int .i64 x.ld.id):=(hb6.cell (p:=⟨R,_,none⟩) BK).trans Ql;have zY:w6.cell? ⟨R,q+k*17+12,none⟩=some (.pointer (some ⟨x.bx,0,none⟩)):=(hb6.cell (p:=⟨R,_,none⟩) BK).trans Lm;have hx6:Out (λb=>b=Y.pm\/b=R) wr w6/\w6.cell? ⟨R,q+k*17+5,none⟩=some (.int .i64 x.ld.id)/\w6.cell? ⟨R,q+k*17+12,none⟩=some (.pointer (some ⟨x.bx,0,none⟩)):=⟨mP,Ot,zY⟩;refine⟨_,rfl,λ_=>hx6,?_⟩
    (try simp only[bL,bM,bN,tks])
    have kr:=nJ hL qR sV.out hkm zo x.ld.id i0 i1 cs0 (-1) mI.out.d mI.out.f aj;rw[qI]at kr;refine tk1 17 ?_;refine ak.Step.call dV kr ?_;rintro e' je ⟨rfl,n2',P2,hn2,nV,Cz,kV⟩;have TJ:=xL.lt;have oo:=xL.out (M:=λb=>b=Y.pm) aj kV;have uE:je.cell? ⟨R,q+k*17+5,none⟩=some (.int .i64 x.ld.id):=(Out.cell kV (q+k*17+5) TJ aj).trans Ot;have F8:je.cell? ⟨R,q+k*17+12,none⟩=some (.pointer (some ⟨x.bx,0,none⟩)):=(Out.cell kV (q+k*17+12) TJ aj).trans zY;have qz:Out (λb=>b=Y.pm\/b=R) wr je:=mP.trans (kV.mono λb _ h => .inl h);have IZ:Out (λb=>b=Y.pm\/b=R) wr je/\je.cell? ⟨R,q+k*17+5,none⟩=some (.int .i64 x.ld.id)/\je.cell? ⟨R,q+k*17+12,none⟩=some (.pointer (some ⟨x.bx,0,none⟩)):=⟨qz,uE,F8⟩;refine⟨_,rfl,λ_=>IZ,?_⟩
    (try simp only[bL,bM,bN,tks])
    refine gJ 18 ?_;refine gJ 19 ?_;refine tk1 20 ?_;refine ak.Step.skip (fB og (.tmp 61) (.tmp 59) rfl rfl rfl oo (dG ly) M9.out (pJ ly)) ?_;have pz:At (je.setRow R (splice cs' (q+k*17+5) (eH ly))) R (.cells (splice cs' (q+k*17+5) (eH ly)) 168):=At.setRow oo _;have jL:Out (λb=>b=R) je (je.setRow R (splice cs' (q+k*17+5) (eH ly))):=Out.setRow (M:=λb=>b=R) (Out.refl _ _) rfl _;have Bb:(je.setRow R (splice cs' (q+k*17+5) (eH ly))).cell? ⟨R,q+k*17+5,none⟩=some (.int .i64 x.ld.id):=by
     exact Z22
    have c9:(je.setRow R (splice cs' (q+k*17+5) (eH ly))).cell? ⟨R,q+k*17+9,none⟩=some (.int .i64 ly.s1):=by
     have h1:=om (cs:=cs') (vs:=eH ly) (q:=q+k*17+5) (j:=4) Z54 (by rw[dG];omega);rw[pz.cell,show q+k*17+9=q+k*17+5+4 by omega,h1];rfl
    have Gx:(je.setRow R (splice cs' (q+k*17+5) (eH ly))).cell? ⟨R,q+k*17+12,none⟩=some (.pointer (some ⟨x.bx,0,none⟩)):=by
     exact Z38
    refine⟨λ_=>⟨qz.trans (jL.mono λb _ h => .inr h),Bb,Gx⟩,?_⟩
    (try simp only[bL,bM,bN,tks])
    refine ko ?_;have rC:¬ P2 R:=λh=>wM (Cz R TJ h);have hput:=hC.out.Qg hkc ly;rw[tT _ _ hkx,HX.out]at hput;have hOr:Out (λb=>b=Y.pm\/b=R) wr (je.setRow R (splice cs' (q+k*17+5) (eH ly))):=qz.trans (jL.mono λb _ h => .inr h);have rD:=nV.own (M:=λb=>b=R) jL λb hb h=>by subst h;exact⟨rC,ru⟩
    have afv:=ah hput.1;have ahJ:Hid ((splice cs' (q+k*17+5) (eH ly)).size=cs'.size):=ah (ji Z54);have B11:=A0.out (M:=λb=>b=Y.pm\/b=R) aj hOr;have LM:=A4.out (M:=λb=>b=Y.pm\/b=R) aj hOr;have uF:=ah (hST.out.out (M:=λb=>b=Y.pm\/b=R) aj hOr);have WC:=ah (At.out (M:=λb=>b=Y.pm\/b=R) qE.out aj hOr);have ahK:wr.heap.size<=w6.heap.size:=mP.size;have Ja:∀b,b<N4->P2 b->P b:=λb hb h=>xP b hb (Cz b aj h);have LP:N4<=(je.setRow R (splice cs' (q+k*17+5) (eH ly))).heap.size:=aJ ES hOr.size;generalize je.setRow R (splice cs' (q+k*17+5) (eH ly))=cZ at *;generalize splice cs' (q+k*17+5) (eH ly)=cs2 at *;clear hx hx6 IZ hput oo jL Bb uE F8 A0 A4 xL zo mP kV qz Ot zY l0 aB aC bH Lm Ql hOr Cz nV xB kr afu hb6 hST qE hAr BK ahK;obtain⟨l2,aR,aS,aT,aU,bC,bD,bA,bB⟩:=At.bx1 WC.out;clear aR aS aT aU bC bD;have afw:=pz.lt;have uI:=λX=>dX (Fw.ed sx 0) (Fw.ed sx 2) X;obtain⟨e02,Fv⟩:=aA (Fw.wr (Fw.ed sx 0+Fw.ed sx 2));simp only[Fv]at uI;obtain⟨hh,Lg⟩:=aA (IntKind.i64.wrap (ly.s1-e02))
    go_upto_region 8 with(fail)
    have hSd:Below cZ.heap.size cZ cZ.drew:=Below.drew aF;refine lF (S:=λX=>Below cZ.heap.size cZ X) 17 ?_ ?_
    . exact hSd
    intro hx;clear hSd;refine aM 0 ?_;refine aM 1 ?_;refine aM 2 ?_;refine aM 3 ?_;refine aM 4 ?_;refine aM 5 ?_;refine aM 6 ?_;refine aM 7 ?_;refine aM 8 ?_;refine aM 9 ?_;refine aM 10 ?_;refine aM 11 ?_;refine aM 12 ?_;refine aM 13 ?_;refine tk1 14 ?_;refine ak.Step.call dV (uI _) ?_;rintro e' bS ⟨rfl,hb⟩;replace hx:=Below.ay hx aD hb;clear hb;refine⟨_,rfl,λ_=>hx,?_⟩
    (try simp only[bL,bM,bN,tks])
    refine aM 15 ?_;refine aM 16 ?_;refine ko ?_;have L8:=pz.keep hx;have uJ:=rD.after hx;have Yr:=B11.keep hx;have JE:=LM.keep hx;have Qq:=ah (uF.out.keep hx);have Qr:=ah (aL.keep WC.out hx);have c12:bS.cell? ⟨R,q+k*17+12,none⟩=some (.pointer (some ⟨x.bx,0,none⟩)):=(hx.cell (p:=⟨R,_,none⟩) afw).trans Gx;have FL:N4<=bS.heap.size:=aJ LP hx.size;clear hx pz rD B11 LM uF WC Gx c9 l2 bA bB uI LP afw;have lbx:=aL.lt Qr.out;have afx:=L8.lt;obtain⟨l0,aB,aC,bH⟩:=At.three Yr;obtain⟨it,hit⟩:=aA (Fw.EX sx 1 hh i1)
    have oD:∀X,Calls Tryz.prog 93 #[.agg #[.int .i64 (sx.c 5),.int .i64 (sx.c 6),.int .i64 (sx.c 9),.int .i64 (sx.c 10),.int .i64 (sx.c 13),.int .i64 (sx.c 14)],.agg (cells sx),.int .i64 hh,.int .i64 i1] X λe X'=>e=.returned (.agg (wI it))/\Below X.heap.size X X':=λX=>by
     rw[<-hit];exact Qf _ _ _ _ _ _ sx hh i1 X
    have aaN:=ah (show q+k*17+5<=cs2.size by have:=M9.out;have:=ahJ.out;omega);have hSd:Out (λb=>b=R) bS bS.drew/\bS.drew.cell? ⟨R,q+k*17+12,none⟩=some (.pointer (some ⟨x.bx,0,none⟩)):=⟨(Out.refl _ _).drew,c12⟩
    go_upto_region 9 with(fail)
    refine lF (S:=λX=>Out (λb=>b=R) bS X/\X.cell? ⟨R,q+k*17+12,none⟩=some (.pointer (some ⟨x.bx,0,none⟩))) 24 ?_ ?_
    . exact hSd
    intro hx;clear hSd;refine gJ 0 ?_;refine gJ 1 ?_;refine gJ 2 ?_;refine gJ 3 ?_;refine gJ 4 ?_;refine gJ 5 ?_;refine gJ 6 ?_;refine gJ 7 ?_;refine rO 8 rfl (Ow (.tmp 85) aX rfl rfl (λX h=>At.out Qr.out n4 h.1)) ?_;refine gJ 9 ?_;refine gJ 10 ?_;refine gJ 11 ?_;refine gJ 12 ?_;refine gJ 13 ?_;refine gJ 14 ?_;refine rO 15 rfl (jd aX (.tmp 92) rfl rfl (λX h=>aL.style (At.out Qr.out n4 h.1))) ?_;refine gJ 16 ?_;refine gJ 17 ?_;refine gJ 18 ?_;refine gJ 19 ?_;refine tk1 20 ?_;refine ak.Step.call dV (oD _) ?_;rintro e' eG ⟨rfl,hb⟩;have LW:At eG R (.cells cs2 168):=At.keep (At.drew L8) hb;have Jd:Out (λb=>b=R) bS eG:=Out.trans' ((Out.refl _ bS).drew) (Out.of_below (M:=λ_=>False) hb) λ_ _ q=>q.elim;have c13:eG.cell? ⟨R,q+k*17+12,none⟩=some (.pointer (some ⟨x.bx,0,none⟩)):=(hb.cell (p:=⟨R,_,none⟩) afx).trans c12;have ahL:Out (λb=>b=R) bS eG/\eG.cell? ⟨R,q+k*17+12,none⟩=some (.pointer (some ⟨x.bx,0,none⟩)):=⟨Jd,c13⟩;refine⟨_,rfl,λ_=>ahL,?_⟩
    (try simp only[bL,bM,bN,tks])
    refine gJ 21 ?_;refine gJ 22 ?_;refine tk1 23 ?_;refine ak.Step.skip (fB (q:=q+k*17) zV (.tmp 100) (.tmp 98) rfl rfl rfl LW (iD it) aaN.out (Ct it)) ?_;have aaO:=At.setRow LW (splice cs2 (q+k*17) (wI it));have uK:Out (λb=>b=R) eG (eG.setRow R (splice cs2 (q+k*17) (wI it))):=Out.setRow (M:=λb=>b=R) (Out.refl _ _) rfl _;have c14:(eG.setRow R (splice cs2 (q+k*17) (wI it))).cell? ⟨R,q+k*17+12,none⟩=some (.pointer (some ⟨x.bx,0,none⟩)):=by
     have h1:=iP (cs:=cs2) (vs:=wI it) (q:=q+k*17) (k:=q+k*17+12) (by rw[iD];exact aaN.out) (.inr (by rw[iD];omega));rw[aaO.cell,h1,<-LW.cell];exact c13
    refine⟨λ_=>⟨Jd.trans uK,c14⟩,?_⟩
    (try simp only[bL,bM,bN,tks])
    refine ko ?_;have JD:=Jd.trans uK;have ahM:k<((DZ (TK B f z i0 i1) wP k).set k { x with ld:=ly }).length:=by rw[List.length_set];exact hkc
    have Ei:=afv.out.abH ahM it;rw[List.getElem_set_self,List.set_set]at Ei
    have ac1:Hid (fE (splice cs2 (q+k*17) (wI it)) q (DZ (TK B f z i0 i1) wP (k+1))):=ah (by
     rw[<-yS _ _ hkx,HX.out];have e:TK B f z i0 i1 x={ x with ld:=ly,it:=it }:=by
      unfold TK GD;rw[xO,qI,HSX.out,<-hit,<-Lg,rH,<-Fv];rfl
     rw[e]
     exact Ei.1)
    have OC:=uJ.own (M:=λb=>b=R) JD λb hb h=>by subst h;exact⟨rC,ru⟩
    have B14:=Yr.out (M:=λb=>b=R) n2 JD;have C14:=JE.out (M:=λb=>b=R) aj JD;have afy:=ah (Qq.out.out (M:=λb=>b=R) aj JD);have aaJ:=aJ FL JD.size;generalize eG.setRow R (splice cs2 (q+k*17) (wI it))=uP at *;generalize splice cs2 (q+k*17) (wI it)=cs4 at *;clear hx Ei L8 LW Jd uK JD c12 c13 c14 uJ Yr JE Qq Qr l0 aB aC bH oD lbx afx FL Lg Fv hit qI xO afv hC;go_wp2
    go_roundw
    case rel=>exact⟨k+1,n2',P2,cs4,by omega,by go_num,by omega,OC,Ja,aaJ,aaO,ac1,B14,C14,afy⟩
    case measure=>simp[intOf];omega
  . obtain rfl:k=m:=by omega
    have R6:Hid (fE cs' q xs1):=ah (by
     have:=hC.out;rw[<-HL0.out,IY,<-QO.out]at this
     exact this)
    have hn1:n'<=n+jh B f wP k:=hn';have afz:=ah xP;have hRr:=hSr.ro qR sV.out hkm;have I5:wr.cell? ⟨T,46,none⟩=some (.int .i64 (s.c 46)):=(hST.out.cell 46).trans (bG s aj rfl);have lTr:=hST.out.lt;have BK:=hAr.lt;have afA:Calls Tryz.prog 99 #[.slice (some ⟨R,q,none⟩) k k,.agg #[.int .i64 i0,.int .i64 i1],.int .i64 (s.c 46)] wr λe w'=>(∃b,e=.returned (.slice (some ⟨b,0,none⟩) k k)/\wr.heap.size<=b/\Ints w' (some ⟨b,0,none⟩) sz)/\Below wr.heap.size wr w':=by
     have hg:∀i,i<fl.length->fl.getD i 0=fl[i]! := λi h=>by simp[List.getD,h]
     have hG:∀i (h:i<xs1.length),xs1[i]=TK B f z i0 i1 (vI Y B i0 (fl.getD i 0)):=λi h=>by
      have h':i<fl.length:=by have:=zZ.out;have:=HM.out;omega
      have e1:=QO.out;subst e1;have e0:=HX0.out;subst e0;simp[iw,List.getD,List.getElem?_eq_getElem h']
     have h1:=aav (some ⟨R,q,none⟩) xs1 k i0 i1 (s.c 46) (λi=>GD B f z i0 i1 (fl.getD i 0)) (λi=>Fw.wJ B i0 1 (fl.getD i 0)) (λi=>(B (fl.getD i 0)).sty) wr (R6.out.ims hAr) (by rw[zZ.out];omega) (λi h=>by rw[hG i h];rfl) (λi h=>by rw[hG i h];rfl) (λi h=>by
      have ho:=I6.out xs1[i] (List.getElem_mem _);have hb:=(hRr.box _ ho.d).1;rw[<-ho.bx]at hb;have e:xs1[i].ld.id=fl.getD i 0:=by rw[hG i h];rfl
      have e2:(B xs1[i].ld.id).sty=(B (fl.getD i 0)).sty:=by rw[e]
      rw[e2]at hb
      exact⟨_,_,_,hb⟩)
     rw[zZ.out]at h1;have e:yU (λi=>GD B f z i0 i1 (fl.getD i 0)) (λi=>Fw.wJ B i0 1 (fl.getD i 0)) k i1 (s.c 46)=sz:=by rw[<-HSZ.out];unfold clS;rw[HM.out,HSS.out]
     rw[e]at h1;exact h1
    obtain⟨l0,aB,aC,bH⟩:=At.three A0;have qx:=ah hSr;have ajd:k<=64:=hl;clear hC hn' hlt hRr hSr xP HI4
    go_upto_region 12 with(go_at_call 99;(with_reducible refine afA.mono ?_);rintro e' w5 ⟨⟨bz,rfl,gbz,xY⟩,hb5⟩)
    have hS5:=qx.out.after hb5;have xK:=hAr.keep hb5;have B5:=A0.keep hb5;have C5:=A4.keep hb5;have Ou:=ah (hST.out.keep hb5);have afB:=ah xY;have TL:N4<=w5.heap.size:=aJ ES hb5.size;have gz:N4<=bz:=aJ ES gbz;clear afA hb5 xY qx hAr A0 A4 hST ES gbz l0 aB aC bH I5 lTr BK
    go_loopw [109] (λiv wr=>∃(j n2:Nat) (P2:Nat->Prop) (cs2:Array Value),j<=k/\iv=.int .i64 j/\n2<=n+jh B f wP k+jh B f xs1 j/\rA Y B F w P n2 P2 wr/\(∀b,b<N4->P2 b->P b)/\N4<=wr.heap.size/\At wr R (.cells cs2 168)/\Hid (fE cs2 q (sD (Yq B f z i0 i1 sz) xs1 j))/\At wr w.heap.size (.cells #[.int .i64 z,.int .i64 i0,.int .i64 i1] 75)/\At wr (w.heap.size+1) (.cells #[.slice none 0 0,.int .i64 0] 120)/\Hid (At wr T (.cells (cells s) 46))/\Hid (Ints wr (some ⟨bz,0,none⟩) sz)) (λiv _=>k-(intOf iv).toNat)
    case atStart=>exact⟨0,n',P',cs',fC _,rfl,by have h0:jh B f xs1 0=0:=rfl;omega,hS5,afz.out,TL,xK,ah (by rw[zX];exact R6.out),B5,C5,Ou,afB⟩
    case round =>
     clear hS5 xK B5 C5 Ou afB R6 afz hn1 TL;obtain⟨j,n2,P2,cs2,hj,rfl,hn2,hSr,xP,ES,hAr,hC,A0,A4,hST,xY⟩:=hrel;by_cases hlt:j<k
     . have hltz:(j:Int)<(k:Int):=by omega
       have Yj:j<xs1.length:=by rw[zZ.out];exact hlt
       have hjc:j<(sD (Yq B f z i0 i1 sz) xs1 j).length:=by rw[iN];exact Yj
       have qG:=hC.out.at_ hAr hjc;rw[qy _ _ Yj]at qG;obtain⟨x,hx⟩:=aA (xs1[j]);have mI:=ah (I6.out x (hx▸List.getElem_mem _));rw[hx]at qG;have HX:=ah hx;have qx:=ah hSr;have hRr:=hSr.ro qR sV.out hkm;have hbx:=(hRr.box x.ld.id mI.out.d).1;rw[<-mI.out.bx]at hbx;obtain⟨sx,hsx⟩:=aA ((B x.ld.id).sty);rw[hsx]at hbx;generalize Y.vf x.ld.id=vf at hbx;generalize Y.va x.ld.id=va at hbx;generalize (B x.ld.id).ib=ib at hbx;have HSX:=ah hsx;have qE:=ah hbx;have wM:¬ P2 R:=λh=>VI (xP R lR4 h);have BK:=hAr.lt;have Lm:wr.cell? ⟨R,q+j*17+12,none⟩=some (.pointer (some ⟨x.bx,0,none⟩)):=(qG 12 aj).trans rfl;have Ql:wr.cell? ⟨R,q+j*17+5,none⟩=some (.int .i64 x.ld.id):=(qG 5 aj).trans rfl;obtain⟨lz,cz⟩:=lints xY.out (by rw[HLZ.out];exact hlt);obtain⟨v,hv⟩:=aA (sz.getD j 0);rw[hv]at cz;obtain⟨l0,aB,aC,bH⟩:=At.three A0;clear hRr hbx qG hsx hx hSr
       go_upto_region 15 with(fail)
       clear cz lz;have xB:=λX (h:Below wr.heap.size wr X)=>Qm hK z x.ld.id i0 i1 hz mI.out.d x.bx mI.out.bx X ((qx.out.after h).ro qR sV.out hkm);obtain⟨cs0,xO⟩:=aA (Fw.fq B z i0 x.ld.id);simp only[xO]at xB;refine ak.kE (λa0 a W5=>∃(U:Nat) (afC afD u119 afE afF afG afH:Value),a={ a0 with tmps:=(((((((a0.tmps.setIfInBounds 117 afC).setIfInBounds 118 afD).setIfInBounds 119 u119).setIfInBounds 120 afE).setIfInBounds 121 afF).setIfInBounds 122 afG).setIfInBounds 123 afH).setIfInBounds 13 (.pointer (some ⟨U,0,none⟩)) }/\wr.heap.size<=U/\At W5 U (.cells #[.int .i64 cs0,.int .i64 (-1)] 71)/\Below wr.heap.size wr W5) ?_ ?_
       . have hSd:Below wr.heap.size wr wr.drew:=Below.drew aF
         refine lF (S:=λX=>Below wr.heap.size wr X) 9 ?_ ?_
         . exact hSd
         intro hx;clear hSd;refine aM 0 ?_;refine aM 1 ?_;refine aM 2 ?_;refine aM 3 ?_;refine aM 4 ?_;refine aM 5 ?_;clear Lm Ql l0 aB aC bH qE hC hST xY A0 A4 hAr;refine tk2 6 7 ?_ ?_
         . refine ak.Step.call dV (xB _ hx) ?_
           rintro e' w9 ⟨rfl,hb⟩;replace hx:=Below.ay hx aD hb;clear hb;refine⟨_,rfl,λ_=>hx,?_⟩
           (try simp only[bL,bM,bN,tks])
           refine tk1 7 ?_;refine ak.Step.value (u:=.pointer (some ⟨w9.heap.size,0,none⟩)) (w':=w9.alloc (.cells #[.int .i64 0,.int .i64 0] 71)) dV ?_;obtain⟨je,bF,AT,gV,gT⟩:∃je,je=w9.alloc (.cells #[.int .i64 0,.int .i64 0] 71)/\At je w9.heap.size (.cells #[.int .i64 0,.int .i64 0] 71)/\Below w9.heap.size w9 je/\wr.heap.size<=w9.heap.size:=⟨_,rfl,At.new _ _,Below.alloc' aF _,hx.size⟩;rw[<-bF];clear bF;replace hx:=Below.ay hx aD gV;generalize w9.heap.size=U at *;refine⟨λ_=>hx,?_⟩;exact Z1h
         . refine ak.Step.value (u:=.pointer (some ⟨wr.drew.heap.size,0,none⟩)) (w':=wr.drew.alloc (.cells #[.int .i64 0,.int .i64 0] 71)) dV ?_
           obtain⟨je,bF,AT,gV,gT⟩:∃je,je=wr.drew.alloc (.cells #[.int .i64 0,.int .i64 0] 71)/\At je wr.drew.heap.size (.cells #[.int .i64 0,.int .i64 0] 71)/\Below wr.drew.heap.size wr.drew je/\wr.heap.size<=wr.drew.heap.size:=⟨_,rfl,At.new _ _,Below.alloc' aF _,hx.size⟩;rw[<-bF];clear bF;replace hx:=Below.ay hx aD gV;generalize wr.drew.heap.size=U at *;refine⟨λ_=>hx,?_⟩
           (try simp only[bL,bM,bN,tks])
           refine tk1 6 ?_;refine ak.Step.call dV (xB _ hx) ?_;rintro e' w9 ⟨rfl,hb⟩;replace hx:=Below.ay hx aD hb;replace AT:=AT.keep hb;clear hb;refine⟨_,rfl,λ_=>hx,?_⟩;exact Z1h
       . rintro a W9 ⟨U,afC,afD,u119,afE,afF,afG,afH,rfl,gU,AU,gV⟩
         simp only[List.setIfInBounds_toArray,List.set_cons_zero,List.set_cons_succ];clear xB Lm Ql l0 aB aC bH
         have Ym:Hid (rz wr R (q+j*17) x):=ah (by
          have h:=hC.out.at_ hAr hjc;rw[qy _ _ Yj,HX.out]at h
          exact h)
         have afI:=ah (aL.keep qE.out gV);have lR9:=aV BK gV.size;have Lm:W9.cell? ⟨R,q+j*17+12,none⟩=some (.pointer (some ⟨x.bx,0,none⟩)):=(gV.cell (p:=⟨R,_,none⟩) BK).trans ((Ym.out 12 aj).trans rfl);obtain⟨l2,aR,aS,aT,aU,bC,bD,bA,bB⟩:=At.bx1 afI.out;clear aR aS aT aU bC bD;have uI:=λX=>dX (Fw.ed sx 0) (Fw.ed sx 2) X;obtain⟨e02,Fv⟩:=aA (Fw.wr (Fw.ed sx 0+Fw.ed sx 2));simp only[Fv]at uI;obtain⟨t1,ht1⟩:=aA (IntKind.i64.wrap (v+e02))
         go_upto_region 17 with(go_at_call 51;(with_reducible refine(uI _).mono ?_);rintro e' je ⟨rfl,jy⟩;replace AU:=AU.keep jy;obtain⟨lU,cU0,cU1⟩:=At.two AU;have zU1:=AU.thaw 1)
         generalize hW:World.setCell _ _ _=BN;replace AU:At BN U (.cells #[.int .i64 cs0,.int .i64 t1] 71):=hW▸At.set AU 1 _;have fQ:Below wr.heap.size wr BN:=by
          rw[<-hW];exact Below.setCell (Below.ay gV aD jy) gU _
         clear hW jy gV afI lR9 Lm l2 bA bB uI cU0 cU1 zU1 lU;obtain⟨lU,cU0,cU1⟩:=At.two AU;have afJ:=ah (qx.out.after fQ);have pz:=hAr.keep fQ;have B11:=A0.keep fQ;have LM:=A4.keep fQ;have uF:=ah (hST.out.keep fQ)
         have Gy:=ah (xY.out.keep fQ λ_ a ha=>by
          have h:=lints xY.out (by rw[HLZ.out];exact hlt);injection ha with ha;rw[<-ha]
          exact h.1)
         have Ql:BN.cell? ⟨R,q+j*17+5,none⟩=some (.int .i64 x.ld.id):=(fQ.cell (p:=⟨R,_,none⟩) BK).trans ((Ym.out 5 aj).trans rfl);have afK:=fQ.size;obtain⟨l0,aB,aC,bH⟩:=At.three B11;have hcs1:=sw B f xs1 Yj;rw[HX.out]at hcs1;have hcs2:=wC B f xs1 (j+1);rw[zZ.out,TR.out k,HCS.out]at hcs2;have aje:=HCS.out;have hnn:=HN.out;obtain⟨ly,qI⟩:=aA (Fw.lay B f x.ld.id i0 i1 cs0 t1);have JJ:ly.id=x.ld.id:=by rw[<-qI];rfl
         have M9:=ah (show q+j*17+5+7<=cs2.size by have:=hC.out.1;rw[iN]at this;have h2:j*17+17<=xs1.length*17:=aj;omega);have n1:w.heap.size≠Y.pm:=by omega
         have n2':w.heap.size≠R:=by omega
         have n5:U≠Y.pm:=by omega
         have n6:U≠R:=by omega
         have hSd:Out (λb=>b=Y.pm\/b=R) BN BN.drew/\BN.drew.cell? ⟨R,q+j*17+5,none⟩=some (.int .i64 x.ld.id)/\True:=⟨(Out.refl _ _).drew,Ql,trivial⟩;clear fQ Ym qE hAr A0 A4 hST xY;refine lF (S:=λX=>Out (λb=>b=Y.pm\/b=R) BN X/\X.cell? ⟨R,q+j*17+5,none⟩=some (.int .i64 x.ld.id)/\True) 15 ?_ ?_
         . exact hSd
         intro hx;clear hSd;refine gJ 0 ?_;refine gJ 1 ?_;refine gJ 2 ?_;refine gJ 3 ?_;refine gJ 4 ?_;refine gJ 5 ?_;refine gJ 6 ?_;refine gJ 7 ?_;refine gJ 8 ?_;refine gJ 9 ?_;refine gJ 10 ?_;have kr:=nJ hL qR sV.out hkm (afJ.out.after ((Below.refl BN.heap.size BN).drew)) x.ld.id i0 i1 cs0 t1 mI.out.d mI.out.f aj;rw[qI]at kr;refine tk1 11 ?_;refine ak.Step.call dV kr ?_;rintro e' je ⟨rfl,n3',P3,hn3,nV,Cz,kV⟩;have TJ:R<BN.drew.heap.size:=pz.lt;have oo:At je R (.cells cs2 168):=At.out (M:=λb=>b=Y.pm) (At.drew pz) aj kV;have uE:je.cell? ⟨R,q+j*17+5,none⟩=some (.int .i64 x.ld.id):=(Out.cell kV (q+j*17+5) TJ aj).trans Ql;have qz:Out (λb=>b=Y.pm\/b=R) BN je:=((Out.refl _ BN).drew).trans (kV.mono λb _ h => .inl h);refine⟨_,rfl,λ_=>⟨qz,uE,trivial⟩,?_⟩
         (try simp only[bL,bM,bN,tks])
         have IZ:Out (λb=>b=Y.pm\/b=R) BN je/\je.cell? ⟨R,q+j*17+5,none⟩=some (.int .i64 x.ld.id)/\True:=⟨qz,uE,trivial⟩;refine gJ 12 ?_;refine gJ 13 ?_;refine tk1 14 ?_;refine ak.Step.skip (fB og (.tmp 149) (.tmp 147) rfl rfl rfl oo (dG ly) M9.out (pJ ly)) ?_;have L8:At (je.setRow R (splice cs2 (q+j*17+5) (eH ly))) R (.cells (splice cs2 (q+j*17+5) (eH ly)) 168):=At.setRow oo _;have pE:Out (λb=>b=R) je (je.setRow R (splice cs2 (q+j*17+5) (eH ly))):=Out.setRow (M:=λb=>b=R) (Out.refl _ _) rfl _;have abS:(je.setRow R (splice cs2 (q+j*17+5) (eH ly))).cell? ⟨R,q+j*17+5,none⟩=some (.int .i64 x.ld.id):=by
          have h1:=om (cs:=cs2) (vs:=eH ly) (q:=q+j*17+5) (j:=0) Z54 (by rw[dG];omega);rw[Nat.add_zero]at h1;rw[L8.cell,h1,<-JJ];rfl
         have hOr:=qz.trans (pE.mono λb _ h => .inr h);refine⟨λ_=>⟨hOr,abS,trivial⟩,?_⟩
         (try simp only[bL,bM,bN,tks])
         refine ko ?_;have rC:¬ P3 R:=λh=>wM (Cz R TJ h);have hput:=hC.out.Qg hjc ly;rw[qy _ _ Yj,HX.out]at hput
         have ahN:Hid (fE (splice cs2 (q+j*17+5) (eH ly)) q (sD (Yq B f z i0 i1 sz) xs1 (j+1))):=ah (by
          rw[<-zW _ _ Yj,HX.out];have e:Yq B f z i0 i1 sz j x={ x with ld:=ly }:=by
           unfold Yq;rw[hv,xO,HSX.out,<-qI,<-ht1,rH,<-Fv];rfl
          rw[e]
          exact hput.1)
         have uJ:=nV.own (M:=λb=>b=R) pE λb hb h=>by subst h;exact⟨rC,ru⟩
         have Yr:=B11.out (M:=λb=>b=Y.pm\/b=R) aj hOr;have JE:=LM.out (M:=λb=>b=Y.pm\/b=R) aj hOr;have Qq:=ah (uF.out.out (M:=λb=>b=Y.pm\/b=R) aj hOr);have afL:=ah (vK Gy.out hOr aj);have Ja:∀b,b<N4->P3 b->P b:=λb hb h=>xP b hb (Cz b (by show b<BN.heap.size;omega) h);have FL:N4<=(je.setRow R (splice cs2 (q+j*17+5) (eH ly))).heap.size:=aJ (aJ ES afK) hOr.size;generalize je.setRow R (splice cs2 (q+j*17+5) (eH ly))=bS at *;generalize splice cs2 (q+j*17+5) (eH ly)=z8 at *;clear hx IZ hput oo pE abS uE kV qz hOr Cz nV kr l0 aB aC bH Ql pz B11 LM uF Gy hC lU cU0 cU1 AU afJ;go_wp2
         go_roundw
         case rel=>exact⟨j+1,n3',P3,z8,by omega,by go_num,by omega,uJ,Ja,FL,L8,ahN,Yr,JE,Qq,afL⟩
         case measure=>simp[intOf];omega
     . obtain rfl:j=k:=by omega
       have hC2:Hid (fE cs2 q xs2):=ah (by
        have:=hC.out;rw[<-zZ.out,D9,<-HX2.out]at this
        exact this)
       have HN2:Hid (n2<=n+2*(fl.map (Fw.cst B f)).sum):=ah (by
        have h1:=hn2;rw[TR.out j,HCS.out]at h1
        omega)
       have wM:¬ P2 R:=λh=>VI (xP R lR4 h);have hPN:=ah (show¬ P2 (w.heap.size+1)from λh=>by have:=hP _ (xP _ aj h);omega);have qx:=ah hSr;have aaP:=ah hSr.lt;have hb6:Below wr.heap.size wr (wr.alloc (.cells #[.int .i64 1] 3)):=Below.alloc' aF _;have xL:At (wr.alloc (.cells #[.int .i64 1] 3)) wr.heap.size (.cells #[.int .i64 1] 3):=At.new _ _;have Ef:=Vx (some ⟨R,q,none⟩) xs2 j wr.heap.size _ ((hC2.out.ims hAr).after hb6) (by rw[HL2.out];omega) (xL.cell 0) xL.lt;rw[HL2.out]at Ef;have hs6:=hb6.size;clear hC hn2 hlt hSr xP xL
       go_upto_region 20 with(first|(go_at_call 100;(with_reducible refine(oQ 1 _).mono ?_);rintro e w1 ⟨rfl,rfl⟩)|(go_at_call 95;(with_reducible refine Ef.mono ?_);rintro e' w7 ⟨⟨bt,rfl,gbt,hT⟩,wX⟩))
       have L9:Below wr.heap.size wr w7:=hb6.trans (wX.mono hs6);have elg:long.length=j:=by rw[<-HLG.out];simp[oU,HL2.out]
       have hIt:Ints w7 (some ⟨bt,0,none⟩) long:=by
        have h1:=gM _ _ JK hT;have h2:=sF (oU xs2);rw[HLG.out,elg]at h2;rw[HLG.out,h2]at h1;exact h1
       have hS7:=qx.out.after L9;have MO:=hAr.keep L9;have B7:=A0.keep L9;have C7:=A4.keep L9;have aaR:=ah (hST.out.keep L9);have hN7:N4<=w7.heap.size:=aJ ES L9.size;have hP7:=ah (λb (h:P2 b)=>aV (aaP.out b h) L9.size);have HIt:=ah hIt;clear Ef hb6 wX hT gbt hs6 qx hAr A0 A4 hST ES aaP L9 hIt xY;have I5:w7.cell? ⟨T,46,none⟩=some (.int .i64 (s.c 46)):=(aaR.out.cell 46).trans (bG s aj rfl);have lT7:=aaR.out.lt;have RU:∀X,(Instr.build 120 #[(1,.int .i64 high)]).run Tryz.prog X=.ok (.agg #[.slice none 0 0,.int .i64 high]) X:=λ_=>by kernel_rfl
       have nU:=LA (some ⟨bt,0,none⟩) long j j (s.c 46) w7 HIt.out elg aD aj;rw[HHI.out]at nU;have ELG:=ah elg;clear elg
       go_upto_region 21 with(go_at_call 101;(with_reducible refine nU.mono ?_);rintro e w8 ⟨rfl,rfl⟩)
       generalize hW:World.alloc _ _=w9;obtain⟨Cb,hCb⟩:=aA w7.heap.size;have AC:At w9 Cb (.cells #[.slice none 0 0,.int .i64 high] 120):=hW▸At.new' _ hCb.symm;have gV:Below w7.heap.size w7 w9:=hW▸Below.alloc' aF _;have hPC:¬ P2 Cb:=λh=>by have:=hP7.out Cb h;omega
       have gC:N4<=Cb:=by omega
       rw[hCb];have MQ:=hS7.after gV;have qF:=MO.keep gV;have B9:=B7.keep gV;have C9:=C7.keep gV;have VW:=ah (aaR.out.keep gV);have afM:=ah (HIt.out.after gV);have hN9:N4<=w9.heap.size:=aJ hN7 gV.size;clear hW nU RU gV hS7 MO B7 C7 aaR HIt I5 lT7 hCb hP7 hN7;obtain⟨l0,aB,aC,bH⟩:=At.three B9;obtain⟨lC,FJ,FK⟩:=At.two AC
       go_upto_if 163 with(fail)
       go_cut [16]from 162 to 166 (λv w2=>v=.int .i64 room/\Below w9.heap.size w9 w2)
       case first =>
        by_cases hh:i1 = -1
        . have e1:=HRM.out
          rw[if_pos hh]at e1;exact Z41
        . have e1:=HRM.out
          rw[if_neg hh]at e1;exact Z41
       case rest =>
        obtain⟨rfl,jy⟩:=hcut;have nV:=MQ.after jy;have oo:=qF.keep jy;have B10:=B9.keep jy;have MS:=C9.keep jy;have yY:=AC.keep jy;have Ej:=ah (VW.out.keep jy);have Ed:N4<=wc.heap.size:=aJ hN9 jy.size;have ahO:=nV.lt;have acQ:wc.cell? ⟨T,43,none⟩=some (.int .i64 (s.c 43)):=(Ej.out.cell 43).trans (bG s aj rfl);have I5:wc.cell? ⟨T,46,none⟩=some (.int .i64 (s.c 46)):=(Ej.out.cell 46).trans (bG s aj rfl);have ahP:=Ej.out.lt;have R7:=D8 (some ⟨bt,0,none⟩) long j j (s.c 43) room (s.c 46) wc (afM.out.after jy) ELG.out aD aj;have e:Ju.row (Ju.starts (s.c 43) room (s.c 46) long) j=st:=by rw[<-HST.out,HL2.out]
        rw[e]at R7;clear e MQ qF B9 C9 AC VW afM hN9 jy l0 aB aC bH lC FJ FK
        go_upto_region 25 with(go_at_call 102;(with_reducible refine R7.mono ?_);rintro e' cZ ⟨⟨bst,rfl,ahQ,Ov⟩,fQ⟩)
        have rD:=nV.after fQ;have pz:=oo.keep fQ;have B11:=B10.keep fQ;have LM:=MS.keep fQ;have Jb:=yY.keep fQ;have uF:=ah (Ej.out.keep fQ);have WE:=ah Ov;obtain⟨N5,TL⟩:=aA cZ.heap.size;have Cr:∀b,P2 b->b<N5:=λb h=>by have h1:=rD.lt b h;rw[TL]at h1;exact h1
        have ajf:N4<=N5:=by have:=fQ.size;omega
        have lC5:Cb<N5:=by have:=Jb.lt;omega
        have ahR:st≠[]->bst<N5:=λh=>by
         obtain⟨b',o',e,hl,hc⟩:=Ints.at_ Ov (k:=0) (List.length_pos_iff.2 h);injection e with e;injection e with e1 e2;omega
        have HN5:=ah TL;have HP5:=ah Cr;have ahS:=ah hPC;have hXL:Hid (xs.length=j):=ah (by rw[<-HXS.out.1,List.length_mapIdx,HL2.out]);have nst:bst≠Cb:=by have:=yY.lt;omega
        clear R7 fQ nV oo B10 MS yY Ej Ov ahQ ahO Ed acQ I5 ahP TL Cr hPC
        go_loopw [174] (λiv wr=>∃(i:Nat) (v:Value),i<=j/\iv=.int .i64 i/\rA Y B F w P n2 P2 wr/\At wr R (.cells cs2 168)/\At wr Cb (.cells #[v,.int .i64 high] 120)/\Hid (wr.ownsRow N5 77 7 v (xs.take i).length (wO (xs.take i)))/\At wr w.heap.size (.cells #[.int .i64 z,.int .i64 i0,.int .i64 i1] 75)/\At wr (w.heap.size+1) (.cells #[.slice none 0 0,.int .i64 0] 120)/\Hid (At wr T (.cells (cells s) 46))/\Hid (Ints wr (some ⟨bst,0,none⟩) st)/\N5<=wr.heap.size) (λiv _=>j-(intOf iv).toNat)
        case atStart=>exact⟨0,.slice none 0 0,fC _,rfl,rD,pz,Jb,ah (World.ownsRow_nil _ _ _ _),B11,LM,uF,WE,by rw[HN5.out];exact aG _⟩
        case round =>
         clear rD pz Jb B11 LM uF WE;obtain⟨i,v,hi,rfl,hSr,hAr,AC,hown,A0,A4,hST,xY,ES⟩:=hrel;by_cases hlt:i<j
         . have hltz:(i:Int)<(j:Int):=by omega
           have hix:i<xs2.length:=by rw[HL2.out];exact hlt
           have qG:=hC2.out.at_ hAr hix;obtain⟨x,hx⟩:=aA (xs2[i]);rw[hx]at qG;have HX:=ah hx;have qx:=ah hSr;obtain⟨lz,cz⟩:=lints xY.out (by rw[Jz.out];exact hlt);obtain⟨v0,hv0⟩:=aA (st.getD i 0);rw[hv0]at cz;have HV0:=ah hv0;have BK:=hAr.lt;clear hx hSr hv0
           go_upto_region 28 with(first|(refine dD aX _ rfl rfl (by with_reducible assumption) ?_)|(refine bX aX rfl ?_)|(refine bU aX _ _ rfl rfl rfl Z59 ?_))
           generalize hW:World.setRow _ _ _=W3;obtain⟨Q,hQ⟩:=aA wr.heap.size;have AQ:At W3 Q (.cells (nS x) 168):=hW▸hQ▸At.setRow (At.new _ _) _;have hb3:Below wr.heap.size wr W3:=hW▸bW (Below.alloc' aF _) aD _;have gQ:wr.heap.size<=Q:=Nat.le_of_eq hQ;have gQ2:Q<=wr.heap.size:=Nat.le_of_eq hQ.symm;rw[hQ];clear hW hQ qG cz lz BK;have ade:=ah (hST.out.keep hb3);have B3:=A0.keep hb3;have VR:W3.cell? ⟨T,44,none⟩=some (.int .i64 (s.c 44)):=(ade.out.cell 44).trans (bG s aj rfl);have lT3:=ade.out.lt;have lQ:=AQ.lt;have hIQ:Hid (rz W3 Q 0 x):=ah λj hj=>by rw[Nat.zero_add];exact AQ.cell j
           obtain⟨l0,aB,aC,bH⟩:=At.three B3;have hSd:Below W3.heap.size W3 W3.drew:=Below.drew aF;refine lF (S:=λX=>Below W3.heap.size W3 X) 10 ?_ ?_
           . exact hSd
           intro hx;clear hSd;refine aM 0 ?_;refine aM 1 ?_;refine rO 3 rfl (DY (.tmp 19) aX rfl rfl (λX h=>rz.keep hIQ.out h lQ)) ?_;refine aM 5 ?_;refine aM 6 ?_;refine aM 7 ?_;refine tk1 2 ?_;refine ak.Step.call dV (oQ 0 _) ?_;rintro e' w7 ⟨rfl,hw7⟩;have wX:Below W3.drew.heap.size W3.drew w7:=hw7▸Below.alloc' aF _;have AB:At w7 W3.drew.heap.size (.cells #[.int .i64 0] 3):=hw7▸At.new _ _;clear hw7;replace hx:=Below.ay hx aD wX;generalize W3.drew.heap.size=Bq at *;refine⟨_,rfl,λ_=>hx,?_⟩
           (try simp only[bL,bM,bN,tks])
           refine tk1 4 ?_;refine ak.Step.call dV (Qd x Bq w7 (AB.cell 0)) ?_;rintro e' w8 ⟨rfl,wW⟩;replace hx:=Below.ay hx aD wW;refine⟨_,rfl,λ_=>hx,?_⟩
           (try simp only[bL,bM,bN,tks])
           refine tk1 8 ?_;refine ak.Step.call dV (Bc (s.c 44) (AV x) i0 w8) ?_;rintro e' w9 ⟨rfl,rfl⟩;refine⟨_,rfl,λ_=>hx,?_⟩
           (try simp only[bL,bM,bN,tks])
           refine aM 9 ?_;refine ko ?_;have afN:Below wr.heap.size wr w8:=Below.ay hb3 aD hx;have AQ8:=AQ.keep hx;clear wX wW AB hx ade B3 VR lT3 l0 aB aC bH hIQ AQ lQ hb3;obtain⟨la,hla⟩:=aA (Ju.across (s.c 44) (AV x) i0);rw[hla];obtain⟨p0,hp0⟩:=aA (IntKind.i64.wrap (la+x.m0));obtain⟨p1,hp1⟩:=aA (IntKind.i64.wrap (v0+x.m2));obtain⟨y,hy⟩:∃y:Fw.Ld,{ x.ld with a0:=p0,a1:=p1 }=y:=⟨_,rfl⟩;have HY:Hid (clE (s.c 44) i0 st i x=y):=ah (by unfold clE;rw[HV0.out,hla,<-rH (v0+x.m2),<-rH (la+x.m0),hp0,hp1];exact hy)
           have HTK:Hid (xs.take (i+1)=xs.take i++[y]):=ah (by
            have hxi:i<xs.length:=by rw[hXL.out];exact hlt
            rw[List.take_succ_eq_append_getElem hxi];congr 2;have e:=HXS.out.1;have e2:xs[i]=clE (s.c 44) i0 st i xs2[i]:=by subst e;simp
            rw[e2,HX.out,HY.out])
           have lQ8:=AQ8.lt;have c13:w8.cell? ⟨Q,13,none⟩=some (.int .i64 x.m0):=(AQ8.cell 13).trans rfl;have c15:w8.cell? ⟨Q,15,none⟩=some (.int .i64 x.m2):=(AQ8.cell 15).trans rfl;have c10:w8.cell? ⟨Q,10,none⟩=some (.int .i64 x.ld.a0):=(AQ8.cell 10).trans rfl;have c11:w8.cell? ⟨Q,11,none⟩=some (.int .i64 x.ld.a1):=(AQ8.cell 11).trans rfl;have z10:=AQ8.thaw 10;have z11:=AQ8.thaw 11
           go_upto_region 30 with(fail)
           generalize hW:World.setCell _ _ _=W9;have AQ9:At W9 Q (.cells (nS { x with ld:=y }) 168):=by
            rw[<-hW,<-hy];exact At.set (At.set AQ8 10 _) 11 _
           have gV:Below wr.heap.size wr W9:=by
            rw[<-hW];exact Below.setCell (Below.setCell afN gQ _) gQ _
           clear hW lQ8 c13 c15 c10 c11 z10 z11 AQ8 afN hp0 hp1 hla hy;have LY:=bJ (M:=λ_=>False) hown.out (λ_ _ q=>q) (Out.of_below gV);have Yk:=gV.size;obtain⟨g',c',w',hr,hown',hOa⟩:=R8 y LY aj jM;obtain⟨ln,hln⟩:=aA ((xs.take i).length+1);rw[hln]at hr hown';clear hln;have hrun:=ah hr
           have hQL:∀j,j<7->W9.cell? ⟨Q,5+j,none⟩=(eH y)[j]? := λj hj=>by
            rw[AQ9.cell];exact Z2r
           have WB:∀b,v.ownBlock=some b->N5<=b:=λb h=>(hown.out.lt b h).1;have Yt:=AC.keep gV;have ACn:At w' Cb (.cells #[v,.int .i64 high] 120):=At.out (M:=λb=>v.ownBlock=some b) (Yt.alloc _) (λh=>by have:=WB Cb h;omega) hOa;obtain⟨lC9,ac6,ac7⟩:=At.two Yt;obtain⟨lCn,ac8,ac9⟩:=At.two ACn;have ac':=ACn.thaw 0;have lQ9:=AQ9.lt;have HQL:=ah hQL;clear hr LY hQL
           go_upto_region 31 with(first|(refine eY zU og aX _ rfl rfl (dG y) HQL.out ?_)|(refine uG aX _ rfl rfl ?_)|(at_builtin;refine wpList_append_run aX _ _ 118 rfl rfl rfl hrun.out ?_))
           generalize hW:World.setCell _ _ _=LK;have yY:At LK Cb (.cells #[.slice (some ⟨g',0,none⟩) ln c',.int .i64 high] 120):=hW▸At.set ACn 0 _;have LZ:Out (λb=>b=Cb) w' LK:=hW▸Out.set (M:=λb=>b=Cb) (Out.refl _ _) rfl 0 _
           have OH:Hid (LK.ownsRow N5 77 7 (.slice (some ⟨g',0,none⟩) ln c') (xs.take (i+1)).length (wO (xs.take (i+1)))):=ah (by
            rw[HTK.out]
            exact bJ (M:=λb=>b=Cb) hown' (λg hg e=>by have:=(hown'.lt g hg).1;omega) LZ)
           have L6:Out (λb=>v.ownBlock=some b\/b=Cb) wr LK:=(Out.of_below (Below.alloc' gV _)).trans ((hOa.mono λb _ h => .inl h).trans (LZ.mono λb _ h => .inr h))
           have hoff:∀b,b<N5->b≠Cb->¬ (v.ownBlock=some b\/b=Cb):=λb hb hn h=>by
            rcases h with h|h
            . have:=WB b h;omega
            . exact hn h
           have nV:=qx.out.own L6 λb hb h=>by
            rcases h with h|h
            . have h1:=WB b h
              exact⟨λhp=>by have:=HP5.out b hp;omega,by omega⟩
            . subst h
              exact⟨ahS.out,by omega⟩
           have oo:=hAr.out (hoff R aj aj) L6;have B10:=A0.out (hoff _ aj aj) L6;have MS:=A4.out (hoff _ aj aj) L6;have Ej:=ah (hST.out.out (hoff T aj aj) L6);have afO:=ah (vK xY.out L6 (hoff bst (ahR (λe=>by have:=Jz.out;rw[e]at this;simp at this;omega)) aj));have Ed:N5<=LK.heap.size:=aJ ES L6.size;clear hW ACn LZ hown' hOa L6 hoff Yt lC9 ac6 ac7 lCn ac8 ac9 ac' lQ9 HQL gV Yk AQ9 hown hAr A0 A4 AC hST xY hrun;go_wp2
           go_roundw
           case rel=>exact⟨i+1,_,by omega,by go_num,nV,oo,yY,OH,B10,MS,Ej,afO,Ed⟩
           case measure=>simp[intOf];omega
         . obtain rfl:i=j:=by omega
           have hfull:xs.take i=xs:=List.take_of_length_le (by rw[hXL.out];exact aG _);rw[hfull]at hown
           have hxne:xs≠[]:=λe=>by
            have h1:=hXL.out;rw[e]at h1;have h2:=HM.out;exact hne (List.length_eq_zero_iff.1 (by rw[h2,<-h1];rfl))
           obtain⟨Rr,cap,csr,rfl,WB,gR,AR,GH⟩:=LC hown.out hxne;obtain⟨lC,FJ,FK⟩:=At.two AC;obtain⟨l4,fF,fG⟩:=At.two A4;have iQ:=A4.thaw 0;have iR:=A4.thaw 1;have lw:w.heap.size+1<wr.heap.size:=A4.lt;have HRC:=ah GH;have qx:=ah hSr;have hHI:=ah HXS.out.2;clear GH hown hSr hfull hxne hAr A0 hST xY;go_wp2;generalize hW:World.setCell _ _ _=W6;replace A4:At W6 (w.heap.size+1) (.cells #[.slice (some ⟨Rr,0,none⟩) xs.length cap,.int .i64 high] 120):=hW▸At.set (At.set A4 0 _) 1 _;have TI:Out (λb=>b=w.heap.size+1) wr W6:=by
            exact Z2s
           clear hW fF fG iQ iR lC FJ FK AC;have AR6:=AR.out (M:=λb=>b=w.heap.size+1) aj TI;have zo:=qx.out.own TI λb hb h=>by subst h;exact⟨hPN.out,by omega⟩
           obtain⟨l4,fF,fG⟩:=At.two A4;have mP:=zo.fin;have JG:=zo.kp;have hNw:=zo.new;have adb:¬ P2 Rr:=λh=>by have:=HP5.out Rr h;omega
           refine bodyPost_ret (v:=.agg #[.slice (some ⟨Rr,0,none⟩) xs.length cap,.int .i64 high]) (by simp[results,Tryz.results68,go_sem,fF,fG,l4];first|done|exact⟨rfl,rfl⟩|rfl) rfl ⟨Rr,cap,csr,P2,n2,by rw[hHI.out],by omega,AR6,HRC.out,HN2.out,JG,hNw,adb,mP⟩
end
structure Wk(B:Int->Fw.Bx)(F:Int->Nat)(D:Int->Prop):Prop where
 down:∀z,D z->∀k∈(B z).fl,D k/\F z=F k+1
 len:∀z,D z->(B z).fl.length<=64
 kind:∀z,D z->(B z).sty.c 0=0\/(B z).sty.c 0=1\/(B z).sty.c 0=2
 deep:∀z,D z->F z<=1000
theorem nA.lt{X:World}{b:Nat}(h:nA X b):b<X.heap.size:=by
 obtain⟨n,g,h1,_⟩:=h;exact h1.lt
section
variable {Y:sj} {B:Int->Fw.Bx} {F:Int->Nat} {D:Int->Prop}
def adf(Y:sj)(B:Int->Fw.Bx)(F:Int->Nat)(D:Int->Prop)(f:Nat):Prop :=
 ∀(z i0 i1:Int) (w:World) (n:Nat) (P:Nat->Prop),D z->F z=f->Wf i0->Wf i1->RO w Y B D nA->Kp Y B F n P w->(∀b,P b->b<w.heap.size)->n+Fw.cst B f z<maxLen ->
  Calls Tryz.prog 47 #[.pointer (some ⟨Y.lb,0,none⟩),.agg #[.int .i64 z,.int .i64 i0,.int .i64 i1]] w λe w' =>
   ∃v n' P',e=.returned v/\CV w' P' v (Fw.cont B f z i0 i1)/\n'<=n+Fw.cst B f z/\Kp Y B F n' P' w'/\(∀b,P' b->P b\/w.heap.size<=b)/\Out (λb=>b=Y.pm) w w'
theorem aaS(B:Int->Fw.Bx)(f:Nat)(z:Int):1<=Fw.cst B f z:=by
 cases f<;>simp only[Fw.cst]<;>omega
theorem abT(W:Wk B F D)(f:Nat)(hL:∀f',f=f'+1->vJ Y B F D nA f'):adf Y B F D f:=by
 intro z i0 i1 w n P hz hf h0 h1 hR ER hP hn;have hc1:=aaS B f z;by_cases hne:(B z).fl=[]
 . have hc:Fw.cont B f z i0 i1=([],(B z).sty.c 54):=by
    cases f with
    | zero=>rfl
    | succ f=>simp only[Fw.cont];rw[if_pos hne]
   refine(IW nA.keep z i0 i1 hz w hR hne).mono λe w' ⟨he,hb⟩ => ?_;refine⟨_,n,P,he,?_,by omega,ER.out (M:=λ_=>False) (Out.of_below hb) λ_ _ q=>q,λb h => .inl h,Out.of_below hb⟩;rw[hc];exact⟨none,0,rfl,.inl rfl⟩
 . obtain⟨f',rfl⟩:∃f',f=f'+1:=by
    cases hfl:(B z).fl with
    | nil=>exact absurd hfl hne
    | cons k l =>
      have:=(W.down z hz k (by rw[hfl];simp)).2;exact⟨F k,by omega⟩
   have hdn:∀k∈(B z).fl,D k/\F k=f':=λk hk=>by
    have:=W.down z hz k hk;exact⟨this.1,by omega⟩
   obtain⟨hpP,g,hg,hgv⟩:=ER;have ER:Kp Y B F n P w:=⟨hpP,g,hg,hgv⟩;have hzw:=hR.wf z hz;cases hgk:g (klit z i0 i1)with
   | some v =>
     have hcv:=hgv z i0 i1 v hzw h0 h1 hgk;rw[hf]at hcv;obtain⟨A,cap,rfl,hld⟩:=hcv;refine(IX nA.keep z i0 i1 hz w hR n h0 h1 hne g hg _ _ _ _ hgk).mono λe w' ⟨he,hb⟩ => ?_;exact⟨_,n,P,he,⟨A,cap,rfl,hld.out (M:=λ_=>False) (Out.of_below hb) (λ_ _ q=>q) λ_ q=>q⟩,by omega,ER.out (M:=λ_=>False) (Out.of_below hb) λ_ _ q=>q,λb h => .inl h,Out.of_below hb⟩
   | none =>
     obtain⟨xs,hxs⟩:=aA ((Fw.kind B (Fw.lay B f') f' z i0 i1).1);obtain⟨hi,hhi⟩:=aA ((Fw.kind B (Fw.lay B f') f' z i0 i1).2);have hk:Fw.kind B (Fw.lay B f') f' z i0 i1=(xs,hi):=by rw[<-hxs,<-hhi]
     have El:xs.map (·.id)=(B z).fl:=by rw[<-hxs];exact Fw.JY B f' z i0 i1
     have hcn:Fw.cont B (F z) z i0 i1=(xs.map (Fw.mv B i0 i1),hi):=by
      rw[hf];simp only[Fw.cont];rw[if_neg hne];show((Fw.kind B (Fw.lay B f') f' z i0 i1).1.map (Fw.mv B i0 i1),(Fw.kind B (Fw.lay B f') f' z i0 i1).2)=_;rw[hxs,hhi]
     have hDx:∀x∈xs,D x.id:=λx hx=>(hdn x.id (by rw[<-El];exact List.mem_map_of_mem hx)).1;have hlx:xs.length=(B z).fl.length:=by rw[<-El,List.length_map]
     have adg:=W.len z hz;have adh:f'<=1000:=by have:=W.deep z hz;omega
     have aaF:Fw.cst B (f'+1) z=1+3*((B z).fl.map (Fw.cst B f')).sum:=rfl;rw[aaF]at hn hc1 ⊢
     have hxne:xs≠[]:=λe=>by
      rw[e]at El;exact hne El.symm
     have key:∀(kf:FuncId),(∀(args:Array Value) (X:World),(callFunc kf args).run Tryz.prog X=.ok (.enter kf args) X)->(∀X,nA X Y.km->(Instr.lookup 80 (.map (some Y.km)) (.int .i64 ((B z).sty.c 0)) false).run Tryz.prog X=.ok (.func (.func kf) #[] #[]) X) ->
       (∀X,RO X Y B D nA->Kp Y B F n P X->(∀b,P b->b<X.heap.size)->Calls Tryz.prog kf #[.pointer (some ⟨Y.lb,0,none⟩),.agg #[.int .i64 z,.int .i64 i0,.int .i64 i1]] X λe X'=>∃R cap cs P' n',e=.returned (.agg #[.slice (some ⟨R,0,none⟩) xs.length cap,.int .i64 hi])/\X.heap.size<=R/\At X' R (.cells cs 77)/\oV cs xs/\n'<=n+2*((B z).fl.map (Fw.cst B f')).sum/\Kp Y B F n' P' X'/\(∀b,P' b->P b\/X.heap.size<=b)/\¬ P' R/\Out (λb=>b=Y.pm) X X') ->
       Calls Tryz.prog 47 #[.pointer (some ⟨Y.lb,0,none⟩),.agg #[.int .i64 z,.int .i64 i0,.int .i64 i1]] w λe w' =>
        ∃v n' P',e=.returned v/\CV w' P' v (Fw.cont B (f'+1) z i0 i1)/\n'<=n+(1+3*((B z).fl.map (Fw.cst B f')).sum)/\Kp Y B F n' P' w'/\(∀b,P' b->P b\/w.heap.size<=b)/\Out (λb=>b=Y.pm) w w':=λkf hcf MP hkind =>
      (Lj nA.keep nA.out F z i0 i1 hz w hR n P ER hP h0 h1 hne kf hcf hR.kinds.lt MP xs hi hcn hDx (2*((B z).fl.map (Fw.cst B f')).sum) aj aj g hg hgk hkind).mono λe w' ⟨v,P',n',h1,h2,h3,h4,h5,h6⟩=>⟨v,n',P',h1,by rw[hf]at h2;exact h2,by omega,h4,h5,h6⟩
     rcases W.kind z hz with hq|hq|hq
     . refine key 66 (λ_ _=>rfl) (λX h=>h.look _ _ (.inl ⟨hq,rfl⟩)) λX Yu hKX hPX => ?_
       refine acY (hL f' rfl) nA.keep nA.out W.down (λz hz=>aJ (W.len z hz) aj) adh Yu Yu.kinds.lt z i0 i1 hz hdn hne adg n hKX hPX aj xs hi ?_;rw[<-hk];unfold Fw.kind;rw[if_neg aj,if_neg aj]
     . refine key 67 (λ_ _=>rfl) (λX h=>h.look _ _ (.inr (.inl ⟨hq,rfl⟩))) λX Yu hKX hPX => ?_
       refine ahE (hL f' rfl) nA.keep nA.out Yu Yu.kinds.lt z i0 i1 hz hdn hne adg n hKX hPX aj xs hi ?_ hxne;rw[<-hk];unfold Fw.kind;rw[if_pos hq]
     . refine key 68 (λ_ _=>rfl) (λX h=>h.look _ _ (.inr (.inr ⟨hq,rfl⟩))) λX Yu hKX hPX => ?_
       refine aaQ (hL f' rfl) nA.keep nA.out Yu Yu.kinds.lt z i0 i1 hz hdn hne adg n hKX hPX aj xs hi ?_;rw[<-hk];unfold Fw.kind;rw[if_neg aj,if_pos hq]
theorem GL(W:Wk B F D)(f:Nat)(hI:adf Y B F D f):vJ Y B F D nA f:=by
 intro z r0 r1 t0 t1 w n P hz hf hR ER hP hkm hn
 refine(aai (Iv:=λP X=>Kp Y B F n P X/\∀b,P b->b<X.heap.size) (Iv2:=λP X=>∃n',n'<=n+Fw.cst B f z/\Kp Y B F n' P X) nA.keep
  (λ{P M X X'} h k hm=>⟨h.1.out k hm,λb hb=>aV (h.2 b hb) k.size⟩)
  (λ{P M X X'} h k hm=>by obtain⟨n',h1,h2⟩:=h;exact⟨n',h1,h2.out k hm⟩)
  (λ{P X} h=>⟨n,by omega,h.1⟩) P z r0 r1 t0 t1 hz w hR ⟨ER,hP⟩ hP (Fw.cont B f) ?_).mono λe w' ⟨he,⟨P',⟨n',h1,h2⟩,h3⟩,h4⟩=>⟨he,n',P',h1,h2,h3,h4⟩
 intro X i0 Yu hKX hi0;have hb:=Fw.tu (B z).sty 0 r0 r0 t0;refine(hI z i0 (-1) X n P hz hf (by rw[iX,hi0];omega) Z51 Yu hKX.1 hKX.2 hn).mono λe X' ⟨v,n',P',he,hcv,hn',hK',hP',hO⟩ => ?_;obtain⟨A,cap,rfl,_⟩:=hcv;exact⟨⟨_,he⟩,⟨P',⟨n',hn',hK'⟩,hP'⟩,hO⟩
theorem Je(Y:sj)(W:Wk B F D):∀f,adf Y B F D f/\vJ Y B F D nA f:=by
 intro f
 induction f with
 | zero =>
   have h:=abT (Y:=Y) W 0 λf' e=>by omega
   exact⟨h,GL W 0 h⟩
 | succ f ih =>
   have h:=abT (Y:=Y) W (f+1) λf' e=>by obtain rfl:f=f':=aj;exact ih.2
   exact⟨h,GL W (f+1) h⟩
end
def Em(s:Re.St)(y:Nat)(ry r0:Int):Int:=if Fw.zJ s y ry=true\/Fw.BU s y 0 ry=false\/Fw.BU s y 1 ry=false then -1 else max (Fw.wr (Fw.wr (Fw.wr (ry-Fw.ins s y 0 ry)-Fw.ins s y 1 ry)-Fw.Cc s y r0)) 0
theorem adi(b:Nat)(s:Re.St)(fl ap:Value)(ib:Bool)(r0 r1:Int)(w:World)(h:aL w b s fl ap ib):Calls Tryz.prog 72 #[.pointer (some ⟨b,0,none⟩),.int .i64 0,.agg #[.int .i64 r0,.int .i64 r1]] w λx w'=>x=.returned (.int .i64 (Em s 0 r0 r0))/\Below w.heap.size w w':=by
 have i0:∀(a b c d:Int) (w:World),(Instr.index 115 (.agg #[.int .i64 a,.int .i64 b,.int .i64 c,.int .i64 d]) (.int .i64 0)).run Tryz.prog w=.ok (.agg #[.int .i64 a,.int .i64 b]) w:=λ_ _ _ _ _=>by kernel_rfl
 have i1:∀(a b c d:Int) (w:World),(Instr.index 115 (.agg #[.int .i64 a,.int .i64 b,.int .i64 c,.int .i64 d]) (.int .i64 1)).run Tryz.prog w=.ok (.agg #[.int .i64 c,.int .i64 d]) w:=λ_ _ _ _ _=>by kernel_rfl
 obtain⟨ans,iM⟩:=aA (Em s 0 r0 r0);rw[iM];have hfd:Fw.zJ s 0 r0=Fx.jg (s.c 3) r0:=rfl;unfold Em at iM;rw[hfd]at iM;have gY:=ah iM;clear iM hfd;go_enter Tryz.func72,Tryz.ntmps72
 go_upto_region 1 with(fail)
 generalize hW:World.alloc _ _=W0;have A0:At W0 w.heap.size (.cells #[.int .i64 r0,.int .i64 r1] 71):=hW▸At.new _ _;have A2:aL W0 b s fl ap ib:=hW▸aL.alloc h _;have hB:Below w.heap.size w W0:=hW▸Below.alloc' aF _;clear hW h;obtain⟨l0,aB,aC⟩:=A0.two
 go_upto_region 2 with((go_at_call 105;(with_reducible refine(vE b s fl ap ib r0 r1 _ A2).mono ?_);rintro e w3 ⟨rfl,hb⟩))
 replace A0:=A0.keep hb;replace A2:=A2.keep hb;replace hB:=Below.ay hB aD hb;clear l0 aB aC hb;obtain⟨l0,aB,aC⟩:=A0.two
 go_upto_region 3 with((go_at_call 105;(with_reducible refine(yN b s fl ap ib r0 r1 _ A2).mono ?_);rintro e w4 ⟨rfl,hb⟩))
 replace A0:=A0.keep hb;replace A2:=A2.keep hb;replace hB:=Below.ay hB aD hb;clear l0 aB aC hb;obtain⟨l0,aB,aC⟩:=A0.two;obtain⟨l2,aR,aS,aT,aU,bC,bD,bA,bB⟩:=At.bx0 A2;generalize Fw.ins s 0 0 r0=p0 at *;generalize Fw.ins s 0 1 r0=p1 at *;cases hfx:Fx.jg (s.c 3) r0 with
 | true =>
   have E:Hid (-1=ans):=ah (by rw[<-gY.out,hfx];simp);clear gY;exact Zv
 | false =>
   cases hg0:Fw.BU s 0 0 r0 with
   | false =>
     have E:Hid (-1=ans):=ah (by rw[<-gY.out,hg0];simp);clear gY hg0;exact Zv
   | true =>
     cases hg1:Fw.BU s 0 1 r0 with
     | false =>
       have E:Hid (-1=ans):=ah (by rw[<-gY.out,hg1];simp);clear gY hg1 hg0;exact Zv
     | true =>
       have E:Hid (max (Fw.wr (Fw.wr (Fw.wr (r0-p0)-p1)-Fw.Cc s 0 r0)) 0=ans):=ah (by rw[<-gY.out,hfx,hg0,hg1];simp);exact Z19
theorem adj(b:Nat)(s:Re.St)(fl ap:Value)(ib:Bool)(r0 r1:Int)(w:World)(h:aL w b s fl ap ib):Calls Tryz.prog 72 #[.pointer (some ⟨b,0,none⟩),.int .i64 1,.agg #[.int .i64 r0,.int .i64 r1]] w λx w'=>x=.returned (.int .i64 (Em s 1 r1 r0))/\Below w.heap.size w w':=by
 have i0:∀(a b c d:Int) (w:World),(Instr.index 115 (.agg #[.int .i64 a,.int .i64 b,.int .i64 c,.int .i64 d]) (.int .i64 0)).run Tryz.prog w=.ok (.agg #[.int .i64 a,.int .i64 b]) w:=λ_ _ _ _ _=>by kernel_rfl
 have i1:∀(a b c d:Int) (w:World),(Instr.index 115 (.agg #[.int .i64 a,.int .i64 b,.int .i64 c,.int .i64 d]) (.int .i64 1)).run Tryz.prog w=.ok (.agg #[.int .i64 c,.int .i64 d]) w:=λ_ _ _ _ _=>by kernel_rfl
 obtain⟨ans,iM⟩:=aA (Em s 1 r1 r0);rw[iM];have hfd:Fw.zJ s 1 r1=Fx.jg (s.c 5) r1:=rfl;unfold Em at iM;rw[hfd]at iM;have gY:=ah iM;clear iM hfd;go_enter Tryz.func72,Tryz.ntmps72
 go_upto_region 1 with(fail)
 generalize hW:World.alloc _ _=W0;have A0:At W0 w.heap.size (.cells #[.int .i64 r0,.int .i64 r1] 71):=hW▸At.new _ _;have A2:aL W0 b s fl ap ib:=hW▸aL.alloc h _;have hB:Below w.heap.size w W0:=hW▸Below.alloc' aF _;clear hW h;obtain⟨l0,aB,aC⟩:=A0.two
 go_upto_region 2 with((go_at_call 105;(with_reducible refine(uQ b s fl ap ib r0 r1 _ A2).mono ?_);rintro e w3 ⟨rfl,hb⟩))
 replace A0:=A0.keep hb;replace A2:=A2.keep hb;replace hB:=Below.ay hB aD hb;clear l0 aB aC hb;obtain⟨l0,aB,aC⟩:=A0.two
 go_upto_region 3 with((go_at_call 105;(with_reducible refine(x8 b s fl ap ib r0 r1 _ A2).mono ?_);rintro e w4 ⟨rfl,hb⟩))
 replace A0:=A0.keep hb;replace A2:=A2.keep hb;replace hB:=Below.ay hB aD hb;clear l0 aB aC hb;obtain⟨l0,aB,aC⟩:=A0.two;obtain⟨l2,aR,aS,aT,aU,bC,bD,bA,bB⟩:=At.bx1 A2;generalize Fw.ins s 1 0 r1=p0 at *;generalize Fw.ins s 1 1 r1=p1 at *;cases hfx:Fx.jg (s.c 5) r1 with
 | true =>
   have E:Hid (-1=ans):=ah (by rw[<-gY.out,hfx];simp);clear gY;exact Zv
 | false =>
   cases hg0:Fw.BU s 1 0 r1 with
   | false =>
     have E:Hid (-1=ans):=ah (by rw[<-gY.out,hg0];simp);clear gY hg0;exact Zv
   | true =>
     cases hg1:Fw.BU s 1 1 r1 with
     | false =>
       have E:Hid (-1=ans):=ah (by rw[<-gY.out,hg1];simp);clear gY hg1 hg0;exact Zv
     | true =>
       have E:Hid (max (Fw.wr (Fw.wr (Fw.wr (r1-p0)-p1)-Fw.Cc s 1 r0)) 0=ans):=ah (by rw[<-gY.out,hfx,hg0,hg1];simp);exact Z19
def GN(s:Re.St)(y:Nat)(ry r0 pad long:Int):Int:=if Fw.BU s y 0 ry=true then Fw.wr (Fw.ins s y 0 ry+Fw.mg s y 0 r0)else if Fw.BU s y 1 ry=true then Fw.wr (Fw.wr (Fw.wr (ry-Fw.ins s y 1 ry)-Fw.mg s y 1 r0)-long)else Fw.wr (pad+Fw.mg s y 0 r0)
theorem WG(b:Nat)(s:Re.St)(fl ap:Value)(ib:Bool)(a0 a1 r0 r1 p0 p1 long:Int)(w:World)(h:aL w b s fl ap ib):Calls Tryz.prog 75 #[.pointer (some ⟨b,0,none⟩),.int .i64 0,.agg #[.int .i64 a0,.int .i64 a1,.int .i64 r0,.int .i64 r1,.int .i64 p0,.int .i64 p1],.int .i64 long] w λx w'=>x=.returned (.int .i64 (GN s 0 r0 r0 p0 long))/\Below w.heap.size w w':=by
 have i0:∀(a b c d:Int) (w:World),(Instr.index 115 (.agg #[.int .i64 a,.int .i64 b,.int .i64 c,.int .i64 d]) (.int .i64 0)).run Tryz.prog w=.ok (.agg #[.int .i64 a,.int .i64 b]) w:=λ_ _ _ _ _=>by kernel_rfl
 have i1:∀(a b c d:Int) (w:World),(Instr.index 115 (.agg #[.int .i64 a,.int .i64 b,.int .i64 c,.int .i64 d]) (.int .i64 1)).run Tryz.prog w=.ok (.agg #[.int .i64 c,.int .i64 d]) w:=λ_ _ _ _ _=>by kernel_rfl
 obtain⟨ans,iM⟩:=aA (GN s 0 r0 r0 p0 long);rw[iM];unfold GN at iM;have gY:=ah iM;clear iM;go_enter Tryz.func75,Tryz.ntmps75
 go_upto_region 1 with(fail)
 generalize hW:World.alloc _ _=W0;have A0:At W0 w.heap.size (.cells #[.int .i64 a0,.int .i64 a1,.int .i64 r0,.int .i64 r1,.int .i64 p0,.int .i64 p1] 140):=hW▸At.new _ _;have A2:aL W0 b s fl ap ib:=hW▸aL.alloc h _;have hB:Below w.heap.size w W0:=hW▸Below.alloc' aF _;clear hW h;obtain⟨l0,aB,aC,bH,mF,ql,qm⟩:=At.six A0
 go_upto_region 2 with((go_at_call 77;(with_reducible refine(gy b s fl ap ib r0 r1 _ A2).mono ?_);rintro e w3 ⟨rfl,hb⟩))
 generalize hW:World.alloc _ _=W1;have A1:At W1 w3.heap.size (.cells #[.int .i64 (Fw.mg s 0 0 r0),.int .i64 (Fw.mg s 0 1 r0)] 114):=hW▸At.new _ _;have hb2:Below W0.heap.size W0 W1:=hW▸(hb.trans (Below.mono (Below.alloc' aF _) hb.size));clear hW hb;generalize w3.heap.size=T at *;replace A0:=A0.keep hb2;replace A2:=A2.keep hb2;replace hB:=Below.ay hB aD hb2;clear l0 aB aC bH mF ql qm hb2;obtain⟨l0,aB,aC,bH,mF,ql,qm⟩:=At.six A0;generalize Fw.mg s 0 0 r0=m0 at *;generalize Fw.mg s 0 1 r0=m1 at *
 go_upto_region 3 with((go_at_call 105;(with_reducible refine(vE b s fl ap ib r0 r1 _ A2).mono ?_);rintro e w4 ⟨rfl,hb⟩))
 replace A0:=A0.keep hb;replace A1:=A1.keep hb;replace A2:=A2.keep hb;replace hB:=Below.ay hB aD hb;clear l0 aB aC bH mF ql qm hb;obtain⟨l0,aB,aC,bH,mF,ql,qm⟩:=At.six A0;obtain⟨l1,aP,aQ⟩:=A1.two;generalize Fw.ins s 0 0 r0=q0 at *;cases hg0:Fw.BU s 0 0 r0 with
 | true =>
   exact Z3f
 | false =>
   have HG:=ah hg0;clear hg0
   go_upto_region 6 with((go_at_call 105;(with_reducible refine(yN b s fl ap ib r0 r1 _ A2).mono ?_);rintro e w5 ⟨rfl,hb⟩))
   replace A0:=A0.keep hb;replace A1:=A1.keep hb;replace A2:=A2.keep hb;replace hB:=Below.ay hB aD hb;clear l0 aB aC bH mF ql qm hb l1 aP aQ;obtain⟨l0,aB,aC,bH,mF,ql,qm⟩:=At.six A0;obtain⟨l1,aP,aQ⟩:=A1.two;generalize Fw.ins s 0 1 r0=q1 at *;cases hg1:Fw.BU s 0 1 r0 with
   | true =>
     have E:Hid (Fw.wr (Fw.wr (Fw.wr (r0-q1)-m1)-long)=ans):=ah Z56;clear gY hg1 HG
     go_upto_region 7 with(fail)
     exact Z14
   | false =>
     have E:Hid (Fw.wr (p0+m0)=ans):=ah Z56;clear gY hg1 HG
     go_upto_region 8 with(fail)
     exact Z14
theorem WH(b:Nat)(s:Re.St)(fl ap:Value)(ib:Bool)(a0 a1 r0 r1 p0 p1 long:Int)(w:World)(h:aL w b s fl ap ib):Calls Tryz.prog 75 #[.pointer (some ⟨b,0,none⟩),.int .i64 1,.agg #[.int .i64 a0,.int .i64 a1,.int .i64 r0,.int .i64 r1,.int .i64 p0,.int .i64 p1],.int .i64 long] w λx w'=>x=.returned (.int .i64 (GN s 1 r1 r0 p1 long))/\Below w.heap.size w w':=by
 have i0:∀(a b c d:Int) (w:World),(Instr.index 115 (.agg #[.int .i64 a,.int .i64 b,.int .i64 c,.int .i64 d]) (.int .i64 0)).run Tryz.prog w=.ok (.agg #[.int .i64 a,.int .i64 b]) w:=λ_ _ _ _ _=>by kernel_rfl
 have i1:∀(a b c d:Int) (w:World),(Instr.index 115 (.agg #[.int .i64 a,.int .i64 b,.int .i64 c,.int .i64 d]) (.int .i64 1)).run Tryz.prog w=.ok (.agg #[.int .i64 c,.int .i64 d]) w:=λ_ _ _ _ _=>by kernel_rfl
 obtain⟨ans,iM⟩:=aA (GN s 1 r1 r0 p1 long);rw[iM];unfold GN at iM;have gY:=ah iM;clear iM;go_enter Tryz.func75,Tryz.ntmps75
 go_upto_region 1 with(fail)
 generalize hW:World.alloc _ _=W0;have A0:At W0 w.heap.size (.cells #[.int .i64 a0,.int .i64 a1,.int .i64 r0,.int .i64 r1,.int .i64 p0,.int .i64 p1] 140):=hW▸At.new _ _;have A2:aL W0 b s fl ap ib:=hW▸aL.alloc h _;have hB:Below w.heap.size w W0:=hW▸Below.alloc' aF _;clear hW h;obtain⟨l0,aB,aC,bH,mF,ql,qm⟩:=At.six A0
 go_upto_region 2 with((go_at_call 77;(with_reducible refine(gy b s fl ap ib r0 r1 _ A2).mono ?_);rintro e w3 ⟨rfl,hb⟩))
 generalize hW:World.alloc _ _=W1;have A1:At W1 w3.heap.size (.cells #[.int .i64 (Fw.mg s 1 0 r0),.int .i64 (Fw.mg s 1 1 r0)] 114):=hW▸At.new _ _;have hb2:Below W0.heap.size W0 W1:=hW▸(hb.trans (Below.mono (Below.alloc' aF _) hb.size));clear hW hb;generalize w3.heap.size=T at *;replace A0:=A0.keep hb2;replace A2:=A2.keep hb2;replace hB:=Below.ay hB aD hb2;clear l0 aB aC bH mF ql qm hb2;obtain⟨l0,aB,aC,bH,mF,ql,qm⟩:=At.six A0;generalize Fw.mg s 1 0 r0=m0 at *;generalize Fw.mg s 1 1 r0=m1 at *
 go_upto_region 3 with((go_at_call 105;(with_reducible refine(uQ b s fl ap ib r0 r1 _ A2).mono ?_);rintro e w4 ⟨rfl,hb⟩))
 replace A0:=A0.keep hb;replace A1:=A1.keep hb;replace A2:=A2.keep hb;replace hB:=Below.ay hB aD hb;clear l0 aB aC bH mF ql qm hb;obtain⟨l0,aB,aC,bH,mF,ql,qm⟩:=At.six A0;obtain⟨l1,aP,aQ⟩:=A1.two;generalize Fw.ins s 1 0 r1=q0 at *;cases hg0:Fw.BU s 1 0 r1 with
 | true =>
   exact Z3f
 | false =>
   have HG:=ah hg0;clear hg0
   go_upto_region 6 with((go_at_call 105;(with_reducible refine(x8 b s fl ap ib r0 r1 _ A2).mono ?_);rintro e w5 ⟨rfl,hb⟩))
   replace A0:=A0.keep hb;replace A1:=A1.keep hb;replace A2:=A2.keep hb;replace hB:=Below.ay hB aD hb;clear l0 aB aC bH mF ql qm hb l1 aP aQ;obtain⟨l0,aB,aC,bH,mF,ql,qm⟩:=At.six A0;obtain⟨l1,aP,aQ⟩:=A1.two;generalize Fw.ins s 1 1 r1=q1 at *;cases hg1:Fw.BU s 1 1 r1 with
   | true =>
     have E:Hid (Fw.wr (Fw.wr (Fw.wr (r1-q1)-m1)-long)=ans):=ah Z56;clear gY hg1 HG
     go_upto_region 7 with(fail)
     exact Z14
   | false =>
     have E:Hid (Fw.wr (p1+m0)=ans):=ah Z56;clear gY hg1 HG
     go_upto_region 8 with(fail)
     exact Z14
end Go.Proofs.YtmidaiklolmkcaaGreat.Fix
