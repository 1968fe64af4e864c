/- What functions of the program do, in plain numbers, part 16; no conditions. -/
import Derived.Test.YtmidaiklolmkcaaGreatM15
set_option linter.unusedVariables false
set_option linter.unusedSimpArgs false
set_option linter.unusedSectionVars false
set_option maxRecDepth 100000
set_option maxHeartbeats 16000000
namespace Go.Proofs.YtmidaiklolmkcaaGreat.Fix
open Go.ChangeShapes Go.WideShapes Go.ChangeAt Go.RowKit
section
variable {Y:sj} {B:Int->Fw.Bx} {F:Int->Nat} {D:Int->Prop} {KM:World->Nat->Prop} {f:Nat} {w:World} {P:Nat->Prop}
theorem acY(hL:vJ Y B F D KM f)(hK:∀(X X':World) (b:Nat),KM X b->Below X.heap.size X X'->KM X' b)(qR:∀(X X':World) (b:Nat),KM X b->Out (λq=>q≠b) X X'->KM X' b)(Bd:∀z,D z->∀k∈(B z).fl,D k/\F z=F k+1)(hlen:∀z,D z->(B z).fl.length<=10000)(hf:f<=1000)(hR0:RO w Y B D KM)(hkm:Y.km<w.heap.size)
  (z i0 i1:Int) (hz:D z) (hdn:∀k∈(B z).fl,D k/\F k=f) (hne:(B z).fl≠[]) (hl:(B z).fl.length<=64) (n:Nat) (ER:Kp Y B F n P w) (hP:∀b,P b->b<w.heap.size) (hn:n+2*((B z).fl.map (Fw.cst B f)).sum<maxLen) (xs:List Fw.Ld) (hi:Int) (hm:Fw.lH B (Fw.lay B f) f z i0 i1=(xs,hi)) :
  Calls Tryz.prog 66 #[.pointer (some ⟨Y.lb,0,none⟩),.agg #[.int .i64 z,.int .i64 i0,.int .i64 i1]] w λe w'=>∃R cap cs P' n',e=.returned (.agg #[.slice (some ⟨R,0,none⟩) xs.length cap,.int .i64 hi])/\w.heap.size<=R/\At w' R (.cells cs 77)/\oV cs xs/\n'<=n+2*((B z).fl.map (Fw.cst B f)).sum/\Kp Y B F n' P' w'/\(∀b,P' b->P b\/w.heap.size<=b)/\¬ P' R/\Out (λb=>b=Y.pm) w w':=by
 obtain⟨es0,RG,pU⟩:=hR0.EO;have hpl:=pU.lt;obtain⟨fl,hfl⟩:=aA ((B z).fl);rw[hfl]at hdn hne hl hn ⊢;obtain⟨s,hs⟩:=aA ((B z).sty);obtain⟨MR,hib⟩:=aA ((B z).ib);obtain⟨ks,hks⟩:=aA (fl.map (Fw.jR B (Fw.lay B f) i0 i1));obtain⟨szl,R5⟩:∃l:List Int,ks.map (·.s1)=l:=⟨_,rfl⟩;obtain⟨uq,aaC⟩:=aA ((fl.map λk=>Fx.coll (Fw.meet B 0 f k)));obtain⟨sW,aaD⟩:=aA ((fl.map λk=>Fx.coll (Fw.meet B 1 f k)));obtain⟨first,Oz⟩:=aA ((if Fw.opn s MR 0=true then 0 else uq.getD 0 0));obtain⟨last,hlast⟩:=aA ((if Fw.opn s MR 1=true then 0 else sW.getD (sW.length-1) 0));obtain⟨m,hmm⟩:=aA fl.length
 have HXS:Hid (ks.mapIdx (blG first szl uq sW)=xs/\Fw.wr (Fw.wr (first+Fx.pI szl uq sW m)+last)=hi):=ah (by
  unfold Fw.lH at hm;simp only[hfl,hs,hib,hks,R5,aaC,aaD,Oz,hlast,hmm]at hm;injection hm with h1 h2
  exact⟨h1,h2⟩)
 have HLK:Hid (ks.length=m):=ah (by rw[<-hks,List.length_map,hmm]);have HLS:Hid (szl.length=m):=ah (by rw[<-R5,List.length_map,HLK.out]);have Jz:Hid (uq.length=m):=ah (by rw[<-aaC,List.length_map,hmm]);have HLU:Hid (sW.length=m):=ah (by rw[<-aaD,List.length_map,hmm]);have HKS:=ah hks;have HSZ:=ah R5;have HTP:=ah aaC;have HBT:=ah aaD;have M9:=ah Oz;have HLA:=ah hlast;have HSS:=ah hs;have HIB:=ah hib;have F5:=ah hfl;have HM:=ah hmm;have HN:=ah hn;have HDN:=ah hdn;have sV:=ah hR0;have HDW:=ah Bd;have HLEN:=ah hlen;rw[hmm]at hl;have hm0:0<m:=by rw[<-hmm];exact List.length_pos_iff.2 hne
 clear hm hks R5 aaC aaD Oz hlast hmm Bd hlen;have hS:=rA.start ER hP;have wL:=hR0;obtain⟨b0,hb0⟩:=aA (Y.bl z);obtain⟨hbx,aeS,_⟩:=wL.box z hz;obtain⟨A,cp,hvf,hI,hle,hmx,hAn⟩:=aeS.ints;have hlp:0<(B z).fl.length:=by rw[hfl];exact List.length_pos_iff.2 hne
 obtain⟨b1,o1,rfl,TH,_⟩:=hI.at_ hlp;rw[hb0,hs,hib,hvf,hfl]at hbx;have HVF:Hid (Y.vf z=.slice (some ⟨b1,o1,none⟩) m cp):=ah (by rw[hvf,hfl,HM.out]);rw[HM.out]at hbx;generalize Y.va z=zva at hbx;have R4:=hbx.lt
 have n0p:b0≠Y.pm:=λe=>by
  rw[e]at hbx;exact absurd (At.uniq hbx pU) eZ
 have nlp:Y.lb≠Y.pm:=λe=>by
  have h1:=wL.lay;rw[e]at h1;exact absurd (At.uniq h1 pU) eZ
 have b01:Below w.heap.size w ((w.alloc (.cells #[.int .i64 z,.int .i64 i0,.int .i64 i1] 75)).alloc (.cells #[.slice none 0 0,.int .i64 0] 120)):=Below.alloc' (Below.alloc' aF _) _;have A0:At ((w.alloc (.cells #[.int .i64 z,.int .i64 i0,.int .i64 i1] 75)).alloc (.cells #[.slice none 0 0,.int .i64 0] 120)) w.heap.size (.cells #[.int .i64 z,.int .i64 i0,.int .i64 i1] 75):=At.alloc (At.new _ _) _;have A4:At ((w.alloc (.cells #[.int .i64 z,.int .i64 i0,.int .i64 i1] 75)).alloc (.cells #[.slice none 0 0,.int .i64 0] 120)) (w.heap.size+1) (.cells #[.slice none 0 0,.int .i64 0] 120):=At.new' _ EM;have hS1:=hS.after b01;have Fh:=wL.keep hK b01;have Wo:=ah (aL.keep hbx b01);clear hdn hR0 wL hS pU hs hib hbx hfl ER hn aeS hI hle hmx hAn hvf hlp TH;go_enter Tryz.func66,Tryz.ntmps66
 go_upto_region 1 with(fail)
 generalize (w.alloc (.cells #[.int .i64 z,.int .i64 i0,.int .i64 i1] 75)).alloc (.cells #[.slice none 0 0,.int .i64 0] 120)=w1 at *;have aeT:=A4.lt;have hsz:=b01.size;have hlk:=λX (h:Below w1.heap.size w1 X)=>(Fh.keep hK h).look hz;simp only[hb0]at hlk;obtain⟨lY,xw,xA,zu,zw,zy,zA⟩:=At.six Fh.lay;obtain⟨l0,aB,aC,bH⟩:=At.three A0;have hSd:Below w1.heap.size w1 w1.drew:=Below.drew aF;refine lF (S:=λX=>Below w1.heap.size w1 X) 8 ?_ ?_
 . exact hSd
 intro hx;clear hSd;refine aM 0 ?_;refine aM 1 ?_;refine aM 2 ?_;refine aM 3 ?_;refine aM 4 ?_;refine aM 5 ?_;refine rO 6 rfl (eB aX rfl rfl rfl (λX h=>hlk X h)) ?_;refine aM 7 ?_;refine ko ?_;have hx2:Below w1.heap.size w1 w1.drew:=hx;generalize w1.drew=w3 at *;have aar:=hx2.size;have uN:=hS1.after hx2;have B3:=A0.keep hx2;have C3:=A4.keep hx2;have Ac:=ah (aL.keep Wo.out hx2);clear b01 A0 A4 hS1 Fh hlk xw xA zu zw zy zA lY hx hb0 Wo l0 aB aC bH hx2;obtain⟨csR,hmk,aeU⟩:=aal w3 m aj;have VA:=ah hmk;have HCR:=ah aeU;have JA:=aL.lt Ac.out;have qD:w3.cell? ⟨b0,71,none⟩=some (.slice (some ⟨b1,o1,none⟩) m cp):=aL.ext Ac.out 16;have RU:∀b X,(Instr.build 120 #[(0,.slice (some ⟨b,0,none⟩) m m)]).run Tryz.prog X=.ok (.agg #[.slice (some ⟨b,0,none⟩) m m,.int .i64 0]) X:=λb X=>by kernel_rfl
 clear hmk aeU
 go_upto_region 3 with(refine mO aX _ _ 118 rfl VA.out ?_)
 generalize hW:World.alloc _ _=w4;obtain⟨R,hR⟩:=aA w3.heap.size;have AR:At w4 R (.cells csR 77):=hW▸At.alloc (At.new' _ hR.symm) _;have AC:At w4 (R+1) (.cells #[.slice (some ⟨R,0,none⟩) m m,.int .i64 0] 120):=by
  rw[<-hW,<-hR];exact At.new' _ eZ
 have hb4:Below w3.heap.size w3 w4:=hW▸Below.alloc' (Below.alloc' aF _) _;rw[hR];have Qk:=uN.after hb4;have B4:=B3.keep hb4;have C4:=C3.keep hb4;have LH:=ah (aL.keep Ac.out hb4);have gR:w.heap.size+1<R:=by omega
 have acN:=hb4.size;have gRs:R+1<w4.heap.size:=AC.lt;clear hW hR hb4 uN B3 C3 Ac qD JA RU VA;have JA:=aL.lt LH.out;have qD:w4.cell? ⟨b0,71,none⟩=some (.slice (some ⟨b1,o1,none⟩) m cp):=aL.ext LH.out 16;refine ak.kE (λa0 a W5=>∃(Ts Tv Tu:Nat) (u33 u34 u35 u36 u37 u38 u39 u40 u41 u42 u43 u44 u45 u46 u47 u48 u49 u50:Value),a={ a0 with tmps:=((((((((((((((((((((a0.tmps.setIfInBounds 33 u33).setIfInBounds 34 u34).setIfInBounds 35 u35).setIfInBounds 36 u36).setIfInBounds 37 u37).setIfInBounds 38 u38).setIfInBounds 39 u39).setIfInBounds 40 u40).setIfInBounds 41 u41).setIfInBounds 42 u42).setIfInBounds 43 u43).setIfInBounds 44 u44).setIfInBounds 45 u45).setIfInBounds 46 u46).setIfInBounds 47 u47).setIfInBounds 48 u48).setIfInBounds 49 u49).setIfInBounds 50 u50).setIfInBounds 7 (.slice (some ⟨Ts,0,none⟩) m m)).setIfInBounds 8 (.slice (some ⟨Tv,0,none⟩) m m)).setIfInBounds 9 (.slice (some ⟨Tu,0,none⟩) m m) }/\(w4.heap.size<=Ts/\w4.heap.size<=Tv/\w4.heap.size<=Tu)/\(Ts≠Tv/\Ts≠Tu/\Tv≠Tu)/\At W5 Ts (.cells (aO (λi=>szl.getD i 0) m 0) 3)/\At W5 Tv (.cells (aO (λi=>uq.getD i 0) m 0) 3)/\At W5 Tu (.cells (aO (λi=>sW.getD i 0) m 0) 3)/\Below w4.heap.size w4 W5) ?_ ?_
 . have hSd:Below w4.heap.size w4 w4.drew:=Below.drew aF
   refine lF (S:=λX=>Below w4.heap.size w4 X) 21 ?_ ?_
   . exact hSd
   intro hx;clear hSd;refine aM 0 ?_;refine aM 1 ?_;refine aM 2 ?_;refine aM 3 ?_;refine aM 4 ?_;refine aM 6 ?_;refine aM 7 ?_;refine aM 8 ?_;refine aM 9 ?_;refine aM 10 ?_;refine aM 12 ?_;refine aM 13 ?_;refine aM 14 ?_;refine aM 15 ?_;refine aM 16 ?_;clear qD JA AR AC B4 C4 LH Qk;refine ak.yV (i:=5) (j:=11) (k:=17) jD rfl rfl rfl aX aX aX ?_ ?_ ?_
   . refine ak.Step.value (dK (λi=>szl.getD i 0) (n:=m) (.tmp 37) (.tmp 37) rfl rfl rfl aj) ?_
     obtain⟨nN,bF,As,hb⟩:∃w9,w9=w4.drew.alloc (.cells (aO (λi=>szl.getD i 0) m 0) 3)/\At w9 w4.drew.heap.size (.cells (aO (λi=>szl.getD i 0) m 0) 3)/\Below w4.drew.heap.size w4.drew w9:=⟨_,rfl,At.new _ _,Below.alloc' aF _⟩;rw[<-bF];clear bF;have gs:=hx.size;obtain⟨Ts,hTs⟩:=aA w4.drew.heap.size;rw[hTs]at As gs;rw[hTs];clear hTs;replace hx:=Below.ay hx aD hb;clear hb;refine⟨λ_=>hx,?_⟩
     (try simp only[bL,bM,bN,tks])
     refine aM 18 ?_;refine tk2 11 17 ?_ ?_
     . refine ak.Step.value (dK (λi=>uq.getD i 0) (n:=m) (.tmp 43) (.tmp 43) rfl rfl rfl aj) ?_
       obtain⟨o9,bF,Av,hb⟩:∃w9,w9=nN.alloc (.cells (aO (λi=>uq.getD i 0) m 0) 3)/\At w9 nN.heap.size (.cells (aO (λi=>uq.getD i 0) m 0) 3)/\Below nN.heap.size nN w9:=⟨_,rfl,At.new _ _,Below.alloc' aF _⟩;rw[<-bF];clear bF;have gv:=hx.size;obtain⟨Tv,M5⟩:=aA nN.heap.size;rw[M5]at Av gv;rw[M5];have nsv:Ts<Tv:=by have:=As.lt;omega
       replace As:=As.keep hb;clear M5;replace hx:=Below.ay hx aD hb;clear hb;refine⟨λ_=>hx,?_⟩
       (try simp only[bL,bM,bN,tks])
       exact Z12
     . refine ak.Step.value (dK (λi=>sW.getD i 0) (n:=m) (.tmp 49) (.tmp 49) rfl rfl rfl aj) ?_
       obtain⟨o9,bF,Au,hb⟩:∃w9,w9=nN.alloc (.cells (aO (λi=>sW.getD i 0) m 0) 3)/\At w9 nN.heap.size (.cells (aO (λi=>sW.getD i 0) m 0) 3)/\Below nN.heap.size nN w9:=⟨_,rfl,At.new _ _,Below.alloc' aF _⟩;rw[<-bF];clear bF;have gu:=hx.size;obtain⟨Tu,M4⟩:=aA nN.heap.size;rw[M4]at Au gu;rw[M4];have nsu:Ts<Tu:=by have:=As.lt;omega
       replace As:=As.keep hb;clear M4;replace hx:=Below.ay hx aD hb;clear hb;refine⟨λ_=>hx,?_⟩
       (try simp only[bL,bM,bN,tks])
       exact Z13
   . refine ak.Step.value (dK (λi=>uq.getD i 0) (n:=m) (.tmp 43) (.tmp 43) rfl rfl rfl aj) ?_
     obtain⟨nN,bF,Av,hb⟩:∃w9,w9=w4.drew.alloc (.cells (aO (λi=>uq.getD i 0) m 0) 3)/\At w9 w4.drew.heap.size (.cells (aO (λi=>uq.getD i 0) m 0) 3)/\Below w4.drew.heap.size w4.drew w9:=⟨_,rfl,At.new _ _,Below.alloc' aF _⟩;rw[<-bF];clear bF;have gv:=hx.size;obtain⟨Tv,M5⟩:=aA w4.drew.heap.size;rw[M5]at Av gv;rw[M5];clear M5;replace hx:=Below.ay hx aD hb;clear hb;refine⟨λ_=>hx,?_⟩
     (try simp only[bL,bM,bN,tks])
     refine tk2 5 17 ?_ ?_
     . refine ak.Step.value (dK (λi=>szl.getD i 0) (n:=m) (.tmp 37) (.tmp 37) rfl rfl rfl aj) ?_
       obtain⟨o9,bF,As,hb⟩:∃w9,w9=nN.alloc (.cells (aO (λi=>szl.getD i 0) m 0) 3)/\At w9 nN.heap.size (.cells (aO (λi=>szl.getD i 0) m 0) 3)/\Below nN.heap.size nN w9:=⟨_,rfl,At.new _ _,Below.alloc' aF _⟩;rw[<-bF];clear bF;have gs:=hx.size;obtain⟨Ts,hTs⟩:=aA nN.heap.size;rw[hTs]at As gs;rw[hTs];have nsv:Tv<Ts:=by have:=Av.lt;omega
       replace Av:=Av.keep hb;clear hTs;replace hx:=Below.ay hx aD hb;clear hb;refine⟨λ_=>hx,?_⟩
       (try simp only[bL,bM,bN,tks])
       refine aM 18 ?_;exact Z12
     . refine ak.Step.value (dK (λi=>sW.getD i 0) (n:=m) (.tmp 49) (.tmp 49) rfl rfl rfl aj) ?_
       obtain⟨o9,bF,Au,hb⟩:∃w9,w9=nN.alloc (.cells (aO (λi=>sW.getD i 0) m 0) 3)/\At w9 nN.heap.size (.cells (aO (λi=>sW.getD i 0) m 0) 3)/\Below nN.heap.size nN w9:=⟨_,rfl,At.new _ _,Below.alloc' aF _⟩;rw[<-bF];clear bF;have gu:=hx.size;obtain⟨Tu,M4⟩:=aA nN.heap.size;rw[M4]at Au gu;rw[M4];have nuv:Tv<Tu:=by have:=Av.lt;omega
       replace Av:=Av.keep hb;clear M4;exact Zx
   . refine ak.Step.value (dK (λi=>sW.getD i 0) (n:=m) (.tmp 49) (.tmp 49) rfl rfl rfl aj) ?_
     obtain⟨nN,bF,Au,hb⟩:∃w9,w9=w4.drew.alloc (.cells (aO (λi=>sW.getD i 0) m 0) 3)/\At w9 w4.drew.heap.size (.cells (aO (λi=>sW.getD i 0) m 0) 3)/\Below w4.drew.heap.size w4.drew w9:=⟨_,rfl,At.new _ _,Below.alloc' aF _⟩;rw[<-bF];clear bF;have gu:=hx.size;obtain⟨Tu,M4⟩:=aA w4.drew.heap.size;rw[M4]at Au gu;rw[M4];clear M4;replace hx:=Below.ay hx aD hb;clear hb;refine⟨λ_=>hx,?_⟩
     (try simp only[bL,bM,bN,tks])
     refine tk2 5 11 ?_ ?_
     . refine ak.Step.value (dK (λi=>szl.getD i 0) (n:=m) (.tmp 37) (.tmp 37) rfl rfl rfl aj) ?_
       obtain⟨o9,bF,As,hb⟩:∃w9,w9=nN.alloc (.cells (aO (λi=>szl.getD i 0) m 0) 3)/\At w9 nN.heap.size (.cells (aO (λi=>szl.getD i 0) m 0) 3)/\Below nN.heap.size nN w9:=⟨_,rfl,At.new _ _,Below.alloc' aF _⟩;rw[<-bF];clear bF;have gs:=hx.size;obtain⟨Ts,hTs⟩:=aA nN.heap.size;rw[hTs]at As gs;rw[hTs];have nsu:Tu<Ts:=by have:=Au.lt;omega
       replace Au:=Au.keep hb;clear hTs;replace hx:=Below.ay hx aD hb;clear hb;refine⟨λ_=>hx,?_⟩
       (try simp only[bL,bM,bN,tks])
       refine aM 18 ?_;exact Z13
     . refine ak.Step.value (dK (λi=>uq.getD i 0) (n:=m) (.tmp 43) (.tmp 43) rfl rfl rfl aj) ?_
       obtain⟨o9,bF,Av,hb⟩:∃w9,w9=nN.alloc (.cells (aO (λi=>uq.getD i 0) m 0) 3)/\At w9 nN.heap.size (.cells (aO (λi=>uq.getD i 0) m 0) 3)/\Below nN.heap.size nN w9:=⟨_,rfl,At.new _ _,Below.alloc' aF _⟩;rw[<-bF];clear bF;have gv:=hx.size;obtain⟨Tv,M5⟩:=aA nN.heap.size;rw[M5]at Av gv;rw[M5];have nuv:Tu<Tv:=by have:=Au.lt;omega
       replace Au:=Au.keep hb;clear M5;exact Zx
 . rintro a W5 ⟨Ts,Tv,Tu,u33,u34,u35,u36,u37,u38,u39,u40,u41,u42,u43,u44,u45,u46,u47,u48,u49,u50,rfl,⟨gs,gv,gu⟩,⟨nsv,nsu,nvu⟩,As,Av,Au,hb5⟩
   simp only[List.setIfInBounds_toArray,List.set_cons_zero,List.set_cons_succ];have hS5:=Qk.after hb5;have AR5:=AR.keep hb5;have AC5:=AC.keep hb5;have B5:=B4.keep hb5;have C5:=C4.keep hb5;have FH:=ah (aL.keep LH.out hb5);have hsz5:=hb5.size;clear qD JA Qk AR AC B4 C4 LH hb5;have JA:=aL.lt FH.out;have qD:W5.cell? ⟨b0,71,none⟩=some (.slice (some ⟨b1,o1,none⟩) m cp):=aL.ext FH.out 16
   go_upto_region 5 with(fail)
   clear qD JA;obtain⟨N5,TL⟩:=aA W5.heap.size;have lRq:=AC5.lt;have ls5:Ts<N5:=by have:=As.lt;omega
   have lv5:Tv<N5:=by have:=Av.lt;omega
   have lu5:Tu<N5:=by have:=Au.lt;omega
   have Yn:R+1<N5:=by omega
   have n0w:b0<w.heap.size:=R4;have HN5:=ah TL;have Cr:=ah (show∀b,P b->b<w.heap.size from hP);have Wq:Hid (csR.size=m*7/\oV csR (ks.take 0)):=ah ⟨HCR.out,by simp[oV]⟩;clear TL lRq
   go_loopw [56] (λiv wr=>∃(k n':Nat) (P':Nat->Prop) (cs:Array Value),k<=m/\iv=.int .i64 k/\n'<=n+csf B f fl k/\rA Y B F w P n' P' wr/\Hid (∀b,b<N5->P' b->P b)/\N5<=wr.heap.size/\At wr R (.cells cs 77)/\Hid (cs.size=m*7/\oV cs (ks.take k))/\At wr (R+1) (.cells #[.slice (some ⟨R,0,none⟩) m m,.int .i64 0] 120)/\Hid (At wr Ts (.cells (aO (λi=>szl.getD i 0) m k) 3))/\Hid (At wr Tv (.cells (aO (λi=>uq.getD i 0) m k) 3))/\Hid (At wr Tu (.cells (aO (λi=>sW.getD i 0) m k) 3))/\At wr w.heap.size (.cells #[.int .i64 z,.int .i64 i0,.int .i64 i1] 75)/\At wr (w.heap.size+1) (.cells #[.slice none 0 0,.int .i64 0] 120)/\Hid (aL wr b0 s (.slice (some ⟨b1,o1,none⟩) m cp) zva MR)) (λiv _=>m-(intOf iv).toNat)
   case atStart=>exact⟨0,n,P,csR,fC _,rfl,by omega,hS5,ah λb _ h=>h,by rw[HN5.out];exact aG _,AR5,Wq,AC5,ah As,ah Av,ah Au,B5,C5,FH⟩
   case round =>
    clear hS5 AR5 Wq AC5 As Av Au B5 C5 FH;obtain⟨k,n',P',cs,hk,rfl,hn',hSr,xP,ES,hAr,GH,AC,hAs,hAv,hAu,A0,A4,wz⟩:=hrel;by_cases hlt:k<m
    . have hltz:(k:Int)<(m:Int):=by omega
      have MP:k<fl.length:=by rw[HM.out];exact hlt
      have qx:=ah hSr;have HRr:=ah (hSr.ro qR sV.out hkm);obtain⟨kid,FI⟩:=aA (fl[k]);have hdk:=ah (HDN.out kid (FI▸List.getElem_mem _));have RQ:=aaB HVF.out (HRr.out.box z hz).2.1 (by rw[F5.out];exact HM.out.symm);rw[F5.out]at RQ;obtain⟨TH,cb1⟩:=Sd RQ MP;rw[show fl.getD k 0=kid by rw[<-FI,List.getD,List.getElem?_eq_getElem MP];rfl]at cb1;have aaE:=ah FI;have hlk:=λX (h:Out (λb=>b=Y.pm) wr X)=>HRr.out.lookO h hdk.out.1;obtain⟨bk,hbk⟩:=aA (Y.bl kid);simp only[hbk]at hlk;have hbx:=(HRr.out.box kid hdk.out.1).1;rw[hbk]at hbx;obtain⟨sk,hsk⟩:=aA ((B kid).sty);rw[hsk]at hbx;generalize Y.vf kid=vf at hbx;generalize Y.va kid=va at hbx;generalize (B kid).ib=ib at hbx
      have TU:bk≠Y.pm:=λe=>by
       obtain⟨es1,ck1,hp1⟩:=HRr.out.EO;rw[e]at hbx;exact absurd (At.uniq hbx hp1) eZ
      have qE:=ah hbx;have HSK:=ah hsk;obtain⟨l0,aB,aC,bH⟩:=At.three A0;clear FI RQ hbk hbx hsk hSr
      go_upto_region 7 with(fail)
      clear cb1 TH;obtain⟨lY,xw,xA,zu,zw,zy,zA⟩:=At.six HRr.out.lay;have lbk:=aL.lt qE.out;have npm:Y.pm<w.heap.size:=hpl;obtain⟨ly,qI⟩:=aA (Fw.lay B f kid i0 i1 (-1) (-1));have aaF:csf B f fl (k+1)=csf B f fl k+Fw.cst B f kid:=by rw[Wi B f fl MP,aaE.out]
      have aeV:=Wj B f fl (k+1);have hnn:=HN.out;refine ak.kE (λa0 a W6=>∃(Tp Tq n2:Nat) (P2:Nat->Prop) (u61 u62 u63 u64 u65 u66 u67 u68 u69 u70 u71 u72 u73 u74 u75:Value),a={ a0 with tmps:=((((((((((((((((a0.tmps.setIfInBounds 61 u61).setIfInBounds 62 u62).setIfInBounds 63 u63).setIfInBounds 64 u64).setIfInBounds 65 u65).setIfInBounds 66 u66).setIfInBounds 67 u67).setIfInBounds 68 u68).setIfInBounds 69 u69).setIfInBounds 70 u70).setIfInBounds 71 u71).setIfInBounds 72 u72).setIfInBounds 73 u73).setIfInBounds 74 u74).setIfInBounds 75 u75).setIfInBounds 12 (.pointer (some ⟨Tp,0,none⟩))).setIfInBounds 13 (.pointer (some ⟨Tq,0,none⟩)) }/\wr.heap.size<=Tp/\wr.heap.size<=Tq/\Tp≠Tq/\At W6 Tp (.cells (eH ly) 77)/\At W6 Tq (.cells (cells sk) 46)/\n2<=n'+Fw.cst B f kid/\rA Y B F w P n2 P2 W6/\(∀b,b<wr.heap.size->P2 b->P' b)/\¬ P2 Tp/\¬ P2 Tq/\Out (λb=>b=Y.pm) wr W6) ?_ ?_
      . have n1:w.heap.size≠Y.pm:=by omega
        have hSd:Out (λb=>b=Y.pm) wr wr.drew:=(Out.refl _ _).drew;refine lF (S:=λX=>Out (λb=>b=Y.pm) wr X) 19 ?_ ?_
        . exact hSd
        intro hx;have oZ:=qx.out.after ((Below.refl wr.heap.size wr).drew);clear hSd;refine jJ 0 ?_;refine jJ 1 ?_;refine jJ 2 ?_;refine jJ 3 ?_;refine jJ 6 ?_;refine jJ 7 ?_;refine jJ 8 ?_;refine jJ 9 ?_;refine jJ 10 ?_;refine rO 11 rfl (eB aX rfl rfl rfl (λX h=>hlk X h)) ?_;refine jJ 12 ?_;refine jJ 13 ?_;refine rO 14 rfl (jd aX (.tmp 74) rfl rfl (λX h=>aL.style (At.out qE.out TU h))) ?_;clear l0 aB aC bH lY xw xA zu zw zy zA hlk hAr GH AC hAs hAv hAu A0 A4 wz qE HRr qx n1 lbk;refine ak.yV (i:=4) (j:=15) (k:=16) jD rfl rfl rfl aX aX aX ?_ ?_ ?_
        . refine ak.Step.call dV (iT _) ?_
          rintro e nN ⟨rfl,hb⟩;replace oZ:=oZ.after hb;replace hx:=Out.trans' hx (Out.of_below (M:=λ_=>False) hb) λ_ _ q=>q.elim;clear hb;refine⟨_,rfl,λ_=>hx,?_⟩
          (try simp only[bL,bM,bN,tks])
          refine ak.yV (i:=5) (j:=15) (k:=16) jD rfl rfl rfl aX aX aX ?_ ?_ ?_
          . have kr:=nJ hL qR sV.out hkm oZ kid i0 i1 (-1) (-1) hdk.out.1 hdk.out.2 aj
            rw[qI]at kr;refine ak.Step.call dV kr ?_;rintro e o9 ⟨rfl,n2,P2,hn2,CG,xu,hO⟩;have Cz:∀b,b<wr.heap.size->P2 b->P' b:=λb hb h=>xu b (aV hb hx.size) h;replace oZ:=CG;clear CG xu kr;replace hx:=hx.trans hO;clear hO;refine⟨_,rfl,λ_=>hx,?_⟩
            (try simp only[bL,bM,bN,tks])
            refine tk2 15 16 ?_ ?_
            . refine ak.Step.value (u:=.pointer (some ⟨o9.heap.size,0,none⟩)) (w':=o9.alloc (.cells #[.int .i64 0,.int .i64 0,.int .i64 0,.int .i64 0,.int .i64 0,.int .i64 0,.int .i64 0] 77)) dV ?_
              obtain⟨ET,bF,Ap,hb⟩:∃w9,w9=o9.alloc (.cells #[.int .i64 0,.int .i64 0,.int .i64 0,.int .i64 0,.int .i64 0,.int .i64 0,.int .i64 0] 77)/\At w9 o9.heap.size (.cells #[.int .i64 0,.int .i64 0,.int .i64 0,.int .i64 0,.int .i64 0,.int .i64 0,.int .i64 0] 77)/\Below o9.heap.size o9 w9:=⟨_,rfl,At.new _ _,Below.alloc' aF _⟩;rw[<-bF];clear bF;have gp:=hx.size;obtain⟨Tp,mo⟩:=aA o9.heap.size;have np:¬ P2 Tp:=λh=>by have:=oZ.lt _ h;omega
              rw[mo]at Ap gp;rw[mo];clear mo;replace oZ:=oZ.after hb;replace hx:=Out.trans' hx (Out.of_below (M:=λ_=>False) hb) λ_ _ q=>q.elim;clear hb;refine⟨λ_=>hx,?_⟩;exact Z1f
            . refine ak.Step.value (eU rfl) ?_
              obtain⟨ET,bF,Aq,hb⟩:∃w9,w9=o9.alloc (.cells (cells Re.zero) 46)/\At w9 o9.heap.size (.cells (cells Re.zero) 46)/\Below o9.heap.size o9 w9:=⟨_,rfl,At.new _ _,Below.alloc' aF _⟩;rw[<-bF];clear bF;have gq:=hx.size;obtain⟨Tq,oL⟩:=aA o9.heap.size;have nq:¬ P2 Tq:=λh=>by have:=oZ.lt _ h;omega
              rw[oL]at Aq gq;rw[oL];clear oL;replace oZ:=oZ.after hb;replace hx:=Out.trans' hx (Out.of_below (M:=λ_=>False) hb) λ_ _ q=>q.elim;clear hb;refine⟨λ_=>hx,?_⟩;exact Zj
          . refine ak.Step.value (u:=.pointer (some ⟨nN.heap.size,0,none⟩)) (w':=nN.alloc (.cells #[.int .i64 0,.int .i64 0,.int .i64 0,.int .i64 0,.int .i64 0,.int .i64 0,.int .i64 0] 77)) dV ?_
            obtain⟨o9,bF,Ap,hb⟩:∃w9,w9=nN.alloc (.cells #[.int .i64 0,.int .i64 0,.int .i64 0,.int .i64 0,.int .i64 0,.int .i64 0,.int .i64 0] 77)/\At w9 nN.heap.size (.cells #[.int .i64 0,.int .i64 0,.int .i64 0,.int .i64 0,.int .i64 0,.int .i64 0,.int .i64 0] 77)/\Below nN.heap.size nN w9:=⟨_,rfl,At.new _ _,Below.alloc' aF _⟩;rw[<-bF];clear bF;have gp:=hx.size;obtain⟨Tp,mo⟩:=aA nN.heap.size;have np:¬ P' Tp:=λh=>by have:=oZ.lt _ h;omega
            rw[mo]at Ap gp;rw[mo];clear mo;replace oZ:=oZ.after hb;replace hx:=Out.trans' hx (Out.of_below (M:=λ_=>False) hb) λ_ _ q=>q.elim;clear hb;refine⟨λ_=>hx,?_⟩;exact Zp
          . refine ak.Step.value (eU rfl) ?_
            obtain⟨o9,bF,Aq,hb⟩:∃w9,w9=nN.alloc (.cells (cells Re.zero) 46)/\At w9 nN.heap.size (.cells (cells Re.zero) 46)/\Below nN.heap.size nN w9:=⟨_,rfl,At.new _ _,Below.alloc' aF _⟩;rw[<-bF];clear bF;have gq:=hx.size;obtain⟨Tq,oL⟩:=aA nN.heap.size;have nq:¬ P' Tq:=λh=>by have:=oZ.lt _ h;omega
            rw[oL]at Aq gq;rw[oL];clear oL;replace oZ:=oZ.after hb;replace hx:=Out.trans' hx (Out.of_below (M:=λ_=>False) hb) λ_ _ q=>q.elim;clear hb;refine⟨λ_=>hx,?_⟩;exact Zq
        . refine ak.Step.value (u:=.pointer (some ⟨wr.drew.heap.size,0,none⟩)) (w':=wr.drew.alloc (.cells #[.int .i64 0,.int .i64 0,.int .i64 0,.int .i64 0,.int .i64 0,.int .i64 0,.int .i64 0] 77)) dV ?_
          obtain⟨nN,bF,Ap,hb⟩:∃w9,w9=wr.drew.alloc (.cells #[.int .i64 0,.int .i64 0,.int .i64 0,.int .i64 0,.int .i64 0,.int .i64 0,.int .i64 0] 77)/\At w9 wr.drew.heap.size (.cells #[.int .i64 0,.int .i64 0,.int .i64 0,.int .i64 0,.int .i64 0,.int .i64 0,.int .i64 0] 77)/\Below wr.drew.heap.size wr.drew w9:=⟨_,rfl,At.new _ _,Below.alloc' aF _⟩;rw[<-bF];clear bF;have gp:=hx.size;obtain⟨Tp,mo⟩:=aA wr.drew.heap.size;have np:¬ P' Tp:=λh=>by have:=oZ.lt _ h;omega
          rw[mo]at Ap gp;rw[mo];clear mo;replace oZ:=oZ.after hb;replace hx:=Out.trans' hx (Out.of_below (M:=λ_=>False) hb) λ_ _ q=>q.elim;clear hb;refine⟨λ_=>hx,?_⟩
          (try simp only[bL,bM,bN,tks])
          refine tk2 4 16 ?_ ?_
          . refine ak.Step.call dV (iT _) ?_
            rintro e o9 ⟨rfl,hb⟩;replace Ap:=Ap.keep hb;replace oZ:=oZ.after hb;replace hx:=Out.trans' hx (Out.of_below (M:=λ_=>False) hb) λ_ _ q=>q.elim;clear hb;refine⟨_,rfl,λ_=>hx,?_⟩;exact Zp
          . refine ak.Step.value (eU rfl) ?_
            obtain⟨o9,bF,Aq,hb⟩:∃w9,w9=nN.alloc (.cells (cells Re.zero) 46)/\At w9 nN.heap.size (.cells (cells Re.zero) 46)/\Below nN.heap.size nN w9:=⟨_,rfl,At.new _ _,Below.alloc' aF _⟩;rw[<-bF];clear bF;have gq:=hx.size;obtain⟨Tq,oL⟩:=aA nN.heap.size;have nq:¬ P' Tq:=λh=>by have:=oZ.lt _ h;omega
            rw[oL]at Aq gq;rw[oL];have QN:Tp<Tq:=by have:=Ap.lt;omega
            clear oL;replace Ap:=Ap.keep hb;exact Z1s
        . refine ak.Step.value (eU rfl) ?_
          obtain⟨nN,bF,Aq,hb⟩:∃w9,w9=wr.drew.alloc (.cells (cells Re.zero) 46)/\At w9 wr.drew.heap.size (.cells (cells Re.zero) 46)/\Below wr.drew.heap.size wr.drew w9:=⟨_,rfl,At.new _ _,Below.alloc' aF _⟩;rw[<-bF];clear bF;have gq:=hx.size;obtain⟨Tq,oL⟩:=aA wr.drew.heap.size;have nq:¬ P' Tq:=λh=>by have:=oZ.lt _ h;omega
          rw[oL]at Aq gq;rw[oL];clear oL;replace oZ:=oZ.after hb;replace hx:=Out.trans' hx (Out.of_below (M:=λ_=>False) hb) λ_ _ q=>q.elim;clear hb;refine⟨λ_=>hx,?_⟩
          (try simp only[bL,bM,bN,tks])
          refine tk2 4 15 ?_ ?_
          . refine ak.Step.call dV (iT _) ?_
            rintro e o9 ⟨rfl,hb⟩;replace Aq:=Aq.keep hb;replace oZ:=oZ.after hb;replace hx:=Out.trans' hx (Out.of_below (M:=λ_=>False) hb) λ_ _ q=>q.elim;clear hb;refine⟨_,rfl,λ_=>hx,?_⟩;exact Zq
          . refine ak.Step.value (u:=.pointer (some ⟨nN.heap.size,0,none⟩)) (w':=nN.alloc (.cells #[.int .i64 0,.int .i64 0,.int .i64 0,.int .i64 0,.int .i64 0,.int .i64 0,.int .i64 0] 77)) dV ?_
            obtain⟨o9,bF,Ap,hb⟩:∃w9,w9=nN.alloc (.cells #[.int .i64 0,.int .i64 0,.int .i64 0,.int .i64 0,.int .i64 0,.int .i64 0,.int .i64 0] 77)/\At w9 nN.heap.size (.cells #[.int .i64 0,.int .i64 0,.int .i64 0,.int .i64 0,.int .i64 0,.int .i64 0,.int .i64 0] 77)/\Below nN.heap.size nN w9:=⟨_,rfl,At.new _ _,Below.alloc' aF _⟩;rw[<-bF];clear bF;have gp:=hx.size;obtain⟨Tp,mo⟩:=aA nN.heap.size;have np:¬ P' Tp:=λh=>by have:=oZ.lt _ h;omega
            rw[mo]at Ap gp;rw[mo];have QN:Tq<Tp:=by have:=Aq.lt;omega
            clear mo;replace Aq:=Aq.keep hb;exact Z1s
      . rintro a W6 ⟨Tp,Tq,n2,P2,u61,u62,u63,u64,u65,u66,u67,u68,u69,u70,u71,u72,u73,u74,u75,rfl,gp,gq,QN,Ap,Aq,hn2,zo,Cz,hnp,hnq,mP⟩
        simp only[List.setIfInBounds_toArray,List.set_cons_zero,List.set_cons_succ];clear hlk l0 aB aC bH lY xw xA zu zw zy zA lbk;have Ja:Hid (∀b,b<N5->P2 b->P b):=ah λb hb h=>xP.out b hb (Cz b aj h);have hs6:=mP.size;have xL:=hAr.out (M:=λb=>b=Y.pm) aj mP;have AC6:=AC.out (M:=λb=>b=Y.pm) aj mP;have As6:=ah (At.out (M:=λb=>b=Y.pm) hAs.out aj mP);have Av6:=ah (At.out (M:=λb=>b=Y.pm) hAv.out aj mP);have Au6:=ah (At.out (M:=λb=>b=Y.pm) hAu.out aj mP);have B6:=A0.out (M:=λb=>b=Y.pm) aj mP;have C6:=A4.out (M:=λb=>b=Y.pm) aj mP;have LJ:=ah (At.out (M:=λb=>b=Y.pm) wz.out n0p mP);have hN6:N5<=W6.heap.size:=aJ ES hs6;clear hAr AC hAs hAv hAu A0 A4 wz mP Cz qE qx xP HRr;obtain⟨l0,aB,aC,bH⟩:=At.three B6;obtain⟨lp,MV,MW,cp2,X9,cp4,cp5,cp6⟩:=At.seven (b:=Tp) Ap;have zp5:=Ap.thaw 5;have lq:=Aq.lt;have c21:W6.cell? ⟨Tq,21,none⟩=some (.int .i64 (sk.c 21)):=(Aq.cell 21).trans (bG sk aj rfl);have c22:W6.cell? ⟨Tq,22,none⟩=some (.int .i64 (sk.c 22)):=(Aq.cell 22).trans (bG sk aj rfl);have c17:W6.cell? ⟨Tq,17,none⟩=some (.int .i64 (sk.c 17)):=(Aq.cell 17).trans (bG sk aj rfl);have c18:W6.cell? ⟨Tq,18,none⟩=some (.int .i64 (sk.c 18)):=(Aq.cell 18).trans (bG sk aj rfl);have HAQ:=ah Aq;obtain⟨au,hau⟩:=aA (Fx.PD i0 ly.s0 (Fx.len (sk.c 21) (sk.c 22) i0 0) (Fx.len (sk.c 17) (sk.c 18) i0 0) (Fx.jg (sk.c 21) i0) (Fx.jg (sk.c 17) i0));have acZ:=λX=>UM i0 ly.s0 (sk.c 21) (sk.c 22) (sk.c 17) (sk.c 18) i0 X;simp only[hau]at acZ;clear Aq
        go_upto_region 9 with(go_at_call 87;(with_reducible refine(acZ _).mono ?_);rintro e' w9 ⟨rfl,gV⟩;replace Ap:=Ap.keep gV;obtain⟨lp,MV,MW,cp2,X9,cp4,cp5,cp6⟩:=At.seven (b:=Tp) Ap;have zp5:=Ap.thaw 5)
        generalize hW:World.setCell _ _ _=LK;obtain⟨y,hy⟩:∃y:Fw.Ld,{ ly with a0:=au }=y:=⟨_,rfl⟩;have aaG:At LK Tp (.cells (eH y) 77):=by
         rw[<-hW,<-hy];exact At.set Ap 5 _
        have kV:Out (λb=>b=Tp) W6 LK:=by
         rw[<-hW];exact Out.set (M:=λb=>b=Tp) (Out.of_below gV) rfl 5 _
        have HYK:Hid (ks.take (k+1)=ks.take k++[y]/\szl.getD k 0=y.s1):=ah (by
         have hkk:k<ks.length:=by rw[HLK.out];exact hlt
         have e:ks[k]=y:=by
          have e1:=HKS.out;subst e1;rw[List.getElem_map,aaE.out,<-hy];unfold Fw.jR;simp only[qI,HSK.out,hau]
         refine⟨by rw[List.take_succ_eq_append_getElem hkk,e],?_⟩;rw[<-HSZ.out,List.getD,List.getElem?_map,List.getElem?_eq_getElem hkk,e]
         rfl)
        have hTN:N5<=Tp:=by omega
        have nV:=zo.own kV λb hb h=>by subst h;exact⟨hnp,by omega⟩
        have aaH:=ah (xL.out (M:=λb=>b=Tp) aj kV);have yY:=AC6.out (M:=λb=>b=Tp) aj kV;have aeW:=ah (At.out (M:=λb=>b=Tp) As6.out aj kV);have aeX:=ah (At.out (M:=λb=>b=Tp) Av6.out aj kV);have aeY:=ah (At.out (M:=λb=>b=Tp) Au6.out aj kV);have B10:=B6.out (M:=λb=>b=Tp) aj kV;have MS:=C6.out (M:=λb=>b=Tp) aj kV;have vM:=ah (At.out (M:=λb=>b=Tp) LJ.out aj kV);have Ed:N5<=LK.heap.size:=aJ hN6 kV.size;clear hW hy kV gV acZ hau Ap lp MV MW cp2 X9 cp4 cp5 cp6 zp5 lq c21 c22 c17 c18 HAQ l0 aB aC bH xL AC6 As6 Av6 Au6 B6 C6 LJ hN6 hs6 zo hnp hnq;have hRf:k*7+7<=cs.size:=by have:=GH.out.1;omega
        have HYL:Hid (∀j,j<7->LK.cell? ⟨Tp,0+j,none⟩=(eH y)[j]?):=ah λj hj=>by rw[Nat.zero_add];exact aaG.cell j
        obtain⟨lC,FJ,FK⟩:=At.two yY;have ahr:=aaH.out.lt;have lTp:=aaG.lt
        go_upto_region 10 with(first|(refine eY zU og aX _ rfl rfl (dG y) HYL.out ?_)|(refine jw og aX _ _ rfl rfl rfl aaH.out (dG y) hRf (pJ y) ?_))
        generalize hW:World.setRow _ _ _=BN;have Ws:At BN R (.cells (splice cs (k*7) (eH y)) 77):=hW▸At.setRow aaH.out _;have jL:Out (λb=>b=R) LK BN:=hW▸Out.setRow (M:=λb=>b=R) (Out.refl _ _) rfl _
        have aeZ:Hid ((splice cs (k*7) (eH y)).size=m*7/\oV (splice cs (k*7) (eH y)) (ks.take (k+1))):=ah (by
         have e:(ks.take k).length=k:=by rw[List.length_take,HLK.out];omega
         refine⟨by rw[ji (by rw[dG];exact hRf)];exact GH.out.1,?_⟩;have h1:=GH.out.2.snoc (x:=y) (by rw[e];exact hRf);rw[e]at h1;rw[HYK.out.1]
         exact h1)
        have rC:¬ P2 R:=λh=>by have:=Cr.out _ (Ja.out _ aj h);omega
        have rD:=nV.own jL λb hb h=>by subst h;exact⟨rC,by omega⟩
        have ae0:=aaG.out (M:=λb=>b=R) aj jL;have Jb:=yY.out (M:=λb=>b=R) aj jL;have Wt:=At.out (M:=λb=>b=R) aeW.out aj jL;have ae1:=ah (At.out (M:=λb=>b=R) aeX.out aj jL);have ae2:=ah (At.out (M:=λb=>b=R) aeY.out aj jL);have B11:=B10.out (M:=λb=>b=R) aj jL;have LM:=MS.out (M:=λb=>b=R) aj jL;have vN:=ah (At.out (M:=λb=>b=R) vM.out aj jL);have LP:N5<=BN.heap.size:=aJ Ed jL.size;generalize splice cs (k*7) (eH y)=ahs at *;clear hW jL lC FJ FK ahr lTp HYL aaH yY aeW aeX aeY B10 MS vM Ed nV aaG GH hRf;obtain⟨lp,MV,MW,cp2,X9,cp4,cp5,cp6⟩:=At.seven (b:=Tp) ae0;have lS:=Wt.lt;have cSk:=Wt.cell k;rw[dh _ hlt]at cSk;have zSk:=Wt.thaw k
        go_upto_region 11 with(fail)
        generalize hW:World.setCell _ _ _=Sj;have e12:(aO (λi=>szl.getD i 0) m k).setIfInBounds k (.int .i64 y.s1)=aO (λi=>szl.getD i 0) m (k+1):=by
         have h1:=ku (λi=>szl.getD i 0) hlt;simp only[HYK.out.2]at h1;exact h1
        have ae3:Hid (At Sj Ts (.cells (aO (λi=>szl.getD i 0) m (k+1)) 3)):=ah (by
         rw[<-hW,<-e12]
         exact At.set Wt k _)
        have pE:Out (λb=>b=Ts) BN Sj:=hW▸Out.set (M:=λb=>b=Ts) (Out.refl _ _) rfl k _;have uJ:=rD.own pE λb hb h=>by subst h;exact⟨λh=>by have:=Cr.out _ (Ja.out _ ls5 h);omega,by omega⟩
        have LQ:=Ws.out (M:=λb=>b=Ts) aj pE;have Ee:=Jb.out (M:=λb=>b=Ts) aj pE;have OA:=At.out (M:=λb=>b=Ts) ae1.out aj pE;have ae4:=ah (At.out (M:=λb=>b=Ts) ae2.out aj pE);have Yr:=B11.out (M:=λb=>b=Ts) aj pE;have JE:=LM.out (M:=λb=>b=Ts) aj pE;have GI:=ah (At.out (M:=λb=>b=Ts) vN.out aj pE);have FL:N5<=Sj.heap.size:=aJ LP pE.size;clear hW pE lp MV MW cp2 X9 cp4 cp5 cp6 lS cSk zSk e12 Wt Ws Jb ae1 ae2 B11 LM vN LP rD ae0;have hfT:uq.getD k 0=Fx.coll (Fw.meet B 0 f kid):=by
         rw[<-HTP.out,List.getD,List.getElem?_map,List.getElem?_eq_getElem MP,aaE.out];rfl
        have hfU:sW.getD k 0=Fx.coll (Fw.meet B 1 f kid):=by
         rw[<-HBT.out,List.getD,List.getElem?_map,List.getElem?_eq_getElem MP,aaE.out];rfl
        have HFT:=ah hfT;have HFU:=ah hfU;have OB:=acU hK F HDW.out HLEN.out f kid Sj hdk.out.1 hdk.out.2 hf (uJ.ro qR sV.out hkm);have hml:=vL B 0 f kid;obtain⟨mt,hmt⟩:=aA (Fw.meet B 0 f kid);rw[hmt]at OB hml HFT;have aaI:=ah uJ;clear hfT hfU hmt uJ
        go_upto_region 12 with(first|(go_at_call 89;(with_reducible refine OB.mono ?_);rintro e' eG ⟨⟨v,rfl,hown⟩,qw⟩;obtain⟨Am,cm,rfl,qG⟩:=vg hown JK;replace OA:=OA.keep qw;have lV:=OA.lt;have cVk:=OA.cell k;rw[dh _ hlt]at cVk;have zVk:=OA.thaw k)|(go_at_call 88;(with_reducible refine(Kh Am mt mt.length cm eG qG rfl).mono ?_);rintro e' uP ⟨rfl,rfl⟩))
        generalize hW:World.setCell _ _ _=W14;have e14:(aO (λi=>uq.getD i 0) m k).setIfInBounds k (.int .i64 (Fx.coll mt))=aO (λi=>uq.getD i 0) m (k+1):=by
         have h1:=ku (λi=>uq.getD i 0) hlt;simp only[HFT.out]at h1;exact h1
        have ae5:Hid (At W14 Tv (.cells (aO (λi=>uq.getD i 0) m (k+1)) 3)):=ah (by
         rw[<-hW,<-e14]
         exact At.set OA k _)
        have uK:Out (λb=>b=Tv) Sj W14:=hW▸Out.set (M:=λb=>b=Tv) (Out.of_below qw) rfl k _;have OC:=aaI.out.own uK λb hb h=>by subst h;exact⟨λh=>by have:=Cr.out _ (Ja.out _ lv5 h);omega,by omega⟩
        have ae6:=LQ.out (M:=λb=>b=Tv) aj uK;have ae7:=Ee.out (M:=λb=>b=Tv) aj uK;have ae8:=ah (At.out (M:=λb=>b=Tv) ae3.out aj uK);have OD:=At.out (M:=λb=>b=Tv) ae4.out aj uK;have B14:=Yr.out (M:=λb=>b=Tv) aj uK;have C14:=JE.out (M:=λb=>b=Tv) aj uK;have Qo:=ah (At.out (M:=λb=>b=Tv) GI.out aj uK);have aaJ:N5<=W14.heap.size:=aJ FL uK.size;clear hW uK lV cVk zVk e14 ae3 LQ Ee OA ae4 Yr JE GI FL aaI OB hml hown qG qw;have OB:=acX hK F HDW.out HLEN.out f kid W14 hdk.out.1 hdk.out.2 hf (OC.ro qR sV.out hkm);have hml:=vL B 1 f kid;obtain⟨mu,hmu⟩:=aA (Fw.meet B 1 f kid);rw[hmu]at OB hml HFU;have ae9:=ah OC;clear hmu OC
        go_upto_region 13 with(first|(go_at_call 89;(with_reducible refine OB.mono ?_);rintro e' eG ⟨⟨v,rfl,hown⟩,qw⟩;obtain⟨Am,cm,rfl,qG⟩:=vg hown JK;replace OD:=OD.keep qw;have lV:=OD.lt;have cVk:=OD.cell k;rw[dh _ hlt]at cVk;have zVk:=OD.thaw k)|(go_at_call 88;(with_reducible refine(Kh Am mu mu.length cm eG qG rfl).mono ?_);rintro e' uP ⟨rfl,rfl⟩))
        generalize hW:World.setCell _ _ _=W16;have e16:(aO (λi=>sW.getD i 0) m k).setIfInBounds k (.int .i64 (Fx.coll mu))=aO (λi=>sW.getD i 0) m (k+1):=by
         have h1:=ku (λi=>sW.getD i 0) hlt;simp only[HFU.out]at h1;exact h1
        have aht:Hid (At W16 Tu (.cells (aO (λi=>sW.getD i 0) m (k+1)) 3)):=ah (by
         rw[<-hW,<-e16]
         exact At.set OD k _)
        have FM:Out (λb=>b=Tu) W14 W16:=hW▸Out.set (M:=λb=>b=Tu) (Out.of_below qw) rfl k _;have ahu:=ae9.out.own FM λb hb h=>by subst h;exact⟨λh=>by have:=Cr.out _ (Ja.out _ lu5 h);omega,by omega⟩
        have ahv:=ae6.out (M:=λb=>b=Tu) aj FM;have ahw:=ae7.out (M:=λb=>b=Tu) aj FM;have ahx:=ah (At.out (M:=λb=>b=Tu) ae8.out aj FM);have ahy:=ah (At.out (M:=λb=>b=Tu) ae5.out aj FM);have B16:=B14.out (M:=λb=>b=Tu) aj FM;have C16:=C14.out (M:=λb=>b=Tu) aj FM;have ae':=ah (At.out (M:=λb=>b=Tu) Qo.out aj FM);have ahz:N5<=W16.heap.size:=aJ aaJ FM.size;clear hW FM lV cVk zVk e16 ae8 ae6 ae7 ae5 OD B14 C14 Qo aaJ ae9 OB hml hown qG qw;go_wp2
        go_roundw
        case rel=>exact⟨k+1,n2,P2,ahs,by omega,by go_num,by omega,ahu,Ja,ahz,ahv,aeZ,ahw,ahx,ahy,aht,B16,C16,ae'⟩
        case measure=>simp[intOf];omega
    . obtain rfl:k=m:=by omega
      have hIs:Ints wr (some ⟨Ts,0,none⟩) szl:=by
       have h1:=gM _ k JK hAs.out;have h2:=sF szl;rw[HLS.out]at h2;rw[h2]at h1;exact h1
      have hIv:Ints wr (some ⟨Tv,0,none⟩) uq:=by
       have h1:=gM _ k JK hAv.out;have h2:=sF uq;rw[Jz.out]at h2;rw[h2]at h1;exact h1
      have hIu:Ints wr (some ⟨Tu,0,none⟩) sW:=by
       have h1:=gM _ k JK hAu.out;have h2:=sF sW;rw[HLU.out]at h2;rw[h2]at h1;exact h1
      have wN:=Sc (some ⟨Ts,0,none⟩) (some ⟨Tv,0,none⟩) (some ⟨Tu,0,none⟩) szl uq sW k k k k wr hIs hIv hIu HLS.out Jz.out HLU.out aj
      have HN2:Hid (n'<=n+2*(fl.map (Fw.cst B f)).sum):=ah (by
       have h1:=Wj B f fl k
       omega)
      have qx:=ah hSr;have HRC:=ah (show cs.size=k*7/\oV cs ks from by
       have h1:=GH.out;rw[List.take_of_length_le (by rw[HLK.out];exact aG _)]at h1
       exact h1)
      obtain⟨en,hen⟩:=aA (Fx.pI szl uq sW k);rw[hen]at wN;have HEN:=ah hen;clear hIs hIv hIu hSr GH hn' hlt hen
      go_upto_region 15 with(go_at_call 90;(with_reducible refine wN.mono ?_);rintro e' w9 ⟨⟨bb,rfl,gbb,Uc⟩,gV⟩)
      have MQ:=qx.out.after gV;have AR9:=hAr.keep gV;have Yt:=AC.keep gV;have B9:=A0.keep gV;have C9:=A4.keep gV;have LV:=ah (aL.keep wz.out gV);have Av9:=hAv.out.keep gV;have Au9:=hAu.out.keep gV;have afa:=ah Uc;have hN9:N5<=w9.heap.size:=aJ ES gV.size;have ai6:N5<=bb:=aJ ES gbb;clear wN Uc qx hAr AC hAs hAv hAu A0 A4 wz gV gbb ES;obtain⟨m1,ai7,ai8⟩:∃m1,m1+1<=k/\k<=m1+1:=⟨k-1,by omega,by omega⟩;have hwk:IntKind.i64.wrap ((k:Int)-1)=(m1:Int):=by rw[IntWalk.i64_in _ aj];omega
      have ahA:(m1:Int)<(k:Int):=by omega
      have ac0:(0:Int)<(k:Int):=by omega
      have lv9:=Av9.lt;have lu9:=Au9.lt;have cv0:w9.cell? ⟨Tv,0,none⟩=some (.int .i64 (uq.getD 0 0)):=(Av9.cell 0).trans (by rw[dh _ hm0,if_pos hm0]);have cu1:w9.cell? ⟨Tu,m1,none⟩=some (.int .i64 (sW.getD m1 0)):=(Au9.cell m1).trans (by rw[dh _ aj,if_pos aj]);obtain⟨t0,ht0⟩:=aA (uq.getD 0 0);obtain⟨u1,hu1⟩:=aA (sW.getD m1 0);rw[ht0]at cv0;rw[hu1]at cu1;have HF1:Hid ((if Fw.opn s MR 0=true then 0 else t0)=first):=ah (by rw[<-ht0];exact M9.out)
      have zZ:Hid ((if Fw.opn s MR 1=true then 0 else u1)=last):=ah (by
       rw[<-hu1];have h1:=HLA.out;rw[HLU.out,show k-1=m1 by omega]at h1
       exact h1)
      clear ht0 hu1;have hSd:Below w9.heap.size w9 w9.drew:=Below.drew aF;refine lF (S:=λX=>Below w9.heap.size w9 X) 11 ?_ ?_
      . exact hSd
      intro hx;clear hSd;refine aM 0 ?_;refine aM 1 ?_;refine aM 2 ?_;refine aM 3 ?_;refine aM 4 ?_;refine aM 5 ?_;refine aM 6 ?_;refine aM 7 ?_;refine aM 8 ?_;refine aM 9 ?_;refine aM 10 ?_;refine ko ?_;have TG:Below w9.heap.size w9 w9.drew:=hx;generalize w9.drew=je at *;have nV:=MQ.after TG;have afb:=AR9.keep TG;have yY:=Yt.keep TG;have B10:=B9.keep TG;have MS:=C9.keep TG;have vM:=ah (aL.keep LV.out TG);have abJ:=ah (afa.out.after TG);have Ed:N5<=je.heap.size:=aJ hN9 TG.size;clear hx TG MQ AR9 Yt B9 C9 LV afa hN9 cv0 cu1 lv9 lu9 Av9 Au9 hwk ahA ac0;obtain⟨o0,ho0⟩:=aA (Fw.opn s MR 0);obtain⟨o1',ho1⟩:=aA (Fw.opn s MR 1);have Ef:=CP b0 s _ zva MR je vM.out;rw[ho0]at Ef HF1;rw[ho1]at zZ;have HO1:=ah ho1;clear ho0 ho1
      go_upto_if 140 with(go_at_call 91;(with_reducible refine Ef.mono ?_);rintro e' cZ ⟨rfl,fQ⟩)
      have rD:=nV.after fQ;have Ws:=afb.keep fQ;have Jb:=yY.keep fQ;have LM:=MS.keep fQ;have vN:=ah (aL.keep vM.out fQ);have abK:=ah (abJ.out.after fQ);have LP:N5<=cZ.heap.size:=aJ Ed fQ.size;clear nV afb yY B10 MS vM abJ Ed fQ Ef;go_cut [16]from 139 to 141 (λv w2=>v=.int .i64 first/\Below cZ.heap.size cZ w2)
      case first =>
       cases o0 with
       | true =>
         have e1:=HF1.out;rw[if_pos rfl]at e1;exact Z41
       | false =>
         have e1:=HF1.out;rw[if_neg eZ]at e1;exact Z41
      case rest =>
       obtain⟨rfl,fQ⟩:=hcut;have afc:=ah (aL.keep vN.out fQ);have Ef:=CO b0 s _ zva MR wc afc.out;rw[HO1.out]at Ef;have abL:=rD.after fQ;have abM:=Ws.keep fQ;have abN:=Jb.keep fQ;have afd:=LM.keep fQ;have Wu:=ah (abK.out.after fQ);have abO:N5<=wc.heap.size:=aJ LP fQ.size;clear rD Ws Jb LM vN abK LP fQ
       go_upto_if 142 with(go_at_call 91;(with_reducible refine Ef.mono ?_);rintro e' eG ⟨rfl,qw⟩)
       have afe:=abL.after qw;have aff:=abM.keep qw;have afg:=abN.keep qw;have C13:=afd.keep qw;have abP:=ah (Wu.out.after qw);have afh:N5<=eG.heap.size:=aJ abO qw.size;clear abL abM abN afd afc Wu abO qw Ef;go_cut [17]from 141 to 143 (λv w2=>v=.int .i64 last/\Below eG.heap.size eG w2)
       case first =>
        cases o1' with
        | true =>
          have e1:=zZ.out;rw[if_pos rfl]at e1;exact Z41
        | false =>
          have e1:=zZ.out;rw[if_neg eZ]at e1;exact Z41
       case rest =>
        obtain⟨rfl,OE⟩:=hcut;have uJ:=afe.after OE;have LQ:=aff.keep OE;have Ee:=afg.keep OE;have JE:=C13.keep OE;have abQ:=ah (abP.out.after OE);have FL:N5<=wc.heap.size:=aJ afh OE.size;clear afe aff afg C13 abP afh OE;obtain⟨lC,FJ,FK⟩:=At.two Ee
        go_upto_region 21 with(fail)
        clear lC FJ FK;have Wq:Hid (cs.size=k*7/\oV cs (yX (blG first szl uq sW) ks 0)):=ah (by rw[Si];exact HRC.out);have rC:=ah (show¬ P' R from λh=>by have:=Cr.out _ (xP.out _ aj h);omega);have ahB:=ah (show¬ P' (R+1)from λh=>by have:=Cr.out _ (xP.out _ Yn h);omega);have ahC:=ah (show¬ P' (w.heap.size+1)from λh=>by have:=Cr.out _ (xP.out _ aj h);omega);have HLB:Hid ((Fx.uV szl uq sW k).length=k):=ah (Fx.qU _ _ _ _)
        go_loopw [146] (λiv wr=>∃(i:Nat) (cs2:Array Value),i<=k/\iv=.int .i64 i/\rA Y B F w P n' P' wr/\At wr R (.cells cs2 77)/\Hid (cs2.size=k*7/\oV cs2 (yX (blG first szl uq sW) ks i))/\At wr (R+1) (.cells #[.slice (some ⟨R,0,none⟩) k k,.int .i64 0] 120)/\At wr (w.heap.size+1) (.cells #[.slice none 0 0,.int .i64 0] 120)/\Hid (Ints wr (some ⟨bb,0,none⟩) (Fx.uV szl uq sW k))) (λiv _=>k-(intOf iv).toNat)
        case atStart=>exact⟨0,cs,fC _,rfl,uJ,LQ,Wq,Ee,JE,abQ⟩
        case round =>
         clear uJ LQ Wq Ee JE abQ;obtain⟨i,cs2,hi2,rfl,hSr,hAr,GH,AC,A4,xY⟩:=hrel;by_cases hlt:i<k
         . have hltz:(i:Int)<(k:Int):=by omega
           have qx:=ah hSr;have hik:i<ks.length:=by rw[HLK.out];exact hlt
           obtain⟨lz,cz⟩:=lints xY.out (k:=i) (by rw[HLB.out];exact hlt);rw[Fx.CY _ _ _ hlt]at cz;obtain⟨bg,hbg⟩:=aA (Fx.kZ szl uq sW i);rw[hbg]at cz;have HBG:=ah hbg;obtain⟨lC,FJ,FK⟩:=At.two AC;have lR:=hAr.lt;have hlast:i*7+6<cs2.size:=by have:=GH.out.1;omega
           have cR6:wr.cell? ⟨R,i*7+6,none⟩=some cs2[i*7+6]:=(hAr.cell _).trans (Array.getElem?_eq_getElem hlast);generalize cs2[i*7+6]=old at cR6;have zR6:=hAr.thaw (i*7+6);obtain⟨p,hp⟩:=aA (IntKind.i64.wrap (first+bg));have nbR:bb≠R:=by omega
           clear hSr hbg
           go_upto_region 23 with(fail)
           have hSd:Out (λb=>b=R) wr wr.drew:=(Out.refl _ _).drew;refine lF (S:=λX=>Out (λb=>b=R) wr X) 13 ?_ ?_
           . exact hSd
           intro hx;clear hSd;refine jJ 0 ?_;refine jJ 1 ?_;refine jJ 2 ?_;refine jJ 3 ?_;refine jJ 4 ?_;refine jJ 5 ?_;refine jJ 6 ?_;refine jJ 7 ?_;refine jJ 8 ?_;refine jJ 9 ?_;refine jJ 10 ?_;refine jJ 11 ?_;refine tk1 12 ?_;refine ak.Step.skip dV ?_;generalize hW:World.setCell _ _ _=W3;have AR3:At W3 R (.cells (cs2.setIfInBounds (i*7+6) (.int .i64 p)) 77):=hW▸At.set hAr (i*7+6) _;have hO3:Out (λb=>b=R) wr W3:=hW▸Out.set (M:=λb=>b=R) (Out.refl _ _) rfl (i*7+6) _;refine⟨λ_=>Out.drew hO3,?_⟩
           (try simp only[bL,bM,bN,tks])
           refine ko ?_
           have ahD:Hid ((cs2.setIfInBounds (i*7+6) (.int .i64 p)).size=k*7/\oV (cs2.setIfInBounds (i*7+6) (.int .i64 p)) (yX (blG first szl uq sW) ks (i+1))):=ah (by
            refine⟨by simpa using GH.out.1,?_⟩;have h1:=GH.out.2.Kn (k:=i) (by rw[Bf];exact hik) p;rw[Wm _ _ hik]at h1;rw[<-Sg _ _ hik];have e:blG first szl uq sW i ks[i]={ ks[i]with a1:=p }:=by
             unfold blG;rw[HBG.out,<-rH,hp]
            rw[e]
            exact h1)
           have hO4:=Out.drew hO3;have AR4:=At.drew AR3;have Qk:=qx.out.own hO4 λb hb h=>by subst h;exact⟨rC.out,by omega⟩
           have AC4:=AC.out (M:=λb=>b=R) aj hO4;have C4:=A4.out (M:=λb=>b=R) aj hO4;have aas:=ah (vK xY.out hO4 nbR);generalize W3.drew=W4 at *;generalize cs2.setIfInBounds (i*7+6) (.int .i64 p)=z8 at *;clear hW hx hO3 hO4 AR3 lC FJ FK lR hlast cR6 zR6 cz lz hAr GH AC A4 xY hp;go_wp2
           go_roundw
           case rel=>exact⟨i+1,z8,by omega,by go_num,Qk,AR4,ahD,AC4,C4,aas⟩
           case measure=>simp[intOf];omega
         . obtain rfl:i=k:=by omega
           have HRF:Hid (oV cs2 xs):=ah (by
            have h1:=GH.out.2;rw[<-HLK.out,Wn,HXS.out.1]at h1
            exact h1)
           have hxl:xs.length=i:=by rw[<-HXS.out.1,List.length_mapIdx,HLK.out]
           obtain⟨lC,FJ,FK⟩:=At.two AC;have zC1:=AC.thaw 1;obtain⟨q1,hq1⟩:=aA (IntKind.i64.wrap (first+en));obtain⟨q2,hq2⟩:=aA (IntKind.i64.wrap (q1+last))
           have HHI:Hid (q2=hi):=ah (by
            have h1:=HXS.out.2;rw[HEN.out,<-rH (first+en),hq1,<-rH,hq2]at h1
            exact h1)
           have qx:=ah hSr;clear hSr GH xY
           go_upto_region 26 with(fail)
           generalize hW:World.setCell _ _ _=Sj;have Ee:At Sj (R+1) (.cells #[.slice (some ⟨R,0,none⟩) i i,.int .i64 q2] 120):=hW▸At.set AC 1 _;have pE:Out (λb=>b=R+1) wr Sj:=hW▸Out.set (M:=λb=>b=R+1) (Out.refl _ _) rfl 1 _;have uJ:=qx.out.own pE λb hb h=>by subst h;exact⟨ahB.out,by omega⟩
           have LQ:=hAr.out (M:=λb=>b=R+1) aj pE;have JE:=A4.out (M:=λb=>b=R+1) aj pE;clear hW lC FJ FK zC1 hAr AC A4 pE hq1 hq2;obtain⟨lC,FJ,FK⟩:=At.two Ee;obtain⟨l4,fF,fG⟩:=At.two JE;have iQ:=JE.thaw 0;have iR:=JE.thaw 1;have aaI:=ah uJ;have afi:=ah LQ;clear uJ LQ;go_wp2;generalize hW:World.setCell _ _ _=W6;have A6:At W6 (w.heap.size+1) (.cells #[.slice (some ⟨R,0,none⟩) i i,.int .i64 q2] 120):=hW▸At.set (At.set JE 0 _) 1 _;have TI:Out (λb=>b=w.heap.size+1) Sj W6:=by
            exact Z2s
           clear hW fF fG iQ iR lC FJ FK Ee JE;have AR6:=afi.out.out (M:=λb=>b=w.heap.size+1) aj TI;have zo:=aaI.out.own TI λb hb h=>by subst h;exact⟨ahC.out,by omega⟩
           obtain⟨l4,fF,fG⟩:=At.two A6;have mP:=zo.fin;have JG:=zo.kp;have hNw:=zo.new;refine bodyPost_ret (v:=.agg #[.slice (some ⟨R,0,none⟩) i i,.int .i64 q2]) (by simp[results,Tryz.results66,go_sem,fF,fG,l4];first|done|exact⟨rfl,rfl⟩|rfl) rfl ⟨R,i,cs2,P',n',by rw[hxl,HHI.out],by omega,AR6,HRF.out,HN2.out,JG,hNw,rC.out,mP⟩
end
attribute [local go_sem] Oper.semAt_some
def GJ(n₀ B:Nat)(W W':World):Prop:=Below n₀ W W'/\∀k t v,B<k->k<B+5->t≠44->Boxed W k t v->Boxed W' k t v
theorem GJ.refl(n₀ B:Nat)(W:World):GJ n₀ B W W:=⟨Below.refl _ _,λ_ _ _ _ _ _ h=>h⟩
theorem GJ.trans{n₀ B:Nat}{X Y Z:World}(h:GJ n₀ B X Y)(k:GJ n₀ B Y Z):GJ n₀ B X Z:=⟨h.1.trans k.1,λi t v h1 h2 h3 h4=>k.2 i t v h1 h2 h3 (h.2 i t v h1 h2 h3 h4)⟩
theorem GJ.of_below{n₀ B:Nat}{W W':World}(h:Below W.heap.size W W')(hn:n₀<=W.heap.size):GJ n₀ B W W' :=
 ⟨h.mono hn,λi t v _ _ _ hb=>(h.block i hb.lt).trans hb⟩
theorem GJ.putObj{n₀ B:Nat}{w:World}(hn:n₀<=w.heap.size)(hB:B+5<=w.heap.size)(W:World)(l:Nat)(o o':Obj)(hl:w.heap.size<=l)(h:W.heap[l]? = some o)(hc:o.isCells=false)(hw:o.isWalk=false):GJ n₀ B W (W.putObj l o') :=
 ⟨belowK_b hn W l o o' hl h hc hw,λi t v _ h2 _ hb=>(World.putObj_heap_other aj).trans hb⟩
theorem Eh{W W':World}(h:Below W.heap.size W W'):W.grownBy W' none:=⟨h.os,h.tape,h.output,h.size,λk hk _=>h.block k hk⟩
theorem Wv(A:Option Addr)(n c:Nat)(room gap:Int)(wrap:Bool)(w:World) :
  Calls Tryz.prog 129 #[.slice A n c,.int .i64 room,.int .i64 gap,.bool wrap] w λe w'=>e=.returned (.func (.func 154) #[] #[.pointer (some ⟨w.heap.size,0,none⟩),.pointer (some ⟨w.heap.size+1,0,none⟩),.pointer (some ⟨w.heap.size+2,0,none⟩),.pointer (some ⟨w.heap.size+3,0,none⟩)]) /\
   w'=(((w.alloc (.cells #[.slice A n c] 30)).alloc (.cells #[.int .i64 room] 3)).alloc (.cells #[.int .i64 gap] 3)).alloc (.cells #[.bool wrap] 4):=by
 have JM:∀(fn:Fn) (first cap:Array Value) (w:World),(Instr.makeFunc fn first cap).run Tryz.prog w=.ok (.func fn first cap) w:=λ_ _ _ _=>rfl;go_enter Tryz.func129,Tryz.ntmps129
 go_wp2;exact EL
theorem OG{P:Program}{ops:Array Oper}{Q:Exit->Act->World->Prop}{S:World->Prop}{k:Nat}{o:Oper}{os:List Oper}{a:Act}{t:TypeId}{x:Operand}{lo hi mx:Option Operand}{v:Value}(ho:o.op=.slice t x lo hi mx)(hw:Region.wanted o (yielded ops a.tmps)=true)
  (hrun:∀w,(Instr.sliceAt t (a.eval x) (lo.map a.eval) (hi.map a.eval) (mx.map a.eval)).run P w=.ok v w) (h:ak.dY P ops Q S k os (a.put o.dst v)):ak.dY P ops Q S (k+1) (o::os) a :=
 ak.jc hw (λw _=>by unfold execOp;simp only[ho,Sem.run_bind,Sem.run_pure,hrun,Result.andThen_ok]) h
def afj(x:Nat×Nat):Array Value:=#[.int .i64 (x.1:Int),.int .i64 (x.2:Int)]
theorem Ww(A:Option Addr)(l:List Int)(n c:Nat)(room gap:Int)(wrap:Bool)(w:World)(q:Nat)(hI:Ints w A l)(hl:l.length=n)(h0:0<n)(hn:n<=100000)(hq:q=Li.cnt room gap wrap l) :
 Calls Tryz.prog 155 #[.slice A n c,.int .i64 room,.int .i64 gap,.bool wrap] w λe w'=>e=.returned (.int .i64 (q:Nat))/\w=w':=hq▸RZ A l n c room gap wrap w hI hl h0 hn
set_option maxRecDepth 100000 in
theorem aaK(n:Nat)(hn1:1<=n)(lp n₀ B:Nat)(A:Option Addr)(l:List Int)(m c:Nat)(room gap:Int)(wrap:Bool)(hl:l.length=m)(hm:m<=10000)(hcap:m<=c)(J Jx:List (Nat×Nat)->World->Prop)
  (hY:∀pre x W,J pre W->pre.length<(Li.brk room gap wrap l).length->YieldAt Fence.wide (n-1) Tryz.prog lp (afj x) W λe W' =>
   (e=.returned (.bool true)/\J (pre++[x]) W'/\GJ n₀ B W W')\/(e=.returned (.bool false)/\Jx (pre++[x]) W'))
  (W:World) (hJ:AbidesFrom W.heap.size J) (hn₀:n₀<=W.heap.size) (b1:Boxed W (B+1) 30 (.slice A m c)) (b2:Boxed W (B+2) 3 (.int .i64 room)) (b3:Boxed W (B+3) 3 (.int .i64 gap)) (b4:Boxed W (B+4) 4 (.bool wrap))
  (hI:Ints W A l) (hA:0<l.length->∀x,A=some x->x.block<n₀) (h0:J [] W) :
  CallsIn Fence.wide n Tryz.prog 154 #[.func (.yield lp) #[] #[],.pointer (some ⟨B+1,0,none⟩),.pointer (some ⟨B+2,0,none⟩),.pointer (some ⟨B+3,0,none⟩),.pointer (some ⟨B+4,0,none⟩)] W λe W'=>(∃v,e=.returned v) /\
   ((∃ys,ys=Li.brk room gap wrap l/\J ys W')\/(∃pre,True/\Jx pre W')):=by
 have HL:=ah hl;have HI:=ah hI;have HA:=ah hA;have HY:=ah hY;have HJ:=ah hJ;have HB1:=ah b1;have HB2:=ah b2;have HB3:=ah b3;have HB4:=ah b4;clear hl hI hA hY hJ b1 b2 b3 b4;refine callsIn_of_wp Tryz.func154 rfl trivial ?_ rfl;simp only[Tryz.ntmps154,List.size_toArray,List.length_cons,List.length_nil,Nat.reduceAdd,Nat.reduceSub,Array.replicate_succ,Array.replicate_zero,List.push_toArray,List.append_toArray,List.nil_append,List.cons_append]
 gi_wp2
 gi_loopw [6,7] (λvf _ wr=>∃(k:Nat) (pre:List (Nat×Nat)),vf=.int .i64 k/\k<=m/\Hid (pre++Li.tail room gap wrap l k=Li.brk room gap wrap l)/\J pre wr/\GJ n₀ B W wr) (λvf _ _=>m-(intOf vf).toNat)
 case atStart=>exact⟨0,[],rfl,by omega,ah rfl,h0,GJ.refl _ _ _⟩
 case round =>
  obtain⟨k,pre,rfl,hk,HP,hJs,hK⟩:=hrel;have p1:=hK.2 _ _ _ aj aj aH HB1.out;have p2:=hK.2 _ _ _ aj aj aH HB2.out;have p3:=hK.2 _ _ _ aj aj aH HB3.out;have p4:=hK.2 _ _ _ aj aj aH HB4.out;have c1:=p1.cell;have c2:=p2.cell;have c3:=p3.cell;have c4:=p4.cell;have l1:=p1.lt;have l2:=p2.lt;have l3:=p3.lt;have l4:=p4.lt;clear p1 p2 p3 p4;by_cases hlt:k<m
  . have hltz:(k:Int)<(m:Int):=by omega
    have HI0:Hid (Ints wr A l):=ah (HI.out.keep hK.1 HA.out);have I1:=HI0.out.from_ k c Z52 (by rw[HL.out];exact hcap);have F1:=qo A m c k aj;generalize hA1:(if c=k then A else A.map (·.add (k*1)))=A1 at *;have HI1:=ah I1;have HF1:=ah F1;obtain⟨r,r1,r2⟩:∃r,r+k<=m/\m<=r+k:=⟨m-k,by omega,by omega⟩;have HR:Hid (m-k=r):=ah aj;have zZ:Hid ((l.drop k).length=r):=ah (by rw[List.length_drop,HL.out];omega);replace HF1:=ah HF1.out;rw[HR.out]at HF1;clear hA1 I1 F1;obtain⟨s,hs⟩:∃s,s=Li.stop room gap wrap l k:=⟨_,rfl⟩;have hks:k<s:=by rw[hs];exact Li.vY _ _ _ _ _
    have hsm:s<=m:=by rw[hs,<-HL.out];exact Li.Ce _ _ _ _ (by rw[HL.out];exact hlt)
    have ht:=Li.pW room gap wrap l (at_:=k) (by rw[HL.out];exact hlt);rw[<-hs]at ht;have HT:=ah ht;obtain⟨q,hq⟩:∃q,q=Li.cnt room gap wrap (l.drop k):=⟨_,rfl⟩;have ai9:s<=k+q:=by rw[hs,hq];exact aG _
    have ai':k+q<=s:=by rw[hs,hq];exact aG _
    have w1:IntKind.i64.wrap ((k:Int)+(q:Int))=(s:Int):=by rw[IntWalk.i64_in _ aj];omega
    have HQ:=ah hq;clear hs ht hq;have lw:=hK.1.size
    gi_upto_region 2 with(fail)
    refine wpIn_wide.2 ?_;refine xW ?_
    (repeat (first|(refine OG rfl aX (HF1.out) ?_;(try simp only[bL,bM,bN,tks]))|refine nW ?_ | refine nX ?_ (hc:=by intro w2 hS;first|with_reducible exact J9 hS (Ww _ _ _ _ _ _ _ _ _ (HI1.out.after hS) zZ.out aj aj HQ.out))|refine nY ?_))
    refine ak.cK ?_;intro w2 hS;have hJ2:=HJ.out pre wr w2 none hJs (Eh hS) (λr e=>by cases e);have hK2:=hK.trans (GJ.of_below hS (aJ hn₀ lw));have hlen:pre.length<(Li.brk room gap wrap l).length:=by
     rw[<-HP.out,HT.out,List.length_append,List.length_cons];omega
    obtain⟨fn,tmps,assign,body,hy,hR⟩:=HY.out pre (k,s) w2 hJ2 hlen;simp only[afj]at hy;clear hS hJs hK c1 c2 c3 c4 l1 l2 l3 l4
    gi_wp2
    refine hR.mono ?_;rintro e W3 (⟨rfl,hJ3,hk3⟩|⟨rfl,hJx3⟩)
    . gi_wp2
      go_roundw
      case rel=>exact⟨s,pre++[(k,s)],rfl,hsm,ah (by rw[<-HP.out,HT.out,List.append_assoc];rfl),hJ3,hK2.trans hk3⟩
      case measure=>simp[intOf];omega
    . gi_wp2
      refine bodyPost_ret (results_none rfl _ _ _) rfl ?_;exact⟨⟨_,rfl⟩,.inr ⟨_,trivial,hJx3⟩⟩
  . have hltz:¬ (k:Int)<(m:Int):=by omega
    have HE:Hid (pre=Li.brk room gap wrap l):=ah (by rw[<-HP.out,Li.oN _ _ _ _ Z52,List.append_nil])
    gi_wp2
    go_end0
    refine⟨⟨_,rfl⟩,.inl ?_⟩
    first|exact⟨_,HE.out,hJs⟩|(rw[<-HE.out];exact hJs)
end Go.Proofs.YtmidaiklolmkcaaGreat.Fix
namespace Go.Proofs.YtmidaiklolmkcaaGreat.Fix
open Go.ChangeShapes Go.WideShapes Go.ChangeAt Go.RowKit Go.Shelf
attribute [local go_sem] Oper.semAt_some
theorem Wx:(Tryz.prog.info? 44).map (λi=>(i.zero,i.size,i.bytes))=some (some (.agg #[.int .i64 0,.int .i64 0]),2,16):=by kernel_rfl
theorem cell_two_new(w:World)(x y:Value)(t:TypeId):∀j u,[x,y][j]? = some u->(w.alloc (.cells #[x,y] t)).cell? ((⟨w.heap.size,0,none⟩:Addr).add j)=some u:=by
 intro j u hj
 match j,hj with
 | 0,hj=>simp at hj;subst hj;simp[Addr.add]
 | 1,hj=>simp at hj;subst hj;simp[Addr.add]
theorem GJ.appended{n₀ B:Nat}{W w1:World}{v v':Value}{k:Nat}{xs:List Value}{tmp:Obj}(hrow:W.ownsRow n₀ 44 2 v k xs)(hgrow:(W.alloc tmp).grownBy w1 v.ownBlock)(hb:Below n₀ W (w1.setCell ⟨B,0,none⟩ v')):GJ n₀ B W (w1.setCell ⟨B,0,none⟩ v') :=
 ⟨hb,λi t u h1 h2 h3 h4=>((h4.alloc tmp).kept hgrow (h4.not_row h3 hrow)).kept (grownBy_setCell' w1 B v') (λe=>by injection e with e;omega)⟩
set_option maxRecDepth 100000 in
theorem Sk(A:Option Addr)(l:List Int)(m c:Nat)(room gap:Int)(wrap:Bool)(w:World)(hI:Ints w A l)(hl:l.length=m)(hm:m<=10000)(hcap:m<=c) :
  Calls Tryz.prog 94 #[.slice A m c,.int .i64 room,.int .i64 gap,.bool wrap] w λe w'=>∃v,e=.returned v/\w'.ownsRow w.heap.size 44 2 v (Li.brk room gap wrap l).length ((Li.flat (Li.brk room gap wrap l)).map (Value.int .i64))/\Below w.heap.size w w':=by
 obtain⟨i0,hi,hz0,hz1,hz2⟩:=info_parts Wx;have HI:=ah hI;have HL:=ah hl;have HA:=ah hI.lt;clear hI hl;refine(callsIn_wide (n:=5)).1 ?_;refine callsIn_of_wp_marks Tryz.func94 rfl trivial ?_ rfl;simp only[Tryz.ntmps94,List.size_toArray,List.length_cons,List.length_nil,Nat.reduceAdd,Nat.reduceSub,Array.replicate_succ,Array.replicate_zero,List.push_toArray,List.append_toArray,List.nil_append,List.cons_append]
 gi_wp2_with (refine⟨trivial,?_⟩;gi_at_call 129;refine(callsIn_wide.2 (Wv _ _ _ _ _ _ _)).mono ?_;rintro e w' ⟨rfl,rfl⟩)
 have bT:At _ (w.heap.size+1) _:=At.new' (W:=w.alloc (.cells #[] 44)) (.cells #[.slice (some ⟨w.heap.size,0,none⟩) 0 0] 170) eZ;have bR:At _ w.heap.size _:=At.new w (.cells #[] 44);have b1:At _ (w.heap.size+1+1) _:=At.new' (W:=(w.alloc (.cells #[] 44)).alloc (.cells #[.slice (some ⟨w.heap.size,0,none⟩) 0 0] 170)) (.cells #[.slice A m c] 30) eZ;have b2:At _ (w.heap.size+1+2) _:=At.new' (W:=((w.alloc (.cells #[] 44)).alloc (.cells #[.slice (some ⟨w.heap.size,0,none⟩) 0 0] 170)).alloc (.cells #[.slice A m c] 30)) (.cells #[.int .i64 room] 3) eZ;have b3:At _ (w.heap.size+1+3) _:=At.new' (W:=(((w.alloc (.cells #[] 44)).alloc (.cells #[.slice (some ⟨w.heap.size,0,none⟩) 0 0] 170)).alloc (.cells #[.slice A m c] 30)).alloc (.cells #[.int .i64 room] 3)) (.cells #[.int .i64 gap] 3) eZ;have b4:At _ (w.heap.size+1+4) _:=At.new' (W:=((((w.alloc (.cells #[] 44)).alloc (.cells #[.slice (some ⟨w.heap.size,0,none⟩) 0 0] 170)).alloc (.cells #[.slice A m c] 30)).alloc (.cells #[.int .i64 room] 3)).alloc (.cells #[.int .i64 gap] 3)) (.cells #[.bool wrap] 4) eZ;replace bT:=((((bT.alloc (.cells #[.slice A m c] 30)).alloc (.cells #[.int .i64 room] 3)).alloc (.cells #[.int .i64 gap] 3)).alloc (.cells #[.bool wrap] 4));replace bR:=(((((bR.alloc (.cells #[.slice (some ⟨w.heap.size,0,none⟩) 0 0] 170)).alloc (.cells #[.slice A m c] 30)).alloc (.cells #[.int .i64 room] 3)).alloc (.cells #[.int .i64 gap] 3)).alloc (.cells #[.bool wrap] 4));replace b1:=(((b1.alloc (.cells #[.int .i64 room] 3)).alloc (.cells #[.int .i64 gap] 3)).alloc (.cells #[.bool wrap] 4));replace b2:=((b2.alloc (.cells #[.int .i64 gap] 3)).alloc (.cells #[.bool wrap] 4));replace b3:=(b3.alloc (.cells #[.bool wrap] 4));have hB0:Below w.heap.size w _:=Below.alloc' (Below.alloc' (Below.alloc' (Below.alloc' (Below.alloc' (Below.alloc' (Below.refl _ w) (.cells #[] 44)) (.cells #[.slice (some ⟨w.heap.size,0,none⟩) 0 0] 170)) (.cells #[.slice A m c] 30)) (.cells #[.int .i64 room] 3)) (.cells #[.int .i64 gap] 3)) (.cells #[.bool wrap] 4);have hsz:(((((( w.alloc (.cells #[] 44)).alloc (.cells #[.slice (some ⟨w.heap.size,0,none⟩) 0 0] 170)).alloc (.cells #[.slice A m c] 30)).alloc (.cells #[.int .i64 room] 3)).alloc (.cells #[.int .i64 gap] 3)).alloc (.cells #[.bool wrap] 4)).heap.size=w.heap.size+6:=by simp
 generalize (((((( w.alloc (.cells #[] 44)).alloc (.cells #[.slice (some ⟨w.heap.size,0,none⟩) 0 0] 170)).alloc (.cells #[.slice A m c] 30)).alloc (.cells #[.int .i64 room] 3)).alloc (.cells #[.int .i64 gap] 3)).alloc (.cells #[.bool wrap] 4))=W0 at *;have afk:W0.ownsRow w.heap.size 44 2 (.slice (some ⟨w.heap.size,0,none⟩) 0 0) 0 []:=⟨by simp,.inr ⟨w.heap.size,0,#[],rfl,aG _,bR,aG _,by simp[maxLen],by simp,by simp⟩⟩;have hIW:=HI.out.after hB0;have hN:=Li.CZ room gap wrap l;rw[HL.out]at hN
 refine wpIn_rangeFunc_ownG (α:=Nat×Nat) rfl aj (gf:=154) (lb:=#[.pointer (some ⟨w.heap.size+1+1,0,none⟩),.pointer (some ⟨w.heap.size+1+2,0,none⟩),.pointer (some ⟨w.heap.size+1+3,0,none⟩),.pointer (some ⟨w.heap.size+1+4,0,none⟩)]) rfl trivial (enters_of Tryz.func154 jD rfl)
  (encs:=λx:Nat×Nat=>#[.int .i64 (x.1:Int),.int .i64 (x.2:Int)]) (Kp:=GJ w.heap.size (w.heap.size+1)) (S:=λys=>ys=Li.brk room gap wrap l) (Sp:=λ_=>True) (N:=(Li.brk room gap wrap l).length) (w0:=W0)
  (λlp J Jx W hW hJ hJx hY h0=>aaK 4 aj lp w.heap.size (w.heap.size+1) A l m c room gap wrap HL.out hm hcap J Jx hY W hJ (by have:=hW.size;omega)
   ((hW.block _ aj).trans b1) ((hW.block _ aj).trans b2) ((hW.block _ aj).trans b3) ((hW.block _ aj).trans b4)
   (hIW.keep (hW.mono aj) HA.out) HA.out h0)
  GJ.trans (GJ.putObj aj aj) aF (λ_=>rfl)
  (λpre W=>(∃v,Boxed W (w.heap.size+1) 170 v/\W.ownsRow w.heap.size 44 2 v pre.length ((Li.flat pre).map (Value.int .i64))/\True)/\Below w.heap.size w W)
  (λ_ _ _=>False)
  (OwnFrom.and (Own.from (holdsRow_own w.heap.size (w.heap.size+1) 170 44 2 (λpre:List (Nat×Nat)=>pre.length) (λpre=>(Li.flat pre).map (Value.int .i64)) (λ_ _=>True)) _) (ownFrom_below aD aj))
  (λ_ _ _ _ _ hs _ _=>hs)
  ⟨⟨_,bT,afk,trivial⟩,hB0⟩
  (λx=>{ tmps:=#[.slice A m c,.int .i64 room,.int .i64 gap,.bool wrap,undef,undef,undef,undef,.slice none 0 0,.pointer (some ⟨w.heap.size+1,0,none⟩),.int .i64 (x.1:Int),.int .i64 (x.2:Int),.slice (some ⟨w.heap.size,0,none⟩) 0 0,.slice A m c,.int .i64 room,.int .i64 gap,.bool wrap,.func (.func 154) #[] #[.pointer (some ⟨w.heap.size+1+1,0,none⟩),.pointer (some ⟨w.heap.size+1+1+1,0,none⟩),.pointer (some ⟨w.heap.size+1+1+2,0,none⟩),.pointer (some ⟨w.heap.size+1+1+3,0,none⟩)],.int .i64 (x.1:Int),.int .i64 (x.2:Int),undef,undef,undef,undef,undef,undef,undef],defers:=[] }) ?assign ?body ?done ?stop
 case assign =>
  intro lp x W K hK
  gi_wp2
  exact hK
 case body =>
  rintro lp pre x W ⟨⟨v,hv,hrow,_⟩,hB⟩ hlt;have hc:=hv.cell
  gi_wp2_with (gi_at_builtin;refine wpListIn_append_own _ rfl _ _ 170 rfl w.heap.size 44 i0 (.agg #[.int .i64 0,.int .i64 0]) 2 16 Tryz.underlying170 hi hz0 hz1 hz2 rfl aH _ _ _ rfl (hrow.alloc _) ⟨W.heap.size,0,none⟩ 1 1 [.int .i64 (x.1:Int),.int .i64 (x.2:Int)] rfl rfl (cell_two_new _ _ _ _) JB Py aj (by have:=hB.size;simp;omega) ?_;intro v' w1 hown' hgrow _;obtain⟨g',cap',rfl⟩:=ownsRow_succ hown';obtain⟨hv1,hv2,hr2,hk2,hb2⟩:=hv.appended aH hrow hB.size aj hown' hgrow;have hc1:=hv1.cell;have hf1:=hv1.frozen)
  exact⟨hk2.from _,GJ.appended hrow hgrow hb2,⟨_,hv2,by rw[Li.QV,List.map_append,List.length_append];exact hr2,trivial⟩,hB.trans hb2⟩
 case done =>
  rintro D ys W hD rfl ⟨⟨v,hv,hrow,_⟩,hB⟩ hK;have hc:=hv.cell
  gi_wp2
  refine⟨by simp,.inl ⟨_,_,rfl,run_takeDeferred hK,?_⟩⟩;exact⟨_,results_tmp rfl _ _ _,v,rfl,ownsRow_putObj hrow _ hK rfl,hB.trans (belowK_b (w:=w) aD W D _ _ aj hK rfl rfl)⟩
 case stop =>
  rintro D c pre W _ _ h _;exact h.elim
end Go.Proofs.YtmidaiklolmkcaaGreat.Fix
