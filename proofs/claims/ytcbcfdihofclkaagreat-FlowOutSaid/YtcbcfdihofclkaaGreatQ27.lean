/- Proved here: what functions of the program do, in plain numbers (part 27); no conditions but those in sight. -/
import Derived.Test.YtcbcfdihofclkaaGreatQK
import Derived.Test.YtcbcfdihofclkaaGreatQ26
set_option linter.unusedVariables false
set_option linter.unusedSimpArgs false
set_option linter.unusedSectionVars false
set_option maxRecDepth 100000
namespace Go.Proofs.YtcbcfdihofclkaaGreat.Fix
open Go.ChangeShapes Go.WideShapes Go.ChangeAt Go.RowKit
section
variable {Y:rV} {B:Int->Fw.Bx} {F:Int->Nat} {D:Int->Prop} {KM:World->Nat->Prop} {f:Nat} {w:World} {P:Nat->Prop}
set_option maxHeartbeats 16000000 in
theorem acd(hL:vF Y B F D KM f)(hK:∀(X X':World) (b:Nat),KM X b->Below X.heap.size X X'->KM X' b)(qL:∀(X X':World) (b:Nat),KM X b->Out (λq=>q≠b) X X'->KM X' b)(Ar:∀z,D z->∀k∈(B z).fl,D k/\F z=F k+1)(hlen:∀z,D z->(B z).fl.length<=10000)(hf:f<=1000)(hR0:RO w Y B D KM)(hkm:Y.km<w.heap.size)
  (z i0 i1:Int) (hz:D z) (hdn:∀k∈(B z).fl,D k/\F k=f) (hne:(B z).fl≠[]) (hl:(B z).fl.length<=64) (n:Nat) (EA:Kp Y B F n P w) (hP:∀b,P b->b<w.heap.size) (hn:n+2*((B z).fl.map (Fw.cst B f)).sum<maxLen) (xs:List Fw.Ld) (hi:Int) (hm:Fw.pV B (Fw.lay B f) f z i0 i1=(xs,hi)) :
  Calls Tryz.prog 171 #[.pointer (some ⟨Y.lb,0,none⟩),.agg #[.int .i64 z,.int .i64 i0,.int .i64 i1]] w λe w'=>∃R cap cs P' n',e=.returned (.agg #[.slice (some ⟨R,0,none⟩) xs.length cap,.int .i64 hi])/\w.heap.size<=R/\At w' R (.cells cs 114)/\oL cs xs/\n'<=n+2*((B z).fl.map (Fw.cst B f)).sum/\Kp Y B F n' P' w'/\(∀b,P' b->P b\/w.heap.size<=b)/\¬ P' R/\Out (λb=>b=Y.pm) w w':=by
 obtain⟨es0,Ra,pJ⟩:=hR0.Ey;have hpl:=pJ.lt;obtain⟨fl,hfl⟩:∃l,(B z).fl=l:=⟨_,rfl⟩;rw[hfl]at hdn hne hl hn ⊢;obtain⟨s,hs⟩:∃s,(B z).sty=s:=⟨_,rfl⟩;obtain⟨Ml,hib⟩:∃b,(B z).ib=b:=⟨_,rfl⟩;obtain⟨ks,hks⟩:∃l,fl.map (Fw.uP B (Fw.lay B f) i0 i1)=l:=⟨_,rfl⟩;obtain⟨szl,Rt⟩:∃l:List Int,ks.map (·.s1)=l:=⟨_,rfl⟩;obtain⟨tZ,ZK⟩:∃l,(fl.map λk=>Fx.coll (Fw.meet B 0 f k))=l:=⟨_,rfl⟩;obtain⟨sP,ZL⟩:∃l,(fl.map λk=>Fx.coll (Fw.meet B 1 f k))=l:=⟨_,rfl⟩;obtain⟨first,N9⟩:∃t,(if Fw.opn s Ml 0=true then 0 else tZ.getD 0 0)=t:=⟨_,rfl⟩;obtain⟨last,hlast⟩:∃t,(if Fw.opn s Ml 1=true then 0 else sP.getD (sP.length-1) 0)=t:=⟨_,rfl⟩;obtain⟨m,hmm⟩:∃m,fl.length=m:=⟨_,rfl⟩
 have HXS:Hid (ks.mapIdx (blG first szl tZ sP)=xs/\Fw.wr (Fw.wr (first+Fx.uN szl tZ sP m)+last)=hi):=Lib.hid (by
  unfold Fw.pV at hm;simp only[hfl,hs,hib,hks,Rt,ZK,ZL,N9,hlast,hmm]at hm;injection hm with h1 h2
  exact⟨h1,h2⟩)
 have VD:Hid (ks.length=m):=Lib.hid (by rw[<-hks,List.length_map,hmm]);have HLS:Hid (szl.length=m):=Lib.hid (by rw[<-Rt,List.length_map,VD.out]);have Jh:Hid (tZ.length=m):=Lib.hid (by rw[<-ZK,List.length_map,hmm]);have HLU:Hid (sP.length=m):=Lib.hid (by rw[<-ZL,List.length_map,hmm]);have HKS:=Lib.hid hks;have HSZ:=Lib.hid Rt;have HTP:=Lib.hid ZK;have HBT:=Lib.hid ZL;have MI:=Lib.hid N9;have HLA:=Lib.hid hlast;have ZM:=Lib.hid hs;have HIB:=Lib.hid hib;have FK:=Lib.hid hfl;have HM:=Lib.hid hmm;have HN:=Lib.hid hn;have HDN:=Lib.hid hdn;have sO:=Lib.hid hR0;have HDW:=Lib.hid Ar;have HLEN:=Lib.hid hlen;rw[hmm]at hl;have hm0:0<m:=by rw[<-hmm];exact List.length_pos_iff.2 hne
 clear hm hks Rt ZK ZL N9 hlast hmm Ar hlen;have hS:=qV.start EA hP;have wF:=hR0;obtain⟨b0,hb0⟩:∃b0,Y.bl z=b0:=⟨_,rfl⟩;obtain⟨hbx,ad9,_⟩:=wF.box z hz;obtain⟨A,cp,hvf,hI,hle,hmx,hAn⟩:=ad9.ints;have hlp:0<(B z).fl.length:=by rw[hfl];exact List.length_pos_iff.2 hne
 obtain⟨b1,o1,rfl,Ce,_⟩:=hI.at_ hlp;rw[hb0,hs,hib,hvf,hfl]at hbx;have HVF:Hid (Y.vf z=.slice (some ⟨b1,o1,none⟩) m cp):=Lib.hid (by rw[hvf,hfl,HM.out]);rw[HM.out]at hbx;generalize Y.va z=zva at hbx;have Rs:=hbx.lt
 have n0p:b0≠Y.pm:=λe=>by
  rw[e]at hbx;exact absurd (At.uniq hbx pJ) eY
 have nlp:Y.lb≠Y.pm:=λe=>by
  have h1:=wF.lay;rw[e]at h1;exact absurd (At.uniq h1 pJ) eY
 have b01:Below w.heap.size w ((w.alloc (.cells #[.int .i64 z,.int .i64 i0,.int .i64 i1] 112)).alloc (.cells #[.slice none 0 0,.int .i64 0] 198)):=Below.alloc' (Below.alloc' (Below.refl _ _) _) _;have A0:At ((w.alloc (.cells #[.int .i64 z,.int .i64 i0,.int .i64 i1] 112)).alloc (.cells #[.slice none 0 0,.int .i64 0] 198)) w.heap.size (.cells #[.int .i64 z,.int .i64 i0,.int .i64 i1] 112):=At.alloc (At.new _ _) _;have A4:At ((w.alloc (.cells #[.int .i64 z,.int .i64 i0,.int .i64 i1] 112)).alloc (.cells #[.slice none 0 0,.int .i64 0] 198)) (w.heap.size+1) (.cells #[.slice none 0 0,.int .i64 0] 198):=At.new' _ Ev;have hS1:=hS.after b01;have EP:=wF.keep hK b01;have VE:=Lib.hid (aF.keep hbx b01);clear hdn hR0 wF hS pJ hs hib hbx hfl EA hn ad9 hI hle hmx hAn hvf hlp Ce;go_enter Tryz.func171,Tryz.ntmps171
 go_upto_region 1 with(fail)
 generalize (w.alloc (.cells #[.int .i64 z,.int .i64 i0,.int .i64 i1] 112)).alloc (.cells #[.slice none 0 0,.int .i64 0] 198)=w1 at *;have ad':=A4.lt;have hsz:=b01.size;have hlk:=λX (h:Below w1.heap.size w1 X)=>(EP.keep hK h).look hz;simp only[hb0]at hlk;obtain⟨lY,wV,wW,zf,zh,zi,zk⟩:=At.six EP.lay;obtain⟨l0,aA,aB,bB⟩:=At.three A0;have hSd:Below w1.heap.size w1 w1.drew:=Below.drew (Below.refl _ _);refine kQ (S:=λX=>Below w1.heap.size w1 X) 8 ?_ ?_
 . exact hSd
 intro hx;clear hSd;refine aH 0 ?_;refine aH 1 ?_;refine aH 2 ?_;refine aH 3 ?_;refine aH 4 ?_;refine aH 5 ?_;refine rD 6 rfl (dZ aU rfl rfl rfl (λX h=>hlk X h)) ?_;refine aH 7 ?_;refine jY ?_;have hx2:Below w1.heap.size w1 w1.drew:=hx;generalize w1.drew=w3 at *;have Y8:=hx2.size;have uG:=hS1.after hx2;have B3:=A0.keep hx2;have C3:=A4.keep hx2;have zN:=Lib.hid (aF.keep VE.out hx2);clear b01 A0 A4 hS1 EP hlk wV wW zf zh zi zk lY hx hb0 VE l0 aA aB bB hx2;obtain⟨csR,hmk,aea⟩:=YZ w3 m ak;have U7:=Lib.hid hmk;have HCR:=Lib.hid aea;have Jj:=aF.lt zN.out;have qp:w3.cell? ⟨b0,71,none⟩=some (.slice (some ⟨b1,o1,none⟩) m cp):=aF.ext zN.out 16;have Rm:∀b X,(Instr.build 198 #[(0,.slice (some ⟨b,0,none⟩) m m)]).run Tryz.prog X=.ok (.agg #[.slice (some ⟨b,0,none⟩) m m,.int .i64 0]) X:=λb X=>by kernel_rfl
 clear hmk aea
 go_upto_region 3 with(refine mF aU _ _ 196 rfl U7.out ?_)
 generalize hW:World.alloc _ _=w4;obtain⟨R,hR⟩:∃b,w3.heap.size=b:=⟨_,rfl⟩;have AR:At w4 R (.cells csR 114):=hW▸At.alloc (At.new' _ hR.symm) _;have AC:At w4 (R+1) (.cells #[.slice (some ⟨R,0,none⟩) m m,.int .i64 0] 198):=by
  rw[<-hW,<-hR];exact At.new' _ eY
 have hb4:Below w3.heap.size w3 w4:=hW▸Below.alloc' (Below.alloc' (Below.refl _ _) _) _;rw[hR];have PS:=uG.after hb4;have B4:=B3.keep hb4;have C4:=C3.keep hb4;have Lb:=Lib.hid (aF.keep zN.out hb4);have gR:w.heap.size+1<R:=by omega
 have ab0:=hb4.size;have gRs:R+1<w4.heap.size:=AC.lt;clear hW hR hb4 uG B3 C3 zN qp Jj Rm U7;have Jj:=aF.lt Lb.out;have qp:w4.cell? ⟨b0,71,none⟩=some (.slice (some ⟨b1,o1,none⟩) m cp):=aF.ext Lb.out 16;refine aj.kg (λa0 a W5=>∃(Ts Tv Tu:Nat) (u33 u34 u35 u36 u37 u38 u39 u40 u41 u42 u43 u44 u45 u46 u47 u48 u49 u50:Value),a={ a0 with tmps:=((((((((((((((((((((a0.tmps.setIfInBounds 33 u33).setIfInBounds 34 u34).setIfInBounds 35 u35).setIfInBounds 36 u36).setIfInBounds 37 u37).setIfInBounds 38 u38).setIfInBounds 39 u39).setIfInBounds 40 u40).setIfInBounds 41 u41).setIfInBounds 42 u42).setIfInBounds 43 u43).setIfInBounds 44 u44).setIfInBounds 45 u45).setIfInBounds 46 u46).setIfInBounds 47 u47).setIfInBounds 48 u48).setIfInBounds 49 u49).setIfInBounds 50 u50).setIfInBounds 7 (.slice (some ⟨Ts,0,none⟩) m m)).setIfInBounds 8 (.slice (some ⟨Tv,0,none⟩) m m)).setIfInBounds 9 (.slice (some ⟨Tu,0,none⟩) m m) }/\(w4.heap.size<=Ts/\w4.heap.size<=Tv/\w4.heap.size<=Tu)/\(Ts≠Tv/\Ts≠Tu/\Tv≠Tu)/\At W5 Ts (.cells (aK (λi=>szl.getD i 0) m 0) 3)/\At W5 Tv (.cells (aK (λi=>tZ.getD i 0) m 0) 3)/\At W5 Tu (.cells (aK (λi=>sP.getD i 0) m 0) 3)/\Below w4.heap.size w4 W5) ?_ ?_
 . have hSd:Below w4.heap.size w4 w4.drew:=Below.drew (Below.refl _ _)
   refine kQ (S:=λX=>Below w4.heap.size w4 X) 21 ?_ ?_
   . exact hSd
   intro hx;clear hSd;refine aH 0 ?_;refine aH 1 ?_;refine aH 2 ?_;refine aH 3 ?_;refine aH 4 ?_;refine aH 6 ?_;refine aH 7 ?_;refine aH 8 ?_;refine aH 9 ?_;refine aH 10 ?_;refine aH 12 ?_;refine aH 13 ?_;refine aH 14 ?_;refine aH 15 ?_;refine aH 16 ?_;clear qp Jj AR AC B4 C4 Lb PS;refine aj.yJ (i:=5) (j:=11) (k:=17) fV rfl rfl rfl aU aU aU ?_ ?_ ?_
   . refine aj.Step.value (dH (λi=>szl.getD i 0) (n:=m) (.tmp 37) (.tmp 37) rfl rfl rfl ak) ?_
     obtain⟨nD,bA,As,hb⟩:∃w9,w9=w4.drew.alloc (.cells (aK (λi=>szl.getD i 0) m 0) 3)/\At w9 w4.drew.heap.size (.cells (aK (λi=>szl.getD i 0) m 0) 3)/\Below w4.drew.heap.size w4.drew w9:=⟨_,rfl,At.new _ _,Below.alloc' (Below.refl _ _) _⟩;rw[<-bA];clear bA;have gs:=hx.size;obtain⟨Ts,hTs⟩:∃q,w4.drew.heap.size=q:=⟨_,rfl⟩;rw[hTs]at As gs;rw[hTs];clear hTs;replace hx:=Below.ay hx (ah _) hb;clear hb;refine⟨λ_=>hx,?_⟩
     (try simp only[bF,bG,bH,tks])
     refine aH 18 ?_;refine tk2 11 17 ?_ ?_
     . refine aj.Step.value (dH (λi=>tZ.getD i 0) (n:=m) (.tmp 43) (.tmp 43) rfl rfl rfl ak) ?_
       obtain⟨oQ,bA,Av,hb⟩:∃w9,w9=nD.alloc (.cells (aK (λi=>tZ.getD i 0) m 0) 3)/\At w9 nD.heap.size (.cells (aK (λi=>tZ.getD i 0) m 0) 3)/\Below nD.heap.size nD w9:=⟨_,rfl,At.new _ _,Below.alloc' (Below.refl _ _) _⟩;rw[<-bA];clear bA;have gv:=hx.size;obtain⟨Tv,ME⟩:∃q,nD.heap.size=q:=⟨_,rfl⟩;rw[ME]at Av gv;rw[ME];have nsv:Ts<Tv:=by have:=As.lt;omega
       replace As:=As.keep hb;clear ME;replace hx:=Below.ay hx (ah _) hb;clear hb;refine⟨λ_=>hx,?_⟩
       (try simp only[bF,bG,bH,tks])
       exact Z13
     . refine aj.Step.value (dH (λi=>sP.getD i 0) (n:=m) (.tmp 49) (.tmp 49) rfl rfl rfl ak) ?_
       obtain⟨oQ,bA,Au,hb⟩:∃w9,w9=nD.alloc (.cells (aK (λi=>sP.getD i 0) m 0) 3)/\At w9 nD.heap.size (.cells (aK (λi=>sP.getD i 0) m 0) 3)/\Below nD.heap.size nD w9:=⟨_,rfl,At.new _ _,Below.alloc' (Below.refl _ _) _⟩;rw[<-bA];clear bA;have gu:=hx.size;obtain⟨Tu,MC⟩:∃q,nD.heap.size=q:=⟨_,rfl⟩;rw[MC]at Au gu;rw[MC];have nsu:Ts<Tu:=by have:=As.lt;omega
       replace As:=As.keep hb;clear MC;replace hx:=Below.ay hx (ah _) hb;clear hb;refine⟨λ_=>hx,?_⟩
       (try simp only[bF,bG,bH,tks])
       exact Z14
   . refine aj.Step.value (dH (λi=>tZ.getD i 0) (n:=m) (.tmp 43) (.tmp 43) rfl rfl rfl ak) ?_
     obtain⟨nD,bA,Av,hb⟩:∃w9,w9=w4.drew.alloc (.cells (aK (λi=>tZ.getD i 0) m 0) 3)/\At w9 w4.drew.heap.size (.cells (aK (λi=>tZ.getD i 0) m 0) 3)/\Below w4.drew.heap.size w4.drew w9:=⟨_,rfl,At.new _ _,Below.alloc' (Below.refl _ _) _⟩;rw[<-bA];clear bA;have gv:=hx.size;obtain⟨Tv,ME⟩:∃q,w4.drew.heap.size=q:=⟨_,rfl⟩;rw[ME]at Av gv;rw[ME];clear ME;replace hx:=Below.ay hx (ah _) hb;clear hb;refine⟨λ_=>hx,?_⟩
     (try simp only[bF,bG,bH,tks])
     refine tk2 5 17 ?_ ?_
     . refine aj.Step.value (dH (λi=>szl.getD i 0) (n:=m) (.tmp 37) (.tmp 37) rfl rfl rfl ak) ?_
       obtain⟨oQ,bA,As,hb⟩:∃w9,w9=nD.alloc (.cells (aK (λi=>szl.getD i 0) m 0) 3)/\At w9 nD.heap.size (.cells (aK (λi=>szl.getD i 0) m 0) 3)/\Below nD.heap.size nD w9:=⟨_,rfl,At.new _ _,Below.alloc' (Below.refl _ _) _⟩;rw[<-bA];clear bA;have gs:=hx.size;obtain⟨Ts,hTs⟩:∃q,nD.heap.size=q:=⟨_,rfl⟩;rw[hTs]at As gs;rw[hTs];have nsv:Tv<Ts:=by have:=Av.lt;omega
       replace Av:=Av.keep hb;clear hTs;replace hx:=Below.ay hx (ah _) hb;clear hb;refine⟨λ_=>hx,?_⟩
       (try simp only[bF,bG,bH,tks])
       refine aH 18 ?_;exact Z13
     . refine aj.Step.value (dH (λi=>sP.getD i 0) (n:=m) (.tmp 49) (.tmp 49) rfl rfl rfl ak) ?_
       obtain⟨oQ,bA,Au,hb⟩:∃w9,w9=nD.alloc (.cells (aK (λi=>sP.getD i 0) m 0) 3)/\At w9 nD.heap.size (.cells (aK (λi=>sP.getD i 0) m 0) 3)/\Below nD.heap.size nD w9:=⟨_,rfl,At.new _ _,Below.alloc' (Below.refl _ _) _⟩;rw[<-bA];clear bA;have gu:=hx.size;obtain⟨Tu,MC⟩:∃q,nD.heap.size=q:=⟨_,rfl⟩;rw[MC]at Au gu;rw[MC];have nuv:Tv<Tu:=by have:=Av.lt;omega
       replace Av:=Av.keep hb;clear MC;exact Zx
   . refine aj.Step.value (dH (λi=>sP.getD i 0) (n:=m) (.tmp 49) (.tmp 49) rfl rfl rfl ak) ?_
     obtain⟨nD,bA,Au,hb⟩:∃w9,w9=w4.drew.alloc (.cells (aK (λi=>sP.getD i 0) m 0) 3)/\At w9 w4.drew.heap.size (.cells (aK (λi=>sP.getD i 0) m 0) 3)/\Below w4.drew.heap.size w4.drew w9:=⟨_,rfl,At.new _ _,Below.alloc' (Below.refl _ _) _⟩;rw[<-bA];clear bA;have gu:=hx.size;obtain⟨Tu,MC⟩:∃q,w4.drew.heap.size=q:=⟨_,rfl⟩;rw[MC]at Au gu;rw[MC];clear MC;replace hx:=Below.ay hx (ah _) hb;clear hb;refine⟨λ_=>hx,?_⟩
     (try simp only[bF,bG,bH,tks])
     refine tk2 5 11 ?_ ?_
     . refine aj.Step.value (dH (λi=>szl.getD i 0) (n:=m) (.tmp 37) (.tmp 37) rfl rfl rfl ak) ?_
       obtain⟨oQ,bA,As,hb⟩:∃w9,w9=nD.alloc (.cells (aK (λi=>szl.getD i 0) m 0) 3)/\At w9 nD.heap.size (.cells (aK (λi=>szl.getD i 0) m 0) 3)/\Below nD.heap.size nD w9:=⟨_,rfl,At.new _ _,Below.alloc' (Below.refl _ _) _⟩;rw[<-bA];clear bA;have gs:=hx.size;obtain⟨Ts,hTs⟩:∃q,nD.heap.size=q:=⟨_,rfl⟩;rw[hTs]at As gs;rw[hTs];have nsu:Tu<Ts:=by have:=Au.lt;omega
       replace Au:=Au.keep hb;clear hTs;replace hx:=Below.ay hx (ah _) hb;clear hb;refine⟨λ_=>hx,?_⟩
       (try simp only[bF,bG,bH,tks])
       refine aH 18 ?_;exact Z14
     . refine aj.Step.value (dH (λi=>tZ.getD i 0) (n:=m) (.tmp 43) (.tmp 43) rfl rfl rfl ak) ?_
       obtain⟨oQ,bA,Av,hb⟩:∃w9,w9=nD.alloc (.cells (aK (λi=>tZ.getD i 0) m 0) 3)/\At w9 nD.heap.size (.cells (aK (λi=>tZ.getD i 0) m 0) 3)/\Below nD.heap.size nD w9:=⟨_,rfl,At.new _ _,Below.alloc' (Below.refl _ _) _⟩;rw[<-bA];clear bA;have gv:=hx.size;obtain⟨Tv,ME⟩:∃q,nD.heap.size=q:=⟨_,rfl⟩;rw[ME]at Av gv;rw[ME];have nuv:Tu<Tv:=by have:=Au.lt;omega
       replace Au:=Au.keep hb;clear ME;exact Zx
 . rintro a W5 ⟨Ts,Tv,Tu,u33,u34,u35,u36,u37,u38,u39,u40,u41,u42,u43,u44,u45,u46,u47,u48,u49,u50,rfl,⟨gs,gv,gu⟩,⟨nsv,nsu,nvu⟩,As,Av,Au,hb5⟩
   simp only[List.setIfInBounds_toArray,List.set_cons_zero,List.set_cons_succ];have hS5:=PS.after hb5;have AR5:=AR.keep hb5;have AC5:=AC.keep hb5;have B5:=B4.keep hb5;have C5:=C4.keep hb5;have Fa:=Lib.hid (aF.keep Lb.out hb5);have hsz5:=hb5.size;clear qp Jj PS AR AC B4 C4 Lb hb5;have Jj:=aF.lt Fa.out;have qp:W5.cell? ⟨b0,71,none⟩=some (.slice (some ⟨b1,o1,none⟩) m cp):=aF.ext Fa.out 16
   go_upto_region 5 with(fail)
   clear qp Jj;obtain⟨N5,SQ⟩:∃N,W5.heap.size=N:=⟨_,rfl⟩;have lRq:=AC5.lt;have ls5:Ts<N5:=by have:=As.lt;omega
   have lv5:Tv<N5:=by have:=Av.lt;omega
   have lu5:Tu<N5:=by have:=Au.lt;omega
   have Xz:R+1<N5:=by omega
   have n0w:b0<w.heap.size:=Rs;have HN5:=Lib.hid SQ;have Ca:=Lib.hid (show∀b,P b->b<w.heap.size from hP);have VF:Hid (csR.size=m*7/\oL csR (ks.take 0)):=Lib.hid ⟨HCR.out,by simp[oL]⟩;clear SQ lRq
   go_loopw [56] (λiv wr=>∃(k n':Nat) (P':Nat->Prop) (cs:Array Value),k<=m/\iv=.int .i64 k/\n'<=n+csf B f fl k/\qV Y B F w P n' P' wr/\Hid (∀b,b<N5->P' b->P b)/\N5<=wr.heap.size/\At wr R (.cells cs 114)/\Hid (cs.size=m*7/\oL cs (ks.take k))/\At wr (R+1) (.cells #[.slice (some ⟨R,0,none⟩) m m,.int .i64 0] 198)/\Hid (At wr Ts (.cells (aK (λi=>szl.getD i 0) m k) 3))/\Hid (At wr Tv (.cells (aK (λi=>tZ.getD i 0) m k) 3))/\Hid (At wr Tu (.cells (aK (λi=>sP.getD i 0) m k) 3))/\At wr w.heap.size (.cells #[.int .i64 z,.int .i64 i0,.int .i64 i1] 112)/\At wr (w.heap.size+1) (.cells #[.slice none 0 0,.int .i64 0] 198)/\Hid (aF wr b0 s (.slice (some ⟨b1,o1,none⟩) m cp) zva Ml)) (λiv _=>m-(intOf iv).toNat)
   case atStart=>exact⟨0,n,P,csR,bJ _,rfl,by omega,hS5,Lib.hid λb _ h=>h,by rw[HN5.out];exact ah _,AR5,VF,AC5,Lib.hid As,Lib.hid Av,Lib.hid Au,B5,C5,Fa⟩
   case round =>
    clear hS5 AR5 VF AC5 As Av Au B5 C5 Fa;obtain⟨k,n',P',cs,hk,rfl,hn',hSr,xD,EB,hAr,Gj,AC,hAs,hAv,hAu,A0,A4,vY⟩:=hrel;by_cases hlt:k<m
    . have hltz:(k:Int)<(m:Int):=by omega
      have Mj:k<fl.length:=by rw[HM.out];exact hlt
      have qd:=Lib.hid hSr;have HRr:=Lib.hid (hSr.ro qL sO.out hkm);obtain⟨kid,zO⟩:∃x,fl[k]=x:=⟨_,rfl⟩;have hdk:=Lib.hid (HDN.out kid (zO▸List.getElem_mem _));have Rk:=ZJ HVF.out (HRr.out.box z hz).2.1 (by rw[FK.out];exact HM.out.symm);rw[FK.out]at Rk;obtain⟨Ce,cb1⟩:=RB Rk Mj;rw[show fl.getD k 0=kid by rw[<-zO,List.getD,List.getElem?_eq_getElem Mj];rfl]at cb1;have ZN:=Lib.hid zO;have hlk:=λX (h:Out (λb=>b=Y.pm) wr X)=>HRr.out.lookO h hdk.out.1;obtain⟨bk,hbk⟩:∃b,Y.bl kid=b:=⟨_,rfl⟩;simp only[hbk]at hlk;have hbx:=(HRr.out.box kid hdk.out.1).1;rw[hbk]at hbx;obtain⟨sk,hsk⟩:∃s,(B kid).sty=s:=⟨_,rfl⟩;rw[hsk]at hbx;generalize Y.vf kid=vf at hbx;generalize Y.va kid=va at hbx;generalize (B kid).ib=ib at hbx
      have Td:bk≠Y.pm:=λe=>by
       obtain⟨es1,ck1,hp1⟩:=HRr.out.Ey;rw[e]at hbx;exact absurd (At.uniq hbx hp1) eY
      have qw:=Lib.hid hbx;have HSK:=Lib.hid hsk;obtain⟨l0,aA,aB,bB⟩:=At.three A0;clear zO Rk hbk hbx hsk hSr
      go_upto_region 7 with(fail)
      clear cb1 Ce;obtain⟨lY,wV,wW,zf,zh,zi,zk⟩:=At.six HRr.out.lay;have lbk:=aF.lt qw.out;have npm:Y.pm<w.heap.size:=hpl;obtain⟨ly,uy⟩:∃y,Fw.lay B f kid i0 i1 (-1) (-1)=y:=⟨_,rfl⟩;have ZO:csf B f fl (k+1)=csf B f fl k+Fw.cst B f kid:=by rw[Vy B f fl Mj,ZN.out]
      have aeb:=Vz B f fl (k+1);have hnn:=HN.out;refine aj.kg (λa0 a W6=>∃(Tp Tq n2:Nat) (P2:Nat->Prop) (u61 u62 u63 u64 u65 u66 u67 u68 u69 u70 u71 u72 u73 u74 u75:Value),a={ a0 with tmps:=((((((((((((((((a0.tmps.setIfInBounds 61 u61).setIfInBounds 62 u62).setIfInBounds 63 u63).setIfInBounds 64 u64).setIfInBounds 65 u65).setIfInBounds 66 u66).setIfInBounds 67 u67).setIfInBounds 68 u68).setIfInBounds 69 u69).setIfInBounds 70 u70).setIfInBounds 71 u71).setIfInBounds 72 u72).setIfInBounds 73 u73).setIfInBounds 74 u74).setIfInBounds 75 u75).setIfInBounds 12 (.pointer (some ⟨Tp,0,none⟩))).setIfInBounds 13 (.pointer (some ⟨Tq,0,none⟩)) }/\wr.heap.size<=Tp/\wr.heap.size<=Tq/\Tp≠Tq/\At W6 Tp (.cells (eF ly) 114)/\At W6 Tq (.cells (cells sk) 51)/\n2<=n'+Fw.cst B f kid/\qV Y B F w P n2 P2 W6/\(∀b,b<wr.heap.size->P2 b->P' b)/\¬ P2 Tp/\¬ P2 Tq/\Out (λb=>b=Y.pm) wr W6) ?_ ?_
      . have n1:w.heap.size≠Y.pm:=by omega
        have hSd:Out (λb=>b=Y.pm) wr wr.drew:=(Out.refl _ _).drew;refine kQ (S:=λX=>Out (λb=>b=Y.pm) wr X) 19 ?_ ?_
        . exact hSd
        intro hx;have oN:=qd.out.after ((Below.refl wr.heap.size wr).drew);clear hSd;refine jD 0 ?_;refine jD 1 ?_;refine jD 2 ?_;refine jD 3 ?_;refine jD 6 ?_;refine jD 7 ?_;refine jD 8 ?_;refine jD 9 ?_;refine jD 10 ?_;refine rD 11 rfl (dZ aU rfl rfl rfl (λX h=>hlk X h)) ?_;refine jD 12 ?_;refine jD 13 ?_;refine rD 14 rfl (iY aU (.tmp 74) rfl rfl (λX h=>aF.style (At.out qw.out Td h))) ?_;clear l0 aA aB bB lY wV wW zf zh zi zk hlk hAr Gj AC hAs hAv hAu A0 A4 vY qw HRr qd n1 lbk;refine aj.yJ (i:=4) (j:=15) (k:=16) fV rfl rfl rfl aU aU aU ?_ ?_ ?_
        . refine aj.Step.call dQ (iT _) ?_
          rintro e nD ⟨rfl,hb⟩;replace oN:=oN.after hb;replace hx:=Out.trans' hx (Out.of_below (M:=λ_=>False) hb) λ_ _ q=>q.elim;clear hb;refine⟨_,rfl,λ_=>hx,?_⟩
          (try simp only[bF,bG,bH,tks])
          refine aj.yJ (i:=5) (j:=15) (k:=16) fV rfl rfl rfl aU aU aU ?_ ?_ ?_
          . have jZ:=ni hL qL sO.out hkm oN kid i0 i1 (-1) (-1) hdk.out.1 hdk.out.2 ak
            rw[uy]at jZ;refine aj.Step.call dQ jZ ?_;rintro e oQ ⟨rfl,n2,P2,hn2,Cm,wU,hO⟩;have Cj:∀b,b<wr.heap.size->P2 b->P' b:=λb hb h=>wU b (aR hb hx.size) h;replace oN:=Cm;clear Cm wU jZ;replace hx:=hx.trans hO;clear hO;refine⟨_,rfl,λ_=>hx,?_⟩
            (try simp only[bF,bG,bH,tks])
            refine tk2 15 16 ?_ ?_
            . refine aj.Step.value (u:=.pointer (some ⟨oQ.heap.size,0,none⟩)) (w':=oQ.alloc (.cells #[.int .i64 0,.int .i64 0,.int .i64 0,.int .i64 0,.int .i64 0,.int .i64 0,.int .i64 0] 114)) dQ ?_
              obtain⟨EC,bA,Ap,hb⟩:∃w9,w9=oQ.alloc (.cells #[.int .i64 0,.int .i64 0,.int .i64 0,.int .i64 0,.int .i64 0,.int .i64 0,.int .i64 0] 114)/\At w9 oQ.heap.size (.cells #[.int .i64 0,.int .i64 0,.int .i64 0,.int .i64 0,.int .i64 0,.int .i64 0,.int .i64 0] 114)/\Below oQ.heap.size oQ w9:=⟨_,rfl,At.new _ _,Below.alloc' (Below.refl _ _) _⟩;rw[<-bA];clear bA;have gp:=hx.size;obtain⟨Tp,lG⟩:∃q,oQ.heap.size=q:=⟨_,rfl⟩;have np:¬ P2 Tp:=λh=>by have:=oN.lt _ h;omega
              rw[lG]at Ap gp;rw[lG];clear lG;replace oN:=oN.after hb;replace hx:=Out.trans' hx (Out.of_below (M:=λ_=>False) hb) λ_ _ q=>q.elim;clear hb;refine⟨λ_=>hx,?_⟩;exact Z1g
            . refine aj.Step.value (eO rfl) ?_
              obtain⟨EC,bA,Aq,hb⟩:∃w9,w9=oQ.alloc (.cells (cells Re.zero) 51)/\At w9 oQ.heap.size (.cells (cells Re.zero) 51)/\Below oQ.heap.size oQ w9:=⟨_,rfl,At.new _ _,Below.alloc' (Below.refl _ _) _⟩;rw[<-bA];clear bA;have gq:=hx.size;obtain⟨Tq,oF⟩:∃q,oQ.heap.size=q:=⟨_,rfl⟩;have nq:¬ P2 Tq:=λh=>by have:=oN.lt _ h;omega
              rw[oF]at Aq gq;rw[oF];clear oF;replace oN:=oN.after hb;replace hx:=Out.trans' hx (Out.of_below (M:=λ_=>False) hb) λ_ _ q=>q.elim;clear hb;refine⟨λ_=>hx,?_⟩;exact Z10
          . refine aj.Step.value (u:=.pointer (some ⟨nD.heap.size,0,none⟩)) (w':=nD.alloc (.cells #[.int .i64 0,.int .i64 0,.int .i64 0,.int .i64 0,.int .i64 0,.int .i64 0,.int .i64 0] 114)) dQ ?_
            obtain⟨oQ,bA,Ap,hb⟩:∃w9,w9=nD.alloc (.cells #[.int .i64 0,.int .i64 0,.int .i64 0,.int .i64 0,.int .i64 0,.int .i64 0,.int .i64 0] 114)/\At w9 nD.heap.size (.cells #[.int .i64 0,.int .i64 0,.int .i64 0,.int .i64 0,.int .i64 0,.int .i64 0,.int .i64 0] 114)/\Below nD.heap.size nD w9:=⟨_,rfl,At.new _ _,Below.alloc' (Below.refl _ _) _⟩;rw[<-bA];clear bA;have gp:=hx.size;obtain⟨Tp,lG⟩:∃q,nD.heap.size=q:=⟨_,rfl⟩;have np:¬ P' Tp:=λh=>by have:=oN.lt _ h;omega
            rw[lG]at Ap gp;rw[lG];clear lG;replace oN:=oN.after hb;replace hx:=Out.trans' hx (Out.of_below (M:=λ_=>False) hb) λ_ _ q=>q.elim;clear hb;refine⟨λ_=>hx,?_⟩;exact Zl
          . refine aj.Step.value (eO rfl) ?_
            obtain⟨oQ,bA,Aq,hb⟩:∃w9,w9=nD.alloc (.cells (cells Re.zero) 51)/\At w9 nD.heap.size (.cells (cells Re.zero) 51)/\Below nD.heap.size nD w9:=⟨_,rfl,At.new _ _,Below.alloc' (Below.refl _ _) _⟩;rw[<-bA];clear bA;have gq:=hx.size;obtain⟨Tq,oF⟩:∃q,nD.heap.size=q:=⟨_,rfl⟩;have nq:¬ P' Tq:=λh=>by have:=oN.lt _ h;omega
            rw[oF]at Aq gq;rw[oF];clear oF;replace oN:=oN.after hb;replace hx:=Out.trans' hx (Out.of_below (M:=λ_=>False) hb) λ_ _ q=>q.elim;clear hb;refine⟨λ_=>hx,?_⟩;exact Zk
        . refine aj.Step.value (u:=.pointer (some ⟨wr.drew.heap.size,0,none⟩)) (w':=wr.drew.alloc (.cells #[.int .i64 0,.int .i64 0,.int .i64 0,.int .i64 0,.int .i64 0,.int .i64 0,.int .i64 0] 114)) dQ ?_
          obtain⟨nD,bA,Ap,hb⟩:∃w9,w9=wr.drew.alloc (.cells #[.int .i64 0,.int .i64 0,.int .i64 0,.int .i64 0,.int .i64 0,.int .i64 0,.int .i64 0] 114)/\At w9 wr.drew.heap.size (.cells #[.int .i64 0,.int .i64 0,.int .i64 0,.int .i64 0,.int .i64 0,.int .i64 0,.int .i64 0] 114)/\Below wr.drew.heap.size wr.drew w9:=⟨_,rfl,At.new _ _,Below.alloc' (Below.refl _ _) _⟩;rw[<-bA];clear bA;have gp:=hx.size;obtain⟨Tp,lG⟩:∃q,wr.drew.heap.size=q:=⟨_,rfl⟩;have np:¬ P' Tp:=λh=>by have:=oN.lt _ h;omega
          rw[lG]at Ap gp;rw[lG];clear lG;replace oN:=oN.after hb;replace hx:=Out.trans' hx (Out.of_below (M:=λ_=>False) hb) λ_ _ q=>q.elim;clear hb;refine⟨λ_=>hx,?_⟩
          (try simp only[bF,bG,bH,tks])
          refine tk2 4 16 ?_ ?_
          . refine aj.Step.call dQ (iT _) ?_
            rintro e oQ ⟨rfl,hb⟩;replace Ap:=Ap.keep hb;replace oN:=oN.after hb;replace hx:=Out.trans' hx (Out.of_below (M:=λ_=>False) hb) λ_ _ q=>q.elim;clear hb;refine⟨_,rfl,λ_=>hx,?_⟩;exact Zl
          . refine aj.Step.value (eO rfl) ?_
            obtain⟨oQ,bA,Aq,hb⟩:∃w9,w9=nD.alloc (.cells (cells Re.zero) 51)/\At w9 nD.heap.size (.cells (cells Re.zero) 51)/\Below nD.heap.size nD w9:=⟨_,rfl,At.new _ _,Below.alloc' (Below.refl _ _) _⟩;rw[<-bA];clear bA;have gq:=hx.size;obtain⟨Tq,oF⟩:∃q,nD.heap.size=q:=⟨_,rfl⟩;have nq:¬ P' Tq:=λh=>by have:=oN.lt _ h;omega
            rw[oF]at Aq gq;rw[oF];have Qp:Tp<Tq:=by have:=Ap.lt;omega
            clear oF;replace Ap:=Ap.keep hb;exact Z1t
        . refine aj.Step.value (eO rfl) ?_
          obtain⟨nD,bA,Aq,hb⟩:∃w9,w9=wr.drew.alloc (.cells (cells Re.zero) 51)/\At w9 wr.drew.heap.size (.cells (cells Re.zero) 51)/\Below wr.drew.heap.size wr.drew w9:=⟨_,rfl,At.new _ _,Below.alloc' (Below.refl _ _) _⟩;rw[<-bA];clear bA;have gq:=hx.size;obtain⟨Tq,oF⟩:∃q,wr.drew.heap.size=q:=⟨_,rfl⟩;have nq:¬ P' Tq:=λh=>by have:=oN.lt _ h;omega
          rw[oF]at Aq gq;rw[oF];clear oF;replace oN:=oN.after hb;replace hx:=Out.trans' hx (Out.of_below (M:=λ_=>False) hb) λ_ _ q=>q.elim;clear hb;refine⟨λ_=>hx,?_⟩
          (try simp only[bF,bG,bH,tks])
          refine tk2 4 15 ?_ ?_
          . refine aj.Step.call dQ (iT _) ?_
            rintro e oQ ⟨rfl,hb⟩;replace Aq:=Aq.keep hb;replace oN:=oN.after hb;replace hx:=Out.trans' hx (Out.of_below (M:=λ_=>False) hb) λ_ _ q=>q.elim;clear hb;refine⟨_,rfl,λ_=>hx,?_⟩;exact Zk
          . refine aj.Step.value (u:=.pointer (some ⟨nD.heap.size,0,none⟩)) (w':=nD.alloc (.cells #[.int .i64 0,.int .i64 0,.int .i64 0,.int .i64 0,.int .i64 0,.int .i64 0,.int .i64 0] 114)) dQ ?_
            obtain⟨oQ,bA,Ap,hb⟩:∃w9,w9=nD.alloc (.cells #[.int .i64 0,.int .i64 0,.int .i64 0,.int .i64 0,.int .i64 0,.int .i64 0,.int .i64 0] 114)/\At w9 nD.heap.size (.cells #[.int .i64 0,.int .i64 0,.int .i64 0,.int .i64 0,.int .i64 0,.int .i64 0,.int .i64 0] 114)/\Below nD.heap.size nD w9:=⟨_,rfl,At.new _ _,Below.alloc' (Below.refl _ _) _⟩;rw[<-bA];clear bA;have gp:=hx.size;obtain⟨Tp,lG⟩:∃q,nD.heap.size=q:=⟨_,rfl⟩;have np:¬ P' Tp:=λh=>by have:=oN.lt _ h;omega
            rw[lG]at Ap gp;rw[lG];have Qp:Tq<Tp:=by have:=Aq.lt;omega
            clear lG;replace Aq:=Aq.keep hb;exact Z1t
      . rintro a W6 ⟨Tp,Tq,n2,P2,u61,u62,u63,u64,u65,u66,u67,u68,u69,u70,u71,u72,u73,u74,u75,rfl,gp,gq,Qp,Ap,Aq,hn2,yX,Cj,hnp,hnq,mG⟩
        simp only[List.setIfInBounds_toArray,List.set_cons_zero,List.set_cons_succ];clear hlk l0 aA aB bB lY wV wW zf zh zi zk lbk;have IK:Hid (∀b,b<N5->P2 b->P b):=Lib.hid λb hb h=>xD.out b hb (Cj b ak h);have hs6:=mG.size;have xA:=hAr.out (M:=λb=>b=Y.pm) ak mG;have AC6:=AC.out (M:=λb=>b=Y.pm) ak mG;have As6:=Lib.hid (At.out (M:=λb=>b=Y.pm) hAs.out ak mG);have Av6:=Lib.hid (At.out (M:=λb=>b=Y.pm) hAv.out ak mG);have Au6:=Lib.hid (At.out (M:=λb=>b=Y.pm) hAu.out ak mG);have B6:=A0.out (M:=λb=>b=Y.pm) ak mG;have C6:=A4.out (M:=λb=>b=Y.pm) ak mG;have Lc:=Lib.hid (At.out (M:=λb=>b=Y.pm) vY.out n0p mG);have ZP:N5<=W6.heap.size:=aC EB hs6;clear hAr AC hAs hAv hAu A0 A4 vY mG Cj qw qd xD HRr;obtain⟨l0,aA,aB,bB⟩:=At.three B6;obtain⟨lp,Mt,Mv,cp2,Xm,cp4,cp5,cp6⟩:=At.seven (b:=Tp) Ap;have zp5:=Ap.thaw 5;have lq:=Aq.lt;have c21:W6.cell? ⟨Tq,21,none⟩=some (.int .i64 (sk.c 21)):=(Aq.cell 21).trans (bE sk ak rfl);have c22:W6.cell? ⟨Tq,22,none⟩=some (.int .i64 (sk.c 22)):=(Aq.cell 22).trans (bE sk ak rfl);have c17:W6.cell? ⟨Tq,17,none⟩=some (.int .i64 (sk.c 17)):=(Aq.cell 17).trans (bE sk ak rfl);have c18:W6.cell? ⟨Tq,18,none⟩=some (.int .i64 (sk.c 18)):=(Aq.cell 18).trans (bE sk ak rfl);have HAQ:=Lib.hid Aq;obtain⟨au,hau⟩:∃t,Fx.TH i0 ly.s0 (Fx.len (sk.c 21) (sk.c 22) i0 0) (Fx.len (sk.c 17) (sk.c 18) i0 0) (Fx.mX (sk.c 21) i0) (Fx.mX (sk.c 17) i0)=t:=⟨_,rfl⟩;have ace:=λX=>Uh i0 ly.s0 (sk.c 21) (sk.c 22) (sk.c 17) (sk.c 18) i0 X;simp only[hau]at ace;clear Aq
        go_upto_region 9 with(go_at_call 221;(with_reducible refine(ace _).mono ?_);rintro e' w9 ⟨rfl,fT⟩;replace Ap:=Ap.keep fT;obtain⟨lp,Mt,Mv,cp2,Xm,cp4,cp5,cp6⟩:=At.seven (b:=Tp) Ap;have zp5:=Ap.thaw 5)
        generalize hW:World.setCell _ _ _=Le;obtain⟨y,hy⟩:∃y:Fw.Ld,{ ly with a0:=au }=y:=⟨_,rfl⟩;have ZQ:At Le Tp (.cells (eF y) 114):=by
         rw[<-hW,<-hy];exact At.set Ap 5 _
        have kJ:Out (λb=>b=Tp) W6 Le:=by
         rw[<-hW];exact Out.set (M:=λb=>b=Tp) (Out.of_below fT) rfl 5 _
        have HYK:Hid (ks.take (k+1)=ks.take k++[y]/\szl.getD k 0=y.s1):=Lib.hid (by
         have hkk:k<ks.length:=by rw[VD.out];exact hlt
         have e:ks[k]=y:=by
          have e1:=HKS.out;subst e1;rw[List.getElem_map,ZN.out,<-hy];unfold Fw.uP;simp only[uy,HSK.out,hau]
         refine⟨by rw[List.take_succ_eq_append_getElem hkk,e],?_⟩;rw[<-HSZ.out,List.getD,List.getElem?_map,List.getElem?_eq_getElem hkk,e]
         rfl)
        have hTN:N5<=Tp:=by omega
        have nM:=yX.own kJ λb hb h=>by subst h;exact⟨hnp,by omega⟩
        have ZR:=Lib.hid (xA.out (M:=λb=>b=Tp) ak kJ);have yL:=AC6.out (M:=λb=>b=Tp) ak kJ;have aec:=Lib.hid (At.out (M:=λb=>b=Tp) As6.out ak kJ);have aed:=Lib.hid (At.out (M:=λb=>b=Tp) Av6.out ak kJ);have aee:=Lib.hid (At.out (M:=λb=>b=Tp) Au6.out ak kJ);have B10:=B6.out (M:=λb=>b=Tp) ak kJ;have Mq:=C6.out (M:=λb=>b=Tp) ak kJ;have vI:=Lib.hid (At.out (M:=λb=>b=Tp) Lc.out ak kJ);have DU:N5<=Le.heap.size:=aC ZP kJ.size;clear hW hy kJ fT ace hau Ap lp Mt Mv cp2 Xm cp4 cp5 cp6 zp5 lq c21 c22 c17 c18 HAQ l0 aA aB bB xA AC6 As6 Av6 Au6 B6 C6 Lc ZP hs6 yX hnp hnq;have hRf:k*7+7<=cs.size:=by have:=Gj.out.1;omega
        have HYL:Hid (∀j,j<7->Le.cell? ⟨Tp,0+j,none⟩=(eF y)[j]?):=Lib.hid λj hj=>by rw[Nat.zero_add];exact ZQ.cell j
        obtain⟨lC,Fb,Fg⟩:=At.two yL;have agA:=ZR.out.lt;have lTp:=ZQ.lt
        go_upto_region 10 with(first|(refine eP zH nU aU _ rfl rfl (dw y) HYL.out ?_)|(refine jk nU aU _ _ rfl rfl rfl ZR.out (dw y) hRf (o8 y) ?_))
        generalize hW:World.setRow _ _ _=Bw;have VG:At Bw R (.cells (splice cs (k*7) (eF y)) 114):=hW▸At.setRow ZR.out _;have jF:Out (λb=>b=R) Le Bw:=hW▸Out.setRow (M:=λb=>b=R) (Out.refl _ _) rfl _
        have aef:Hid ((splice cs (k*7) (eF y)).size=m*7/\oL (splice cs (k*7) (eF y)) (ks.take (k+1))):=Lib.hid (by
         have e:(ks.take k).length=k:=by rw[List.length_take,VD.out];omega
         refine⟨by rw[je (by rw[dw];exact hRf)];exact Gj.out.1,?_⟩;have h1:=Gj.out.2.snoc (x:=y) (by rw[e];exact hRf);rw[e]at h1;rw[HYK.out.1]
         exact h1)
        have qW:¬ P2 R:=λh=>by have:=Ca.out _ (IK.out _ ak h);omega
        have qX:=nM.own jF λb hb h=>by subst h;exact⟨qW,by omega⟩
        have aeg:=ZQ.out (M:=λb=>b=R) ak jF;have IL:=yL.out (M:=λb=>b=R) ak jF;have VH:=At.out (M:=λb=>b=R) aec.out ak jF;have aeh:=Lib.hid (At.out (M:=λb=>b=R) aed.out ak jF);have aei:=Lib.hid (At.out (M:=λb=>b=R) aee.out ak jF);have B11:=B10.out (M:=λb=>b=R) ak jF;have Lf:=Mq.out (M:=λb=>b=R) ak jF;have vJ:=Lib.hid (At.out (M:=λb=>b=R) vI.out ak jF);have Lg:N5<=Bw.heap.size:=aC DU jF.size;generalize splice cs (k*7) (eF y)=agB at *;clear hW jF lC Fb Fg agA lTp HYL ZR yL aec aed aee B10 Mq vI DU nM ZQ Gj hRf;obtain⟨lp,Mt,Mv,cp2,Xm,cp4,cp5,cp6⟩:=At.seven (b:=Tp) aeg;have lS:=VH.lt;have cSk:=VH.cell k;rw[cK _ hlt]at cSk;have zSk:=VH.thaw k
        go_upto_region 11 with(fail)
        generalize hW:World.setCell _ _ _=RG;have e12:(aK (λi=>szl.getD i 0) m k).setIfInBounds k (.int .i64 y.s1)=aK (λi=>szl.getD i 0) m (k+1):=by
         have h1:=j3 (λi=>szl.getD i 0) hlt;simp only[HYK.out.2]at h1;exact h1
        have aej:Hid (At RG Ts (.cells (aK (λi=>szl.getD i 0) m (k+1)) 3)):=Lib.hid (by
         rw[<-hW,<-e12]
         exact At.set VH k _)
        have oV:Out (λb=>b=Ts) Bw RG:=hW▸Out.set (M:=λb=>b=Ts) (Out.refl _ _) rfl k _;have uD:=qX.own oV λb hb h=>by subst h;exact⟨λh=>by have:=Ca.out _ (IK.out _ ls5 h);omega,by omega⟩
        have Lh:=VG.out (M:=λb=>b=Ts) ak oV;have DV:=IL.out (M:=λb=>b=Ts) ak oV;have Oa:=At.out (M:=λb=>b=Ts) aeh.out ak oV;have aek:=Lib.hid (At.out (M:=λb=>b=Ts) aei.out ak oV);have XD:=B11.out (M:=λb=>b=Ts) ak oV;have Jo:=Lf.out (M:=λb=>b=Ts) ak oV;have Gl:=Lib.hid (At.out (M:=λb=>b=Ts) vJ.out ak oV);have Fh:N5<=RG.heap.size:=aC Lg oV.size;clear hW oV lp Mt Mv cp2 Xm cp4 cp5 cp6 lS cSk zSk e12 VH VG IL aeh aei B11 Lf vJ Lg qX aeg;have hfT:tZ.getD k 0=Fx.coll (Fw.meet B 0 f kid):=by
         rw[<-HTP.out,List.getD,List.getElem?_map,List.getElem?_eq_getElem Mj,ZN.out];rfl
        have hfU:sP.getD k 0=Fx.coll (Fw.meet B 1 f kid):=by
         rw[<-HBT.out,List.getD,List.getElem?_map,List.getElem?_eq_getElem Mj,ZN.out];rfl
        have HFT:=Lib.hid hfT;have HFU:=Lib.hid hfU;have Ob:=ab7 hK F HDW.out HLEN.out f kid RG hdk.out.1 hdk.out.2 hf (uD.ro qL sO.out hkm);have hml:=vH B 0 f kid;obtain⟨mt,hmt⟩:∃l,Fw.meet B 0 f kid=l:=⟨_,rfl⟩;rw[hmt]at Ob hml HFT;have ZT:=Lib.hid uD;clear hfT hfU hmt uD
        go_upto_region 12 with(first|(go_at_call 223;(with_reducible refine Ob.mono ?_);rintro e' eD ⟨⟨v,rfl,hown⟩,sZ⟩;obtain⟨Am,cm,rfl,qz⟩:=uV hown Jv;replace Oa:=Oa.keep sZ;have lV:=Oa.lt;have cVk:=Oa.cell k;rw[cK _ hlt]at cVk;have zVk:=Oa.thaw k)|(go_at_call 222;(with_reducible refine(JU Am mt mt.length cm eD qz rfl).mono ?_);rintro e' wK ⟨rfl,rfl⟩))
        generalize hW:World.setCell _ _ _=W14;have e14:(aK (λi=>tZ.getD i 0) m k).setIfInBounds k (.int .i64 (Fx.coll mt))=aK (λi=>tZ.getD i 0) m (k+1):=by
         have h1:=j3 (λi=>tZ.getD i 0) hlt;simp only[HFT.out]at h1;exact h1
        have ael:Hid (At W14 Tv (.cells (aK (λi=>tZ.getD i 0) m (k+1)) 3)):=Lib.hid (by
         rw[<-hW,<-e14]
         exact At.set Oa k _)
        have uE:Out (λb=>b=Tv) RG W14:=hW▸Out.set (M:=λb=>b=Tv) (Out.of_below sZ) rfl k _;have Oc:=ZT.out.own uE λb hb h=>by subst h;exact⟨λh=>by have:=Ca.out _ (IK.out _ lv5 h);omega,by omega⟩
        have aem:=Lh.out (M:=λb=>b=Tv) ak uE;have aen:=DV.out (M:=λb=>b=Tv) ak uE;have aeo:=Lib.hid (At.out (M:=λb=>b=Tv) aej.out ak uE);have Od:=At.out (M:=λb=>b=Tv) aek.out ak uE;have B14:=XD.out (M:=λb=>b=Tv) ak uE;have C14:=Jo.out (M:=λb=>b=Tv) ak uE;have PX:=Lib.hid (At.out (M:=λb=>b=Tv) Gl.out ak uE);have ZU:N5<=W14.heap.size:=aC Fh uE.size;clear hW uE lV cVk zVk e14 aej Lh DV Oa aek XD Jo Gl Fh ZT Ob hml hown qz sZ;have Ob:=ab' hK F HDW.out HLEN.out f kid W14 hdk.out.1 hdk.out.2 hf (Oc.ro qL sO.out hkm);have hml:=vH B 1 f kid;obtain⟨mu,hmu⟩:∃l,Fw.meet B 1 f kid=l:=⟨_,rfl⟩;rw[hmu]at Ob hml HFU;have aep:=Lib.hid Oc;clear hmu Oc
        go_upto_region 13 with(first|(go_at_call 223;(with_reducible refine Ob.mono ?_);rintro e' eD ⟨⟨v,rfl,hown⟩,sZ⟩;obtain⟨Am,cm,rfl,qz⟩:=uV hown Jv;replace Od:=Od.keep sZ;have lV:=Od.lt;have cVk:=Od.cell k;rw[cK _ hlt]at cVk;have zVk:=Od.thaw k)|(go_at_call 222;(with_reducible refine(JU Am mu mu.length cm eD qz rfl).mono ?_);rintro e' wK ⟨rfl,rfl⟩))
        generalize hW:World.setCell _ _ _=W16;have e16:(aK (λi=>sP.getD i 0) m k).setIfInBounds k (.int .i64 (Fx.coll mu))=aK (λi=>sP.getD i 0) m (k+1):=by
         have h1:=j3 (λi=>sP.getD i 0) hlt;simp only[HFU.out]at h1;exact h1
        have agC:Hid (At W16 Tu (.cells (aK (λi=>sP.getD i 0) m (k+1)) 3)):=Lib.hid (by
         rw[<-hW,<-e16]
         exact At.set Od k _)
        have Fj:Out (λb=>b=Tu) W14 W16:=hW▸Out.set (M:=λb=>b=Tu) (Out.of_below sZ) rfl k _;have agD:=aep.out.own Fj λb hb h=>by subst h;exact⟨λh=>by have:=Ca.out _ (IK.out _ lu5 h);omega,by omega⟩
        have agE:=aem.out (M:=λb=>b=Tu) ak Fj;have agF:=aen.out (M:=λb=>b=Tu) ak Fj;have agG:=Lib.hid (At.out (M:=λb=>b=Tu) aeo.out ak Fj);have agH:=Lib.hid (At.out (M:=λb=>b=Tu) ael.out ak Fj);have B16:=B14.out (M:=λb=>b=Tu) ak Fj;have C16:=C14.out (M:=λb=>b=Tu) ak Fj;have aer:=Lib.hid (At.out (M:=λb=>b=Tu) PX.out ak Fj);have agI:N5<=W16.heap.size:=aC ZU Fj.size;clear hW Fj lV cVk zVk e16 aeo aem aen ael Od B14 C14 PX ZU aep Ob hml hown qz sZ;go_wp2
        go_roundw
        case rel=>exact⟨k+1,n2,P2,agB,by omega,by go_num,by omega,agD,IK,agI,agE,aef,agF,agG,agH,agC,B16,C16,aer⟩
        case measure=>simp[intOf];omega
    . obtain rfl:k=m:=by omega
      have hIs:Ints wr (some ⟨Ts,0,none⟩) szl:=by
       have h1:=gH _ k Jv hAs.out;have h2:=rZ szl;rw[HLS.out]at h2;rw[h2]at h1;exact h1
      have hIv:Ints wr (some ⟨Tv,0,none⟩) tZ:=by
       have h1:=gH _ k Jv hAv.out;have h2:=rZ tZ;rw[Jh.out]at h2;rw[h2]at h1;exact h1
      have hIu:Ints wr (some ⟨Tu,0,none⟩) sP:=by
       have h1:=gH _ k Jv hAu.out;have h2:=rZ sP;rw[HLU.out]at h2;rw[h2]at h1;exact h1
      have wH:=RA (some ⟨Ts,0,none⟩) (some ⟨Tv,0,none⟩) (some ⟨Tu,0,none⟩) szl tZ sP k k k k wr hIs hIv hIu HLS.out Jh.out HLU.out ak
      have HN2:Hid (n'<=n+2*(fl.map (Fw.cst B f)).sum):=Lib.hid (by
       have h1:=Vz B f fl k
       omega)
      have qd:=Lib.hid hSr;have HRC:=Lib.hid (show cs.size=k*7/\oL cs ks from by
       have h1:=Gj.out;rw[List.take_of_length_le (by rw[VD.out];exact ah _)]at h1
       exact h1)
      obtain⟨en,hen⟩:∃t,Fx.uN szl tZ sP k=t:=⟨_,rfl⟩;rw[hen]at wH;have HEN:=Lib.hid hen;clear hIs hIv hIu hSr Gj hn' hlt hen
      go_upto_region 15 with(go_at_call 224;(with_reducible refine wH.mono ?_);rintro e' w9 ⟨⟨bb,rfl,gbb,Ti⟩,fT⟩)
      have Mk:=qd.out.after fT;have AR9:=hAr.keep fT;have XE:=AC.keep fT;have B9:=A0.keep fT;have C9:=A4.keep fT;have Lj:=Lib.hid (aF.keep vY.out fT);have Av9:=hAv.out.keep fT;have Au9:=hAu.out.keep fT;have aes:=Lib.hid Ti;have hN9:N5<=w9.heap.size:=aC EB fT.size;have ahF:N5<=bb:=aC EB gbb;clear wH Ti qd hAr AC hAs hAv hAu A0 A4 vY fT gbb EB;obtain⟨m1,ahG,ahH⟩:∃m1,m1+1<=k/\k<=m1+1:=⟨k-1,by omega,by omega⟩;have hwk:IntKind.i64.wrap ((k:Int)-1)=(m1:Int):=by rw[IntWalk.i64_in _ ak];omega
      have agJ:(m1:Int)<(k:Int):=by omega
      have acf:(0:Int)<(k:Int):=by omega
      have lv9:=Av9.lt;have lu9:=Au9.lt;have cv0:w9.cell? ⟨Tv,0,none⟩=some (.int .i64 (tZ.getD 0 0)):=(Av9.cell 0).trans (by rw[cK _ hm0,if_pos hm0]);have cu1:w9.cell? ⟨Tu,m1,none⟩=some (.int .i64 (sP.getD m1 0)):=(Au9.cell m1).trans (by rw[cK _ ak,if_pos ak]);obtain⟨t0,ht0⟩:∃t,tZ.getD 0 0=t:=⟨_,rfl⟩;obtain⟨u1,hu1⟩:∃t,sP.getD m1 0=t:=⟨_,rfl⟩;rw[ht0]at cv0;rw[hu1]at cu1;have HF1:Hid ((if Fw.opn s Ml 0=true then 0 else t0)=first):=Lib.hid (by rw[<-ht0];exact MI.out)
      have zM:Hid ((if Fw.opn s Ml 1=true then 0 else u1)=last):=Lib.hid (by
       rw[<-hu1];have h1:=HLA.out;rw[HLU.out,show k-1=m1 by omega]at h1
       exact h1)
      clear ht0 hu1;have hSd:Below w9.heap.size w9 w9.drew:=Below.drew (Below.refl _ _);refine kQ (S:=λX=>Below w9.heap.size w9 X) 11 ?_ ?_
      . exact hSd
      intro hx;clear hSd;refine aH 0 ?_;refine aH 1 ?_;refine aH 2 ?_;refine aH 3 ?_;refine aH 4 ?_;refine aH 5 ?_;refine aH 6 ?_;refine aH 7 ?_;refine aH 8 ?_;refine aH 9 ?_;refine aH 10 ?_;refine jY ?_;have SI:Below w9.heap.size w9 w9.drew:=hx;generalize w9.drew=jg at *;have nM:=Mk.after SI;have aeu:=AR9.keep SI;have yL:=XE.keep SI;have B10:=B9.keep SI;have Mq:=C9.keep SI;have vI:=Lib.hid (aF.keep Lj.out SI);have aa1:=Lib.hid (aes.out.after SI);have DU:N5<=jg.heap.size:=aC hN9 SI.size;clear hx SI Mk AR9 XE B9 C9 Lj aes hN9 cv0 cu1 lv9 lu9 Av9 Au9 hwk agJ acf;obtain⟨o0,ho0⟩:∃b,Fw.opn s Ml 0=b:=⟨_,rfl⟩;obtain⟨o1',ho1⟩:∃b,Fw.opn s Ml 1=b:=⟨_,rfl⟩;have DW:=Ct b0 s _ zva Ml jg vI.out;rw[ho0]at DW HF1;rw[ho1]at zM;have HO1:=Lib.hid ho1;clear ho0 ho1
      go_upto_if 140 with(go_at_call 225;(with_reducible refine DW.mono ?_);rintro e' cZ ⟨rfl,fK⟩)
      have qX:=nM.after fK;have VG:=aeu.keep fK;have IL:=yL.keep fK;have Lf:=Mq.keep fK;have vJ:=Lib.hid (aF.keep vI.out fK);have aa2:=Lib.hid (aa1.out.after fK);have Lg:N5<=cZ.heap.size:=aC DU fK.size;clear nM aeu yL B10 Mq vI aa1 DU fK DW;go_cut [16]from 139 to 141 (λv w2=>v=.int .i64 first/\Below cZ.heap.size cZ w2)
      case first =>
       cases o0 with
       | true =>
         have e1:=HF1.out;rw[if_pos rfl]at e1;exact Z46
       | false =>
         have e1:=HF1.out;rw[if_neg eY]at e1;exact Z46
      case rest =>
       obtain⟨rfl,fK⟩:=hcut;have aev:=Lib.hid (aF.keep vJ.out fK);have DW:=Cr b0 s _ zva Ml wc aev.out;rw[HO1.out]at DW;have aa3:=qX.after fK;have aa4:=VG.keep fK;have aa5:=IL.keep fK;have aew:=Lf.keep fK;have VI:=Lib.hid (aa2.out.after fK);have aa6:N5<=wc.heap.size:=aC Lg fK.size;clear qX VG IL Lf vJ aa2 Lg fK
       go_upto_if 142 with(go_at_call 225;(with_reducible refine DW.mono ?_);rintro e' eD ⟨rfl,sZ⟩)
       have aex:=aa3.after sZ;have aey:=aa4.keep sZ;have aez:=aa5.keep sZ;have C13:=aew.keep sZ;have aa7:=Lib.hid (VI.out.after sZ);have aeA:N5<=eD.heap.size:=aC aa6 sZ.size;clear aa3 aa4 aa5 aew aev VI aa6 sZ DW;go_cut [17]from 141 to 143 (λv w2=>v=.int .i64 last/\Below eD.heap.size eD w2)
       case first =>
        cases o1' with
        | true =>
          have e1:=zM.out;rw[if_pos rfl]at e1;exact Z46
        | false =>
          have e1:=zM.out;rw[if_neg eY]at e1;exact Z46
       case rest =>
        obtain⟨rfl,Oe⟩:=hcut;have uD:=aex.after Oe;have Lh:=aey.keep Oe;have DV:=aez.keep Oe;have Jo:=C13.keep Oe;have aa8:=Lib.hid (aa7.out.after Oe);have Fh:N5<=wc.heap.size:=aC aeA Oe.size;clear aex aey aez C13 aa7 aeA Oe;obtain⟨lC,Fb,Fg⟩:=At.two DV
        go_upto_region 21 with(fail)
        clear lC Fb Fg;have VF:Hid (cs.size=k*7/\oL cs (yK (blG first szl tZ sP) ks 0)):=Lib.hid (by rw[RF];exact HRC.out);have qW:=Lib.hid (show¬ P' R from λh=>by have:=Ca.out _ (xD.out _ ak h);omega);have agK:=Lib.hid (show¬ P' (R+1)from λh=>by have:=Ca.out _ (xD.out _ Xz h);omega);have agL:=Lib.hid (show¬ P' (w.heap.size+1)from λh=>by have:=Ca.out _ (xD.out _ ak h);omega);have HLB:Hid ((Fx.uO szl tZ sP k).length=k):=Lib.hid (Fx.qM _ _ _ _)
        go_loopw [146] (λiv wr=>∃(i:Nat) (cs2:Array Value),i<=k/\iv=.int .i64 i/\qV Y B F w P n' P' wr/\At wr R (.cells cs2 114)/\Hid (cs2.size=k*7/\oL cs2 (yK (blG first szl tZ sP) ks i))/\At wr (R+1) (.cells #[.slice (some ⟨R,0,none⟩) k k,.int .i64 0] 198)/\At wr (w.heap.size+1) (.cells #[.slice none 0 0,.int .i64 0] 198)/\Hid (Ints wr (some ⟨bb,0,none⟩) (Fx.uO szl tZ sP k))) (λiv _=>k-(intOf iv).toNat)
        case atStart=>exact⟨0,cs,bJ _,rfl,uD,Lh,VF,DV,Jo,aa8⟩
        case round =>
         clear uD Lh VF DV Jo aa8;obtain⟨i,cs2,hi2,rfl,hSr,hAr,Gj,AC,A4,xS⟩:=hrel;by_cases hlt:i<k
         . have hltz:(i:Int)<(k:Int):=by omega
           have qd:=Lib.hid hSr;have hik:i<ks.length:=by rw[VD.out];exact hlt
           obtain⟨lz,cz⟩:=lints xS.out (k:=i) (by rw[HLB.out];exact hlt);rw[Fx.Cw _ _ _ hlt]at cz;obtain⟨bg,hbg⟩:∃t,Fx.o7 szl tZ sP i=t:=⟨_,rfl⟩;rw[hbg]at cz;have HBG:=Lib.hid hbg;obtain⟨lC,Fb,Fg⟩:=At.two AC;have lR:=hAr.lt;have hlast:i*7+6<cs2.size:=by have:=Gj.out.1;omega
           have cR6:wr.cell? ⟨R,i*7+6,none⟩=some cs2[i*7+6]:=(hAr.cell _).trans (Array.getElem?_eq_getElem hlast);generalize cs2[i*7+6]=old at cR6;have zR6:=hAr.thaw (i*7+6);obtain⟨p,hp⟩:∃t,IntKind.i64.wrap (first+bg)=t:=⟨_,rfl⟩;have nbR:bb≠R:=by omega
           clear hSr hbg
           go_upto_region 23 with(fail)
           have hSd:Out (λb=>b=R) wr wr.drew:=(Out.refl _ _).drew;refine kQ (S:=λX=>Out (λb=>b=R) wr X) 13 ?_ ?_
           . exact hSd
           intro hx;clear hSd;refine jD 0 ?_;refine jD 1 ?_;refine jD 2 ?_;refine jD 3 ?_;refine jD 4 ?_;refine jD 5 ?_;refine jD 6 ?_;refine jD 7 ?_;refine jD 8 ?_;refine jD 9 ?_;refine jD 10 ?_;refine jD 11 ?_;refine tk1 12 ?_;refine aj.Step.skip dQ ?_;generalize hW:World.setCell _ _ _=W3;have AR3:At W3 R (.cells (cs2.setIfInBounds (i*7+6) (.int .i64 p)) 114):=hW▸At.set hAr (i*7+6) _;have hO3:Out (λb=>b=R) wr W3:=hW▸Out.set (M:=λb=>b=R) (Out.refl _ _) rfl (i*7+6) _;refine⟨λ_=>Out.drew hO3,?_⟩
           (try simp only[bF,bG,bH,tks])
           refine jY ?_
           have agM:Hid ((cs2.setIfInBounds (i*7+6) (.int .i64 p)).size=k*7/\oL (cs2.setIfInBounds (i*7+6) (.int .i64 p)) (yK (blG first szl tZ sP) ks (i+1))):=Lib.hid (by
            refine⟨by simpa using Gj.out.1,?_⟩;have h1:=Gj.out.2.J3 (k:=i) (by rw[Aw];exact hik) p;rw[VA _ _ hik]at h1;rw[<-RD _ _ hik];have e:blG first szl tZ sP i ks[i]={ ks[i]with a1:=p }:=by
             unfold blG;rw[HBG.out,<-qZ,hp]
            rw[e]
            exact h1)
           have hO4:=Out.drew hO3;have AR4:=At.drew AR3;have PS:=qd.out.own hO4 λb hb h=>by subst h;exact⟨qW.out,by omega⟩
           have AC4:=AC.out (M:=λb=>b=R) ak hO4;have C4:=A4.out (M:=λb=>b=R) ak hO4;have Y9:=Lib.hid (vG xS.out hO4 nbR);generalize W3.drew=W4 at *;generalize cs2.setIfInBounds (i*7+6) (.int .i64 p)=yV at *;clear hW hx hO3 hO4 AR3 lC Fb Fg lR hlast cR6 zR6 cz lz hAr Gj AC A4 xS hp;go_wp2
           go_roundw
           case rel=>exact⟨i+1,yV,by omega,by go_num,PS,AR4,agM,AC4,C4,Y9⟩
           case measure=>simp[intOf];omega
         . obtain rfl:i=k:=by omega
           have HRF:Hid (oL cs2 xs):=Lib.hid (by
            have h1:=Gj.out.2;rw[<-VD.out,VB,HXS.out.1]at h1
            exact h1)
           have hxl:xs.length=i:=by rw[<-HXS.out.1,List.length_mapIdx,VD.out]
           obtain⟨lC,Fb,Fg⟩:=At.two AC;have zC1:=AC.thaw 1;obtain⟨q1,hq1⟩:∃t,IntKind.i64.wrap (first+en)=t:=⟨_,rfl⟩;obtain⟨q2,hq2⟩:∃t,IntKind.i64.wrap (q1+last)=t:=⟨_,rfl⟩
           have HHI:Hid (q2=hi):=Lib.hid (by
            have h1:=HXS.out.2;rw[HEN.out,<-qZ (first+en),hq1,<-qZ,hq2]at h1
            exact h1)
           have qd:=Lib.hid hSr;clear hSr Gj xS
           go_upto_region 26 with(fail)
           generalize hW:World.setCell _ _ _=RG;have DV:At RG (R+1) (.cells #[.slice (some ⟨R,0,none⟩) i i,.int .i64 q2] 198):=hW▸At.set AC 1 _;have oV:Out (λb=>b=R+1) wr RG:=hW▸Out.set (M:=λb=>b=R+1) (Out.refl _ _) rfl 1 _;have uD:=qd.out.own oV λb hb h=>by subst h;exact⟨agK.out,by omega⟩
           have Lh:=hAr.out (M:=λb=>b=R+1) ak oV;have Jo:=A4.out (M:=λb=>b=R+1) ak oV;clear hW lC Fb Fg zC1 hAr AC A4 oV hq1 hq2;obtain⟨lC,Fb,Fg⟩:=At.two DV;obtain⟨l4,fA,fB⟩:=At.two Jo;have iQ:=Jo.thaw 0;have iR:=Jo.thaw 1;have ZT:=Lib.hid uD;have aeB:=Lib.hid Lh;clear uD Lh;go_wp2;generalize hW:World.setCell _ _ _=W6;have A6:At W6 (w.heap.size+1) (.cells #[.slice (some ⟨R,0,none⟩) i i,.int .i64 q2] 198):=hW▸At.set (At.set Jo 0 _) 1 _;have SK:Out (λb=>b=w.heap.size+1) RG W6:=by
            exact Z2s
           clear hW fA fB iQ iR lC Fb Fg DV Jo;have AR6:=aeB.out.out (M:=λb=>b=w.heap.size+1) ak SK;have yX:=ZT.out.own SK λb hb h=>by subst h;exact⟨agL.out,by omega⟩
           obtain⟨l4,fA,fB⟩:=At.two A6;have mG:=yX.fin;have Jq:=yX.kp;have hNw:=yX.new;refine bodyPost_ret (v:=.agg #[.slice (some ⟨R,0,none⟩) i i,.int .i64 q2]) (by simp[results,Tryz.results171,go_sem,fA,fB,l4];first|done|exact⟨rfl,rfl⟩|rfl) rfl ⟨R,i,cs2,P',n',by rw[hxl,HHI.out],by omega,AR6,HRF.out,HN2.out,Jq,hNw,qW.out,mG⟩
end
end Go.Proofs.YtcbcfdihofclkaaGreat.Fix
