/- Proved here: what functions of the program do, in plain numbers (part 41); no conditions but those in sight. -/
import Derived.Lib.MinMax
import Derived.Test.YtcbcfdihofclkaaGreatQK
import Derived.Test.YtcbcfdihofclkaaGreatQ36
import Derived.Test.YtcbcfdihofclkaaGreatQ37
import Derived.Test.YtcbcfdihofclkaaGreatQ40
set_option linter.unusedVariables false
set_option linter.unusedSimpArgs false
set_option linter.unusedSectionVars false
set_option maxRecDepth 100000
namespace Go.Proofs.YtcbcfdihofclkaaGreat.Fix
open Go.ChangeShapes Go.WideShapes Go.ChangeAt Go.RowKit Go.Deep Go.Joins Go.Shelf
theorem OI(W:World):(Instr.build 51 #[(0,.int .i64 3)]).run Tryz.prog W=.ok (.agg (cells iM)) W:=by kernel_rfl
theorem Xb:Fits iM:=λi _ _=>by
 show(Lit.int .i64 (if i=0 then 3 else 0)).wf=true;split<;>decide +kernel
theorem Sq:uw iM=true:=by decide +kernel
theorem Grow.off{W W':World}{t:Nat}{L L':Lay}{T T':Tr.T}(k:Grow t L L' T T' W W'){b:Nat}(hb:b<W.heap.size)(ho:¬ owned t L T b):¬ owned t L' T' b:=λh=>(k.2 b h).elim ho λq=>absurd q ak
theorem OJ(G:Lit->Option Value){x:Int}(hf:G (.int .i64 x)=none\/∃y,G (.int .i64 x)=some (rcv y))(hx:Wf x):∃(p0 p1 p2 p3:Int) (ok:Bool),∀G':Lit->Option Value,G' (.int .i64 x)=G (.int .i64 x)->∀(X:World) (b n:Nat),GM 3 X b n G' ->
  (Instr.lookup 28 (.map (some b)) (.int .i64 x) true).run Tryz.prog X=.ok (.tuple #[.agg #[.int .i64 p0,.int .i64 p1,.int .i64 p2,.int .i64 p3],.bool ok]) X:=by
 rcases hf with h|⟨y,h⟩
 . refine⟨0,0,0,0,false,λG' hG X b n g => ?_⟩
   exact Z3s
 . refine⟨Fx.cut y.a0,Fx.cut y.a1,Fx.cut y.s0,Fx.cut y.s1,true,λG' hG X b n g => ?_⟩
   exact Z3s
set_option maxHeartbeats 16000000 in
theorem Jd(a0:Option Addr)(jB cap0:Nat)(a1 a2:Int)(a3:Re.St)(a4 a5:Int)(w:World)(w0:ze w a0 jB cap0)(w1:(Lit.int .i64 a1).wf=true)(w3:Fits a3):Calls Tryz.prog 4 #[.slice a0 jB cap0,.int .i64 a1,.int .i64 a2,.agg (cells a3),.int .i64 a4,.int .i64 a5] w λe w'=>e=.returned (.bool true)/\Below w.heap.size w w':=by
 obtain⟨l,hA⟩:=w0.acts;have HF:=Lib.hid w3;have HW1:=Lib.hid (show Wf a1 from w1);clear w0 w1 w3;go_enter Tryz.func4,Tryz.ntmps4
 go_upto_region 1 with(fail)
 have hx0:At (w.alloc (.cells (cells a3) 51)) w.heap.size (.cells (cells a3) 51):=At.new _ _;have hB0:Below w.heap.size w (w.alloc (.cells (cells a3) 51)):=Below.alloc' (Below.refl _ _) _;generalize w.alloc (.cells (cells a3) 51)=wb at *
 go_upto_region 4 with(go_at_call 15;(with_reducible refine(vO _).mono ?_);rintro e w1 ⟨rfl,hb1⟩)
 have HB1:=hB0.trans (hb1.mono hB0.size);have EF:=hx0.keep hb1;have kG:=xM cap0 (hA.after HB1);have hs1:=HB1.size;have lx1:=EF.lt;clear hx0 hB0 hb1 hA
 go_upto_region 5 with(go_at_call 16;(with_reducible refine kG.mono ?_);rintro e w2 ⟨⟨tb,rb,ok,rfl,hok⟩,hb2⟩)
 have HB2:=HB1.trans (hb2.mono hs1);have EG:=EF.keep hb2;have hs2:=hb2.size;clear kG EF HB1 hb2;cases ok with
 | false =>
   exact XV
 | true =>
 by_cases b4:(1048576:Int)<a4
 . exact XV
 by_cases b5:(1048576:Int)<a5
 . exact XV
 have kT:=λX=>xI a3 X;cases ht:uw a3
 . exact Z2z
 rw[ht]at kT;obtain⟨gg,cc,mm,n,L,K,T,two,hn,Sn,hdp⟩:=hok rfl;have g2:=two.good;have M:vP T n:=⟨g2.inv.wf,g2.inv.num,by omega,λx d h=>by have:=hdp x d h;omega,λz nd h=>(Sn z nd h).1⟩;have HM:=Lib.hid M;have HVT:=Lib.hid Sn;have HDP:=Lib.hid hdp;have HG2:=Lib.hid g2;clear two M Sn hdp g2 hok
 go_upto_region 7 with(first|(refine aS aU _ rfl rfl EG ?_)|(go_at_call 22;(with_reducible refine(kT _).mono ?_);rintro e w3 ⟨rfl,hb3⟩))
 have HB3:=HB2.trans (hb3.mono HB2.size);have HX3:=EG.keep hb3;have Ij:=Lib.hid (HG2.out.after hb3);have hs3:=aC hs2 hb3.size;have kL:=yQ Ij.out HM.out a4 a5;clear kT HB2 EG HG2 hb3
 go_upto_region 8 with(go_at_call 17;(with_reducible refine kL.mono ?_);rintro e w4 ⟨⟨b1,rfl,Ep,hG1⟩,hb4⟩)
 obtain⟨N,hN⟩:∃N,(oW T (max a4 0) (max a5 0)).length=N:=⟨_,rfl⟩;obtain⟨G,hG⟩:∃G,qA T (max a4 0) (max a5 0)=G:=⟨_,rfl⟩;have HGF:Hid (∀k,G k=none\/∃y,G k=some (rcv y)):=Lib.hid λk=>by rw[<-hG];exact xJ T (iN T) _ _ k
 have HNG:=Lib.hid (show(oW T (max a4 0) (max a5 0)).length=N/\qA T (max a4 0) (max a5 0)=G from⟨hN,hG⟩);rw[hN,hG]at hG1;have Ji:=HB3.trans (hb4.mono HB3.size);have HX4:=HX3.keep hb4;have HG4:=Lib.hid (Ij.out.after hb4);have hs4:=aC hs3 hb4.size;have ho1:¬ owned tb L T b1:=λq=>absurd (Ij.out.inv.rep.lt q) ak;have OL:=Lib.hid hG1;have kA:=sG HG4.out ak hs4 (a:=a2) HW1.out;clear kL HB3 HX3 Ij hb4 hG1 hN hG Ep;by_cases he:Tr.iW T a1 a2=0
 case neg =>
  obtain⟨v,hv⟩:∃v,Tr.iW T a1 a2=v:=⟨_,rfl⟩;obtain⟨v2,hv2⟩:∃v,Tr.og T a1 a2=v:=⟨_,rfl⟩;rw[hv]at he;rw[hv,hv2]at kA;have hvb:(v==0)=false:=by simpa using he
  exact Z3t
 case pos =>
 have hI:Tr.og T a1 a2=Tr.free T:=by unfold Tr.og;rw[if_pos he]
 rw[he,hI]at kA;obtain⟨q1,q3,q4⟩:=WS HM.out.wf (by rw[HM.out.num];omega) HDP.out he;have HQ:=Lib.hid (q4 a3);have hfr:=HM.out.wf.j5.1.1;have hfr2:=HM.out.wf.j5.2;rw[HM.out.num]at hfr2;obtain⟨id,hid⟩:∃i,Tr.free T=i:=⟨_,rfl⟩;obtain⟨T1,hT1⟩:∃X,Tr.bU T a1 a2=X:=⟨_,rfl⟩;have HV1:Hid (VT T1):=Lib.hid (by rw[<-hT1];exact HVT.out.le (dP.bU _ _ _));simp only[hid,hT1]at q1 q3 HQ kA hfr hfr2;clear q4 hI he
 go_upto_region 11 with(go_at_call 23;(with_reducible refine kA.mono ?_);rintro e w5 ⟨rfl,L1,n1,g5,hn1,EH,hb5⟩)
 have HB5:=Ji.trans (hb5.mono hs1);have HX5:=aW HX4 lx1 hb5;have HG5:=Lib.hid g5;have hs5:=aC hs4 hb5.size;have Ce:=OL.out.lt;have adh:=Lib.hid (OL.out.out ho1 EH.1);have ho5:=EH.off Ce ho1;have lb5:=adh.out.lt;have bN:=OI;have kS:=sH HG5.out hs5 (x:=id) ((eT _).2 ak) Xb;rw[q1]at kS;obtain⟨T2,XG⟩:∃X,dG T1 id iM=X:=⟨_,rfl⟩;have HV2:Hid (VT T2):=Lib.hid (by rw[<-XG];exact HV1.out.sty _ Sq);simp only[XG]at q3 HQ kS;clear kA g5 EH hb5 OL Ji HX4 HG4 ho1 Ce hT1 XG HV1 q1
 go_upto_region 12 with(go_at_call 24;refine Calls.mono (show _ from kS) ?_;rintro e w6 ⟨rfl,g6,OM,hb6⟩)
 have HB6:=HB5.trans (hb6.mono hs1);have HX6:=aW HX5 lx1 hb6;have SY:=Lib.hid g6;have hs6:=aC hs5 hb6.size;have Sr:=Lib.hid (adh.out.out ho5 OM.1);have yU:=OM.off lb5 ho5;have lb6:=Sr.out.lt;have kA2:=sG SY.out ak hs6 (u:=id) (a:=0) ((eT _).2 ak);have hI2:Tr.og T2 id 0=Tr.free T2:=by unfold Tr.og;rw[if_pos q3]
 rw[q3,hI2]at kA2;obtain⟨kid,zO⟩:∃i,Tr.free T2=i:=⟨_,rfl⟩;obtain⟨T3,hT3⟩:∃X,Tr.bU T2 id 0=X:=⟨_,rfl⟩;have hfk:=SY.out.inv.wf.j5.1.1;have afV:=SY.out.inv.wf.j5.2;rw[SY.out.inv.num]at afV;have HV3:Hid (VT T3):=Lib.hid (by rw[<-hT3];exact HV2.out.le (dP.bU _ _ _));simp only[zO,hT3]at HQ kA2 hfk afV;clear bN kS g6 OM hb6 adh HB5 HX5 HG5 ho5 lb5 hI2 zO hT3 q3 HV2
 go_upto_region 14 with(go_at_call 23;(with_reducible refine kA2.mono ?_);rintro e w7 ⟨rfl,L3,n3,g7,hn3,adi,xR⟩)
 have HB7:=HB6.trans (xR.mono hs1);have HX7:=aW HX6 lx1 xR;have HG7:=Lib.hid g7;have hs7:=aC hs6 xR.size;have adj:=Lib.hid (Sr.out.out yU adi.1);have ho7:=adi.off lb6 yU;have lb7:=adj.out.lt;have kS2:=sH HG7.out hs7 (x:=kid) ((eT _).2 ak) HF.out;obtain⟨T4,XM⟩:∃X,dG T3 kid a3=X:=⟨_,rfl⟩;obtain⟨v3,hv3⟩:∃v,oI T3 kid a3=v:=⟨_,rfl⟩;have HV4:Hid (VT T4):=Lib.hid (by rw[<-XM];exact HV3.out.sty _ ht);simp only[XM,hv3]at HQ kS2;clear kA2 g7 adi xR Sr HB6 HX6 SY yU lb6 XM hv3 HV3
 go_upto_region 15 with(first|(refine aS aU _ rfl rfl HX7 ?_)|(go_at_call 24;(with_reducible refine kS2.mono ?_);rintro e w8 ⟨rfl,g8,afW,xQ⟩))
 have HB8:=HB7.trans (xQ.mono hs1);have HG8:=Lib.hid g8;have hs8:=aC hs7 xQ.size;have afX:=Lib.hid (adj.out.out ho7 afW.1);have M4:vP T4 n3:=⟨g8.inv.wf,g8.inv.num,by omega,HQ.out.2.2,λz nd h=>(HV4.out z nd h).1⟩;have hsh:=WQ HQ.out.1 HM.out.wf M4.wf HQ.out.2.1;have kL2:=zW (iN T) HG8.out M4 (λz hz=>aaA HQ.out.1 HM.out.wf M4.wf HQ.out.2.1 z hz) a4 a5 HM.out.bd (HM.out.qm _ _).1 (HM.out.qm _ _).2;have e4:nT T4 (iN T) (max a4 0) (max a5 0)=oW T (max a4 0) (max a5 0):=by unfold nT oW;rw[hsh];rfl
 have e5:ql T4 (iN T) (max a4 0) (max a5 0)=qA T (max a4 0) (max a5 0):=by unfold ql qA;rw[e4]
 rw[e4,e5,HNG.out.1,HNG.out.2]at kL2;have HM4:=Lib.hid M4;clear kS2 g8 afW xQ adj HB7 HX7 HG7 ho7 lb7 M4 hsh e4 e5 HNG HQ HV4
 go_upto_region 16 with(go_at_call 17;(with_reducible refine kL2.mono ?_);rintro e w9 ⟨⟨b2,rfl,adk,hG2⟩,fT⟩)
 have HB9:=HB8.trans (fT.mono (aC hs1 hs8));have HG9:=Lib.hid (HG8.out.after fT);have OO:=Lib.hid (show GM 3 w9 b1 N G/\GM 3 w9 b2 N G from⟨afX.out.keep fT,hG2⟩);have kO:=xF HG9.out;have UK:=aC hs8 fT.size;clear kL2 HB8 HG8 afX fT hG2 adk
 go_upto_region 17 with(go_at_call 18;(with_reducible refine kO.mono ?_);rintro e wa ⟨⟨v,rfl,hk⟩,hba⟩;obtain⟨A,c,rfl,hI,-⟩:=hk.row.ints)
 have HBa:=HB9.trans (hba.mono (aC hs1 UK));have BH:=Lib.hid (show GM 3 wa b1 N G/\GM 3 wa b2 N G from⟨OO.out.1.keep hba,OO.out.2.keep hba⟩);have HI:=Lib.hid hI
 have HO:Hid (∀x∈Tr.ord T4,Wf x):=Lib.hid λx hx=>by
  obtain⟨nd,h⟩:=HM4.out.wf.gy.1 hx;have:=HM4.out.wf.range x nd h;exact(eT _).2 ak
 clear kO HB9 HG9 OO hba hI hk;obtain⟨o,ho⟩:∃o,Tr.ord T4=o:=⟨_,rfl⟩;rw[ho]at HI HO ⊢;have hol:o.length<=64:=by rw[<-ho,HM4.out.num];exact HM4.out.few
 obtain⟨no,hno⟩:∃k,o.length=k:=⟨_,rfl⟩;rw[hno]at hol ⊢;have HNO:=Lib.hid hno;have hsa:=HBa.size;clear ho hno;go_wp2
 go_loopw [24] (λi wr=>∃j:Nat,j<=no/\i=.int .i64 (j:Int)/\Below wa.heap.size wa wr) (λi _=>no-(intOf i).toNat)
 case atStart=>exact⟨0,by omega,rfl,Below.refl _ _⟩
 case round =>
  obtain⟨j,hj,rfl,hbr⟩:=hrel;have hsr:=hbr.size;by_cases hjn:j<no
  . have hjz:(j:Int)<(no:Int):=by omega
    obtain⟨ba,oa,rfl,XH,cx⟩:=(HI.out.after hbr).at_ (k:=j) Z5e;have hxw:Wf (o.getD j 0):=HO.out _ Z50;obtain⟨x,hx⟩:∃x,o.getD j 0=x:=⟨_,rfl⟩;rw[hx]at cx hxw;obtain⟨p0,p1,p2,p3,okk,aai⟩:=OJ G (HGF.out _) hxw;have hlk:=aai G rfl;clear aai;have VD:=Lib.hid hlk;have k1:=hlk wr b1 N (BH.out.1.keep hbr);clear hlk hxw hx
    go_upto_region 21 with(fail)
    have tY:Below wr.heap.size wr (wr.alloc (.cells #[.int .i64 p0,.int .i64 p1,.int .i64 p2,.int .i64 p3] 33)):=Below.alloc' (Below.refl _ _) _;have pF:At (wr.alloc (.cells #[.int .i64 p0,.int .i64 p1,.int .i64 p2,.int .i64 p3] 33)) wr.heap.size (.cells #[.int .i64 p0,.int .i64 p1,.int .i64 p2,.int .i64 p3] 33):=At.new _ _;generalize wr.alloc (.cells #[.int .i64 p0,.int .i64 p1,.int .i64 p2,.int .i64 p3] 33)=wd at *;have hbd:=hbr.trans (tY.mono hsr);have IY:=(tY.cell (p:=⟨ba,oa+j,none⟩) XH).trans cx;have Je:ba<wd.heap.size:=by have:=tY.size;omega
    have k2:=VD.out wd b2 N (BH.out.2.keep hbd);generalize hRb:wr.heap.size=R1 at *;clear k1 cx hRb tY hbr XH hsr
    go_upto_region 22 with(fail)
    have yR:Below wd.heap.size wd (wd.alloc (.cells #[.int .i64 p0,.int .i64 p1,.int .i64 p2,.int .i64 p3] 33)):=Below.alloc' (Below.refl _ _) _;have hR2:At (wd.alloc (.cells #[.int .i64 p0,.int .i64 p1,.int .i64 p2,.int .i64 p3] 33)) wd.heap.size (.cells #[.int .i64 p0,.int .i64 p1,.int .i64 p2,.int .i64 p3] 33):=At.new _ _;generalize wd.alloc (.cells #[.int .i64 p0,.int .i64 p1,.int .i64 p2,.int .i64 p3] 33)=we at *;have Xc:=pF.keep yR;have hbe:Below wa.heap.size wa we:=hbd.trans (yR.mono (by have:=hbd.size;omega));generalize wd.heap.size=R2 at *;obtain⟨l1,c10,c11,c12,c13⟩:=At.four Xc;obtain⟨l2,c20,c21,c22,c23⟩:=At.four hR2;clear k2 IY yR pF Xc hR2 hbd;exact Z3c
  . have hjz:¬ (j:Int)<(no:Int):=by omega
    have hn1:=(BH.out.1.keep hbr).len Tryz.underlying28;have hn2:=(BH.out.2.keep hbr).len Tryz.underlying28;go_wp2
    go_ret
    exact⟨rfl,HBa.trans (hbr.mono hsa)⟩
end Go.Proofs.YtcbcfdihofclkaaGreat.Fix
