/- Proved here: what functions of the program do, in plain numbers (part 33); no conditions but those in sight. -/
import Derived.Test.YtcbcfdihofclkaaGreatQK
import Derived.Test.YtcbcfdihofclkaaGreatQ25
import Derived.Test.YtcbcfdihofclkaaGreatQ31
import Derived.Test.YtcbcfdihofclkaaGreatQ32
set_option linter.unusedVariables false
set_option linter.unusedSimpArgs false
set_option linter.unusedSectionVars false
set_option maxRecDepth 100000
namespace Go.Proofs.YtcbcfdihofclkaaGreat.Fix
open Go.ChangeShapes Go.WideShapes Go.ChangeAt Go.RowKit
def apS(sk:Re.St)(r0:Int):Int:=if Oi sk 0 r0 r0 = -1/\Fw.GZ sk 0 r0=false then Fw.X9 sk r0 else Oi sk 0 r0 r0
section
variable {Y:rV} {B:Int->Fw.Bx} {F:Int->Nat} {D:Int->Prop} {KM:World->Nat->Prop} {f:Nat} {w0:World} {P0:Nat->Prop}
set_option maxHeartbeats 16000000 in
theorem aah(hL:vF Y B F D KM f)(hK:∀(X X':World) (b:Nat),KM X b->Below X.heap.size X X'->KM X' b)(qL:∀(X X':World) (b:Nat),KM X b->Out (λq=>q≠b) X X'->KM X' b)(hR0:RO w0 Y B D KM)(hkm:Y.km<w0.heap.size)
  (k:Int) (up:Fw.Ld) (hz:D up.id) (hk:D k) (hf:F k=f) (w:World) (n:Nat) (P:Nat->Prop) (hS:qV Y B F w0 P0 n P w) (hn:n+Fw.cst B f k<maxLen) (sk s:Re.St) (hsk:(B k).sty=sk) (hs:(B up.id).sty=s) (q0 q1 r0 r1 d0 d1:Int) (hpt:prt sk s Y.ww Y.wh up.s0 up.s1=#[.int .i64 q0,.int .i64 q1,.int .i64 r0,.int .i64 r1,.int .i64 d0,.int .i64 d1]) (ly:Fw.Ld) (uy:Fw.lay B f k r0 r1 (apS sk r0) (Oi sk 1 r1 r0)=ly) :
  Calls Tryz.prog 120 #[.pointer (some ⟨Y.lb,0,none⟩),.int .i64 k,.agg (eF up)] w λe w'=>e=.returned (.agg (eF { ly with a0:=Fw.wr (q0+Mr sk 0 r0 r0 d0 ly.s0),a1:=Fw.wr (q1+Mr sk 1 r1 r0 d1 ly.s1) })) /\
   ∃n' P',n'<=n+Fw.cst B f k/\qV Y B F w0 P0 n' P' w'/\(∀b,b<w.heap.size->P' b->P b)/\Out (λb=>b=Y.pm) w w':=by
 obtain⟨es0,Ra,pJ⟩:=(hS.ro qL hR0 hkm).Ey;have ahQ:=pJ.lt;clear pJ;have HSK:=Lib.hid hsk;have HSW:=Lib.hid hS;have sO:=Lib.hid hR0;have HN:=Lib.hid hn;have HF:=Lib.hid hf;have HLY:=Lib.hid uy;have wF:=hS.ro qL hR0 hkm;obtain⟨bk,hbk⟩:∃b,Y.bl k=b:=⟨_,rfl⟩;have RQ:=λX (h:Below w.heap.size w X)=>ae8 hK k up hz hk bk hbk.symm X (wF.keep hK h) sk s hsk hs;simp only[hpt]at RQ;have hlk:=λX (h:Below w.heap.size w X)=>(wF.keep hK h).look hk;simp only[hbk]at hlk;have hbx:=(wF.box k hk).1;rw[hbk,hsk]at hbx;generalize Y.vf k=vf at hbx;generalize Y.va k=va at hbx;generalize (B k).ib=ib at hbx;have qw:=Lib.hid hbx;have D7:=wF.lay
 have HNB:Hid (¬ (bk=Y.pm)):=Lib.hid (λe=>by
  obtain⟨es1,ck1,hp1⟩:=wF.Ey;rw[e]at hbx
  exact absurd (hbx.symm.trans hp1) eY)
 obtain⟨z,j0,j1,s0,s1,a0,a1⟩:=up;simp only[eF]at RQ ⊢;clear hS hsk hs hR0 hn hf uy hpt hbk hbx wF hz;go_enter Tryz.func120,Tryz.ntmps120
 go_upto_region 1 with(fail)
 generalize hW:World.alloc _ _=W0;have A0:At W0 w.heap.size (.cells #[.int .i64 z,.int .i64 j0,.int .i64 j1,.int .i64 s0,.int .i64 s1,.int .i64 a0,.int .i64 a1] 114):=hW▸At.alloc (At.new _ _) _;have A1:At W0 (w.heap.size+1) (.cells #[.int .i64 0,.int .i64 0,.int .i64 0,.int .i64 0,.int .i64 0,.int .i64 0,.int .i64 0] 114):=hW▸At.new' _ eY;have hB0:Below w.heap.size w W0:=hW▸Below.alloc' (Below.alloc' (Below.refl _ _) _) _;clear hW;have II:=D7.keep hB0;have aai:=hlk W0 hB0;obtain⟨lY,wV,wW,zf,zh,zi,zk⟩:=At.six II;clear II D7 hlk
 go_upto_region 2 with(fail)
 clear aai lY wV wW zf zh zi zk;replace RQ:=RQ W0 hB0;obtain⟨l0,aA,aB,bB,lM,p8,p9,Hz⟩:=At.seven A0
 go_upto_region 3 with(go_at_call 176;(with_reducible refine RQ.mono ?_);rintro e' w4 ⟨rfl,hb4⟩)
 generalize hW:World.alloc _ _=w1;have AP:At w1 w4.heap.size (.cells #[.int .i64 q0,.int .i64 q1,.int .i64 r0,.int .i64 r1,.int .i64 d0,.int .i64 d1] 239):=hW▸At.new _ _;have hb5:Below W0.heap.size W0 w1:=hW▸(hb4.trans (Below.mono (Below.alloc' (Below.refl _ _) _) hb4.size));have gR:=hb4.size;clear hW hb4 RQ;generalize w4.heap.size=Tr at *;have Pv:w.heap.size≠Tr:=by have:=A0.lt;omega
 have n1r:w.heap.size+1≠Tr:=by have:=A1.lt;omega
 have gTr:w.heap.size<=Tr:=by have:=A0.lt;omega
 replace A1:=A1.keep hb5;have hB1:Below w.heap.size w w1:=Below.ay hB0 (ah _) hb5;clear hB0 hb5 l0 aA aB bB lM p8 p9 Hz A0;have Bc:=Lib.hid (qw.out.keep hB1);obtain⟨lr,VY,VZ,V4,V6,V7,V8⟩:=At.six AP;obtain⟨e0,he0⟩:∃e,Oi sk 0 r0 r0=e:=⟨_,rfl⟩;obtain⟨e1,he1⟩:∃e,Oi sk 1 r1 r0=e:=⟨_,rfl⟩;have aaj:=λX (h:Below w1.heap.size w1 X)=>acC bk sk vf va ib r0 r1 X (Bc.out.keep h);have XU:=λX (h:Below w1.heap.size w1 X)=>acD bk sk vf va ib r0 r1 X (Bc.out.keep h);simp only[he0]at aaj;simp only[he1]at XU;have HE0:=Lib.hid he0;have HE1:=Lib.hid he1;clear he0 he1;refine aj.kg (λa0 a W5=>∃(Tp:Nat) (u22 u23 u24 u25 u26 u27 u28 u29 u30:Value),a={ a0 with tmps:=(((((((((a0.tmps.setIfInBounds 22 u22).setIfInBounds 23 u23).setIfInBounds 24 u24).setIfInBounds 25 u25).setIfInBounds 26 u26).setIfInBounds 27 u27).setIfInBounds 28 u28).setIfInBounds 29 u29).setIfInBounds 30 u30).setIfInBounds 9 (.pointer (some ⟨Tp,0,none⟩)) }/\w1.heap.size<=Tp/\At W5 Tp (.cells #[.int .i64 e0,.int .i64 e1] 108)/\Below w1.heap.size w1 W5) ?_ ?_
 . have hSd:Below w1.heap.size w1 w1.drew:=Below.drew (Below.refl _ _)
   refine kQ (S:=λX=>Below w1.heap.size w1 X) 11 ?_ ?_
   . exact hSd
   intro hx;clear hSd;refine aH 0 ?_;refine aH 1 ?_;refine aH 2 ?_;refine aH 4 ?_;refine aH 5 ?_;refine aH 6 ?_;clear lr VY VZ V4 V6 V7 V8;generalize w1.drew=W0 at *;refine tk2 3 9 ?_ ?_
   . refine aj.Step.call dQ (aaj _ hx) ?_
     rintro e cZ ⟨rfl,hb⟩;replace hx:=Below.ay hx (ah _) hb;clear hb;refine⟨_,rfl,λ_=>hx,?_⟩
     (try simp only[bF,bG,bH,tks])
     refine tk2 7 9 ?_ ?_
     . refine aj.Step.call dQ (XU _ hx) ?_
       rintro e bQ ⟨rfl,hb⟩;replace hx:=Below.ay hx (ah _) hb;clear hb;refine⟨_,rfl,λ_=>hx,?_⟩
       (try simp only[bF,bG,bH,tks])
       refine aH 8 ?_;refine tk1 9 ?_;refine aj.Step.value (u:=.pointer (some ⟨bQ.heap.size,0,none⟩)) (w':=bQ.alloc (.cells #[.int .i64 0,.int .i64 0] 108)) dQ ?_;obtain⟨eD,bA,Ap,hb⟩:∃w9,w9=bQ.alloc (.cells #[.int .i64 0,.int .i64 0] 108)/\At w9 bQ.heap.size (.cells #[.int .i64 0,.int .i64 0] 108)/\Below bQ.heap.size bQ w9:=⟨_,rfl,At.new _ _,Below.alloc' (Below.refl _ _) _⟩;rw[<-bA];clear bA;have gp:=hx.size;obtain⟨Tp,lG⟩:∃q,bQ.heap.size=q:=⟨_,rfl⟩;rw[lG]at Ap gp;rw[lG];clear lG;replace hx:=Below.ay hx (ah _) hb;clear hb;refine⟨λ_=>hx,?_⟩
       (try simp only[bF,bG,bH,tks])
       exact Z11
     . refine aj.Step.value (u:=.pointer (some ⟨cZ.heap.size,0,none⟩)) (w':=cZ.alloc (.cells #[.int .i64 0,.int .i64 0] 108)) dQ ?_
       obtain⟨bQ,bA,Ap,hb⟩:∃w9,w9=cZ.alloc (.cells #[.int .i64 0,.int .i64 0] 108)/\At w9 cZ.heap.size (.cells #[.int .i64 0,.int .i64 0] 108)/\Below cZ.heap.size cZ w9:=⟨_,rfl,At.new _ _,Below.alloc' (Below.refl _ _) _⟩;rw[<-bA];clear bA;have gp:=hx.size;obtain⟨Tp,lG⟩:∃q,cZ.heap.size=q:=⟨_,rfl⟩;rw[lG]at Ap gp;rw[lG];clear lG;replace hx:=Below.ay hx (ah _) hb;clear hb;refine⟨λ_=>hx,?_⟩;exact Z2c
   . refine aj.Step.value (u:=.pointer (some ⟨W0.heap.size,0,none⟩)) (w':=W0.alloc (.cells #[.int .i64 0,.int .i64 0] 108)) dQ ?_
     obtain⟨cZ,bA,Ap,hb⟩:∃w9,w9=W0.alloc (.cells #[.int .i64 0,.int .i64 0] 108)/\At w9 W0.heap.size (.cells #[.int .i64 0,.int .i64 0] 108)/\Below W0.heap.size W0 w9:=⟨_,rfl,At.new _ _,Below.alloc' (Below.refl _ _) _⟩;rw[<-bA];clear bA;have gp:=hx.size;obtain⟨Tp,lG⟩:∃q,W0.heap.size=q:=⟨_,rfl⟩;rw[lG]at Ap gp;rw[lG];clear lG;replace hx:=Below.ay hx (ah _) hb;clear hb;refine⟨λ_=>hx,?_⟩
     (try simp only[bF,bG,bH,tks])
     refine tk1 3 ?_;refine aj.Step.call dQ (aaj _ hx) ?_;rintro e bQ ⟨rfl,hb⟩;replace Ap:=Ap.keep hb;replace hx:=Below.ay hx (ah _) hb;clear hb;refine⟨_,rfl,λ_=>hx,?_⟩;exact Z2c
 . rintro a W5 ⟨Tp,u22,u23,u24,u25,u26,u27,u28,u29,u30,rfl,gp,Ap,ru⟩
   simp only[List.setIfInBounds_toArray,List.set_cons_zero,List.set_cons_succ];replace Bc:=Lib.hid (Bc.out.keep ru);have nrp:Tr≠Tp:=by have:=AP.lt;omega
   have n1p:w.heap.size+1≠Tp:=by have:=A1.lt;omega
   have gTp:w.heap.size<=Tp:=aC hB1.size gp;replace AP:=AP.keep ru;replace A1:=A1.keep ru;have ED:Below w.heap.size w W5:=Below.ay hB1 (ah _) ru;clear ru hB1 aaj XU lr VY VZ V4 V6 V7 V8
   go_upto_region 4 with(fail)
   obtain⟨cc,hcc⟩:∃b:Bool,decide (e0 = -1/\Fw.GZ sk 0 r0=false)=b:=⟨_,rfl⟩;have YQ:=Lib.hid hcc;clear hcc;refine aj.kg (λa0 a W6=>∃(bb:Bool) (u31 u32 u33 u34 u35 u36 u37 u38 u39 u40 u41 u42 u43 u44:Value),a={ a0 with tmps:=((((((((((((((a0.tmps.setIfInBounds 31 u31).setIfInBounds 32 u32).setIfInBounds 33 u33).setIfInBounds 34 u34).setIfInBounds 35 u35).setIfInBounds 36 u36).setIfInBounds 37 u37).setIfInBounds 38 u38).setIfInBounds 39 u39).setIfInBounds 40 u40).setIfInBounds 41 u41).setIfInBounds 42 u42).setIfInBounds 43 u43).setIfInBounds 44 u44).setIfInBounds 45 (.bool bb) }/\Hid (bb=cc)/\Below W5.heap.size W5 W6) ?_ ?_
   . have hSd:Below W5.heap.size W5 W5.drew:=Below.drew (Below.refl _ _)
     obtain⟨lp,Mt,Mv⟩:=At.two Ap;obtain⟨lr,VY,VZ,V4,V6,V7,V8⟩:=At.six AP;have lbk:=aF.lt Bc.out;by_cases hne:e0 = -1
     . subst hne
       cases hfx:Fx.mX (sk.c 3) r0 with
       | true =>
         have SA:=Lib.hid hfx;have HBB:Hid (false=cc):=Lib.hid (by rw[<-YQ.out];have e:Fw.GZ sk 0 r0=true:=hfx;rw[e];decide);exact Z1d
       | false =>
         have SA:=Lib.hid hfx;have HBB:Hid (true=cc):=Lib.hid (by rw[<-YQ.out];have e:Fw.GZ sk 0 r0=false:=hfx;rw[e];decide);exact Z1d
     . have HBB:Hid (false=cc):=Lib.hid (by rw[<-YQ.out];simp[hne])
       have hneb:(e0 == -1)=false:=by simp[hne]
       refine kQ (S:=λX=>Below W5.heap.size W5 X) 15 ?_ ?_
       . exact hSd
       intro hx;clear hSd;refine aH 0 ?_;refine aH 1 ?_;refine aH 2 ?_;refine aH 3 ?_;refine aH 4 ?_;refine aH 5 ?_;refine aH 6 ?_;refine aH 7 ?_;refine aH 8 ?_;refine aH 9 ?_;refine aH 10 ?_;refine aH 11 ?_;refine aH 12 ?_;refine aH 13 ?_;refine aH 14 ?_;refine jY ?_;exact⟨rfl,_,_,_,_,_,_,_,_,_,_,_,_,_,_,_,(by simp only[List.setIfInBounds_toArray,List.set_cons_zero,List.set_cons_succ];rfl),HBB,hx⟩
   . rintro a W6 ⟨bb,u31,u32,u33,u34,u35,u36,u37,u38,u39,u40,u41,u42,u43,u44,rfl,HBB,M7⟩
     simp only[List.setIfInBounds_toArray,List.set_cons_zero,List.set_cons_succ];have hB8:Below w.heap.size w W6:=Below.ay ED (ah _) M7;replace Bc:=Lib.hid (Bc.out.keep M7);replace Ap:=Ap.keep M7;replace AP:=AP.keep M7;replace A1:=A1.keep M7;clear M7 ED;have hbb:=HBB.out;subst hbb;obtain⟨t0,ht0⟩:∃t,apS sk r0=t:=⟨_,rfl⟩;have HT0:=Lib.hid ht0;have hT:(bb=true->Fw.X9 sk r0=t0)/\(bb=false->e0=t0):=by
      rw[<-ht0,<-YQ.out];unfold apS;rw[HE0.out];refine⟨λh=>by rw[if_pos (by simpa using h)],λh=>by rw[if_neg (by simpa using h)]⟩
     clear ht0;have HT:=Lib.hid hT;clear hT
     go_upto_if 45 with(fail)
     go_cut []from 45 to 51 (λw2=>At w2 Tp (.cells #[.int .i64 t0,.int .i64 e1] 108)/\At w2 Tr (.cells #[.int .i64 q0,.int .i64 q1,.int .i64 r0,.int .i64 r1,.int .i64 d0,.int .i64 d1] 239)/\At w2 (w.heap.size+1) (.cells #[.int .i64 0,.int .i64 0,.int .i64 0,.int .i64 0,.int .i64 0,.int .i64 0,.int .i64 0] 114)/\Below w.heap.size w w2)
     case first =>
      cases bb with
      | true =>
        have E:=Lib.hid (HT.out.1 rfl);clear HT HBB YQ;obtain⟨lr,VY,VZ,V4,V6,V7,V8⟩:=At.six AP
        go_wp2_with (go_at_call 179;(with_reducible refine(Kr bk sk vf va ib r0 r1 _ Bc.out).mono ?_);rintro e' w7 ⟨rfl,hb⟩;replace AP:=AP.keep hb;replace A1:=A1.keep hb;replace Ap:=Ap.keep hb;obtain⟨lp,Mt,Mv⟩:=At.two Ap;have zp0:=Ap.thaw 0)
        go_meet
        case rel =>
         refine⟨by rw[<-E.out];exact At.set Ap 0 _,At.off AP nrp _ _,At.off A1 n1p _ _,Below.setCell (Below.ay hB8 (ah _) hb) gTp _⟩
      | false =>
        have E:=Lib.hid (HT.out.2 rfl);clear HT HBB YQ;go_wp2
        go_meet
        case rel=>exact⟨by rw[<-E.out];exact Ap,AP,A1,hB8⟩
     case rest =>
      obtain⟨Ap,AP,A1,hB⟩:=hcut;have hSc:=HSW.out.after hB;have A2:=qw.out.keep hB;have hsc:=hB.size;obtain⟨yi,y0,y1,ys0,ys1,ya0,ya1⟩:=ly;have jZ:=ni hL qL sO.out hkm hSc k r0 r1 t0 e1 hk HF.out HN.out;rw[show Fw.lay B f k r0 r1 t0 e1=⟨yi,y0,y1,ys0,ys1,ya0,ya1⟩by rw[<-HT0.out,<-HE1.out];exact HLY.out]at jZ;simp only[eF]at jZ;obtain⟨lp,Mt,Mv⟩:=At.two Ap;obtain⟨lr,VY,VZ,V4,V6,V7,V8⟩:=At.six AP;have ahR:=aF.lt qw.out;have l1:=A1.lt
      go_upto_region 7 with(go_at_call 62;(with_reducible refine jZ.mono ?_);rintro e' w9 ⟨rfl,n',P',hn',Mk,hP9,Jl⟩)
      replace AP:=AP.out (M:=λb=>b=Y.pm) ak Jl;replace A1:=A1.out (M:=λb=>b=Y.pm) ak Jl;replace A2:aF w9 bk sk vf va ib:=A2.out (M:=λb=>b=Y.pm) HNB.out Jl;generalize hW:World.alloc _ _=V9;have AX:At V9 w9.heap.size (.cells #[.int .i64 yi,.int .i64 y0,.int .i64 y1,.int .i64 ys0,.int .i64 ys1,.int .i64 ya0,.int .i64 ya1] 114):=hW▸At.new _ _;have jl:Below w9.heap.size w9 V9:=hW▸Below.alloc' (Below.refl _ _) _;clear hW lp Mt Mv lr VY VZ V4 V6 V7 V8 jZ Ap;have nrx:Tr≠w9.heap.size:=dh AP.lt;have n1x:w.heap.size+1≠w9.heap.size:=dh A1.lt;have nbx:bk≠w9.heap.size:=dh (aF.lt A2);replace AP:=AP.keep jl;replace A1:=A1.keep jl;replace A2:=aF.keep A2 jl;have gTx:w9.heap.size<=w9.heap.size:=ah _;obtain⟨Tx,hTx⟩:∃T,w9.heap.size=T:=⟨_,rfl⟩;rw[hTx]at AX nrx n1x nbx;have gTx:w9.heap.size<=Tx:=Nat.le_of_eq hTx;rw[hTx];clear hTx;obtain⟨b0,hb0⟩:∃x,Mr sk 0 r0 r0 d0 ys0=x:=⟨_,rfl⟩;obtain⟨b1,hb1⟩:∃x,Mr sk 1 r1 r0 d1 ys1=x:=⟨_,rfl⟩;obtain⟨x0,hx0⟩:∃x,IntKind.i64.wrap (q0+Mr sk 0 r0 r0 d0 ys0)=x:=⟨_,rfl⟩;obtain⟨x1,hx1⟩:∃x,IntKind.i64.wrap (q1+Mr sk 1 r1 r0 d1 ys1)=x:=⟨_,rfl⟩;have gX:Hid (Fw.wr (q0+Mr sk 0 r0 r0 d0 ys0)=x0/\Fw.wr (q1+Mr sk 1 r1 r0 d1 ys1)=x1):=Lib.hid ⟨by rw[<-qZ,hx0],by rw[<-qZ,hx1]⟩;clear hb0 hb1;go_wp2;refine wp_loop_rounds 3 ?_;rw[rounds_succ]
      go_upto_region 10 with(fail)
      obtain⟨lr,VY,VZ,V4,V6,V7,V8⟩:=At.six AP;obtain⟨lx,cx0,A9,IY,SS,cx4,cx5,cx6⟩:=At.seven AX;have zx:=AX.thaw 5;refine wT 16 1 ?_
      (repeat (first|refine nN ?_ | refine nO ?_ (hc:=by intro w2 hS;first|with_reducible exact nI hS (VW _ _ _ _ _ _ _ _ _ _ _ _ _ Z55))|refine nP ?_))
      refine aj.dJ ?_;intro w2 hS;replace AP:=AP.keep hS;replace AX:=AX.keep hS;replace A1:=A1.keep hS;replace A2:=aF.keep A2 hS;replace jl:=Below.ay jl (ah _) hS;clear hS lr VY VZ V4 V6 V7 V8 lx cx0 A9 IY SS cx4 cx5 cx6 zx;obtain⟨lx,cx0,A9,IY,SS,cx4,cx5,cx6⟩:=At.seven AX;have zx:=AX.thaw 5;refine xV ?_;intro K hK;go_simp;refine hK _ _ (aj.bP ?_);clear hK K
      (try rw[hx0])
      generalize hW:World.setCell _ _ _=V0;replace AX:At V0 Tx (.cells #[.int .i64 yi,.int .i64 y0,.int .i64 y1,.int .i64 ys0,.int .i64 ys1,.int .i64 x0,.int .i64 ya1] 114):=hW▸At.set AX 5 _;replace AP:=hW▸At.off AP nrx 5 _;replace A1:=hW▸At.off A1 n1x 5 _;replace A2:aF V0 bk sk vf va ib:=hW▸At.off A2 nbx 5 _;replace jl:Below w9.heap.size w9 V0:=by rw[<-hW];exact Below.setCell jl gTx _
      clear hW lx cx0 A9 IY SS cx4 cx5 cx6 zx;go_wp2;rw[rounds_succ]
      go_upto_region 10 with(fail)
      obtain⟨lr,VY,VZ,V4,V6,V7,V8⟩:=At.six AP;obtain⟨lx,cx0,A9,IY,SS,cx4,cx5,cx6⟩:=At.seven AX;have zx:=AX.thaw 6;refine wT 16 1 ?_
      (repeat (first|refine nN ?_ | refine nO ?_ (hc:=by intro w2 hS;first|with_reducible exact nI hS (VX _ _ _ _ _ _ _ _ _ _ _ _ _ Z55))|refine nP ?_))
      refine aj.dJ ?_;intro w2 hS;replace AP:=AP.keep hS;replace AX:=AX.keep hS;replace A1:=A1.keep hS;replace A2:=aF.keep A2 hS;replace jl:=Below.ay jl (ah _) hS;clear hS lr VY VZ V4 V6 V7 V8 lx cx0 A9 IY SS cx4 cx5 cx6 zx;obtain⟨lx,cx0,A9,IY,SS,cx4,cx5,cx6⟩:=At.seven AX;have zx:=AX.thaw 6;refine xV ?_;intro K hK;go_simp;refine hK _ _ (aj.bP ?_);clear hK K
      (try rw[hx1])
      generalize hW:World.setCell _ _ _=V1;replace AX:At V1 Tx (.cells #[.int .i64 yi,.int .i64 y0,.int .i64 y1,.int .i64 ys0,.int .i64 ys1,.int .i64 x0,.int .i64 x1] 114):=hW▸At.set AX 6 _;replace AP:=hW▸At.off AP nrx 6 _;replace A1:=hW▸At.off A1 n1x 6 _;replace A2:aF V1 bk sk vf va ib:=hW▸At.off A2 nbx 6 _;replace jl:Below w9.heap.size w9 V1:=by rw[<-hW];exact Below.setCell jl gTx _
      clear hW lx cx0 A9 IY SS cx4 cx5 cx6 zx;go_wp2;rw[rounds_succ];obtain⟨lx,cx0,A9,IY,SS,cx4,cx5,cx6⟩:=At.seven AX;obtain⟨l1,aL,aM,gD,gF,IW,IX,ae9⟩:=At.seven A1;have fI:=A1.thaw 0;have fJ:=A1.thaw 1;have gZ:=A1.thaw 2;have iq:=A1.thaw 3;have RN:=A1.thaw 4;have RP:=A1.thaw 5;have ag2:=A1.thaw 6;clear hx0 hx1;have kJ:Out (λb=>b=w.heap.size+1) w9 V1:=Out.of_below jl;go_wp2;generalize hW:World.setCell _ _ _=V5;have A3:At V5 (w.heap.size+1) (.cells #[.int .i64 yi,.int .i64 y0,.int .i64 y1,.int .i64 ys0,.int .i64 ys1,.int .i64 x0,.int .i64 x1] 114):=hW▸At.set (At.set (At.set (At.set (At.set (At.set (At.set A1 0 _) 1 _) 2 _) 3 _) 4 _) 5 _) 6 _;have jF:Out (λb=>b=w.heap.size+1) w9 V5:=by
       rw[<-hW];exact Out.set (Out.set (Out.set (Out.set (Out.set (Out.set (Out.set kJ rfl _ _) rfl _ _) rfl _ _) rfl _ _) rfl _ _) rfl _ _) rfl _ _
      clear hW l1 aL aM gD gF IW IX ae9 fI fJ gZ iq RN RP ag2;obtain⟨l1,aL,aM,gD,gF,IW,IX,ae9⟩:=At.seven A3;have hwl:=HSW.out.size;have hPl:=HSW.out.lt
      have uD:qV Y B F w0 P0 n' P' V5:=Mk.own jF λb hb e=>by
       subst e;refine⟨λh => ?_,by omega⟩;have:=hPl _ (hP9 _ ak h);omega
      have SK:Out (λb=>b=Y.pm) w V5:=Out.trans' ((Out.of_below (M:=λb=>b=Y.pm) hB).trans Jl) jF λb hb e=>by
       subst e;omega
      have HP:Hid (∀b,b<w.heap.size->P' b->P b):=Lib.hid λb hb h=>hP9 b ak h;rw[gX.out.1,gX.out.2];clear hPl;refine bodyPost_ret (v:=.agg #[.int .i64 _,.int .i64 _,.int .i64 _,.int .i64 _,.int .i64 _,.int .i64 _,.int .i64 _]) (by simp[results,Tryz.results120,go_sem, *];first|done|exact⟨rfl,rfl⟩|exact⟨rfl,rfl,rfl,rfl,rfl,rfl,rfl⟩|rfl) rfl ⟨rfl,n',hn',P',uD,HP.out,SK⟩
end
end Go.Proofs.YtcbcfdihofclkaaGreat.Fix
namespace Go.Proofs.YtcbcfdihofclkaaGreat.Fw
theorem D8(B:Int->Bx)(f:Nat)(z i0 i1:Int)(h:f=0->(B z).fl=[]):(cont B f z i0 i1).1.map (·.id)=(B z).fl:=by
 cases f with
 | zero=>rw[h rfl];rfl
 | succ f =>
   simp only[cont];split
   . rename_i e;rw[e];rfl
   . simp only[List.map_map]
     have e:((λx=>x.id)∘mv B i0 i1)=λx:Ld=>x.id:=funext λx=>by simp only[Function.comp,mv];split<;>rfl
     rw[e];exact JG B f z i0 i1
def Laid(B:Int->Bx)(f:Nat)(x:Ld):Prop:=∃k r0 r1 t0 t1,x.i0=(lay B f k r0 r1 t0 t1).i0/\x.i1=(lay B f k r0 r1 t0 t1).i1
theorem Laid.same{B:Int->Bx}{f:Nat}{x y:Ld}(h:Laid B f y)(h0:x.i0=y.i0)(h1:x.i1=y.i1):Laid B f x:=by
 obtain⟨k,r0,r1,t0,t1,q0,q1⟩:=h;exact⟨k,r0,r1,t0,t1,h0.trans q0,h1.trans q1⟩
theorem Laid.moved{B:Int->Bx}{f:Nat}{y:Ld}(h:Laid B f y)(a b:Int):Laid B f { y with a0:=a,a1:=b }:=h.same rfl rfl
theorem Laid.acI{B:Int->Bx}{f:Nat}{y:Ld}(h:Laid B f y)(a:Int):Laid B f { y with a0:=a }:=h.same rfl rfl
theorem Laid.acJ{B:Int->Bx}{f:Nat}{y:Ld}(h:Laid B f y)(a:Int):Laid B f { y with a1:=a }:=h.same rfl rfl
theorem sj(B:Int->Bx)(f:Nat)(k r0 r1 t0 t1:Int):Laid B f (lay B f k r0 r1 t0 t1):=⟨k,r0,r1,t0,t1,rfl,rfl⟩
theorem IZ(B:Int->Bx)(f:Nat)(z i0 i1 high:Int)(ks:List Int):∀x∈(jw B (lay B f) z i0 i1 high ks).1,Laid B f x:=by
 unfold jw;simp only[];intro x hx;obtain⟨i,hi,rfl⟩:=List.mem_mapIdx.1 hx;refine Laid.moved ?_ _ _;have hm:=List.getElem_mem hi;generalize (_:List Ld)[i]=y at hm ⊢;split at hm
 . obtain⟨u,hu,rfl⟩:=List.mem_map.1 hm
   obtain⟨j,hj,rfl⟩:=List.mem_mapIdx.1 hu;split
   . exact sj _ _ _ _ _ _ _
   . exact sj _ _ _ _ _ _ _
 . obtain⟨j,hj,rfl⟩:=List.mem_mapIdx.1 hm
   exact sj _ _ _ _ _ _ _
theorem Fp(B:Int->Bx)(f:Nat)(z i0 i1 high:Int)(fl:List Int):∀(ps:List (Nat×Nat)) (fst:Bool) (y:Int),∀x∈(cu B (lay B f) z i0 i1 high fl fst y ps).1,Laid B f x:=by
 intro ps
 induction ps with
 | nil=>intro fst y x hx;simp[cu]at hx
 | cons p ps ih =>
   intro fst y x hx;simp only[cu,List.mem_append,List.mem_map]at hx;rcases hx with⟨u,hu,rfl⟩|hx
   . exact IZ B f z i0 i1 high _ u hu
   . exact ih _ _ x hx
theorem RS(B:Int->Bx)(f:Nat)(z i0 i1:Int):∀x∈(kind B (lay B f) f z i0 i1).1,Laid B f x:=by
 unfold kind;split
 . unfold Ho;exact Fp B f z i0 i1 _ _ _ _ _
 . split
   . unfold mo
     intro x hx;simp only[]at hx;obtain⟨i,hi,rfl⟩:=List.mem_mapIdx.1 hx;refine Laid.moved ?_ _ _;simp only[List.getElem_mapIdx];exact sj _ _ _ _ _ _ _
   . unfold pV
     intro x hx;simp only[]at hx;obtain⟨i,hi,rfl⟩:=List.mem_mapIdx.1 hx;refine Laid.acJ ?_ _;simp only[List.getElem_map,uP];exact(sj B f _ _ _ _ _).acI _
theorem RU(B:Int->Bx)(f:Nat)(z i0 i1:Int):∀x∈(cont B (f+1) z i0 i1).1,Laid B f x:=by
 intro x hx;simp only[cont]at hx;split at hx
 . simp at hx
 . obtain⟨u,hu,rfl⟩:=List.mem_map.1 hx
   obtain⟨k,r0,r1,t0,t1,h1,h2⟩:=RS B f z i0 i1 u hu;refine⟨k,r0,r1,t0,t1,?_,?_⟩
   . rw[<-h1];unfold mv;split<;>rfl
   . rw[<-h2];unfold mv;split<;>rfl
theorem P7{B:Int->Bx}{f:Nat}{x:Ld}(h:Laid B f x):(-1<=x.i0/\x.i0<=9223372036854775807)/\-1<=x.i1/\x.i1<=9223372036854775807:=by
 obtain⟨k,r0,r1,t0,t1,h1,h2⟩:=h;rw[h1,h2];exact⟨CF _ _ _ _ _,CF _ _ _ _ _⟩
end Go.Proofs.YtcbcfdihofclkaaGreat.Fw
namespace Go.Proofs.YtcbcfdihofclkaaGreat.Fix
open Go.ChangeShapes Go.WideShapes Go.ChangeAt Go.RowKit
structure Pt where
 q0:Int
 q1:Int
 r0:Int
 r1:Int
 d0:Int
 d1:Int
def zP(sk s:Re.St)(ww wh s0 s1:Int):Pt:=if sk.c 1=3 then ⟨0,0,ww,wh,0,0⟩else ⟨s.c 38,s.c 35,Fw.wr (s0-Fw.wr (s.c 38+s.c 36)),Fw.wr (s1-Fw.wr (s.c 35+s.c 37)),s.c 34,s.c 31⟩
theorem acK(sk s:Re.St)(ww wh s0 s1:Int):prt sk s ww wh s0 s1=#[.int .i64 (zP sk s ww wh s0 s1).q0,.int .i64 (zP sk s ww wh s0 s1).q1,.int .i64 (zP sk s ww wh s0 s1).r0,.int .i64 (zP sk s ww wh s0 s1).r1,.int .i64 (zP sk s ww wh s0 s1).d0,.int .i64 (zP sk s ww wh s0 s1).d1]:=by
 unfold prt zP;split<;>rfl
def BA(B:Int->Fw.Bx)(ww wh:Int)(f:Nat)(k:Int)(up:Fw.Ld):Fw.Ld :=
 let sk:=(B k).sty
 let p:=zP sk (B up.id).sty ww wh up.s0 up.s1
 let ly:=Fw.lay B f k p.r0 p.r1 (apS sk p.r0) (Oi sk 1 p.r1 p.r0)
 { ly with a0:=Fw.wr (p.q0+Mr sk 0 p.r0 p.r0 p.d0 ly.s0),a1:=Fw.wr (p.q1+Mr sk 1 p.r1 p.r0 p.d1 ly.s1) }
def edg(s:Re.St)(k:Fw.Ld):Fw.Ld:={ k with a0:=Fw.wr (k.a0+Fw.ed s 3),a1:=Fw.wr (k.a1+Fw.ed s 0) }
def tl(B:Int->Fw.Bx)(ww wh:Int):Nat->Fw.Ld->List Fw.Ld
 | 0,x=>[x]
 | f+1,x=>x::(((Fw.cont B (f+1) x.id x.i0 x.i1).1.flatMap λk=>tl B ww wh f (edg (B x.id).sty k))++((B x.id).ap.flatMap λk=>tl B ww wh f (BA B ww wh f k x)))
def jG(B:Int->Fw.Bx):Nat->Int->Nat
 | 0,_=>1
 | f+1,z=>Fw.cst B (f+1) z+((B z).fl.map (jG B f)).sum+((B z).ap.map λk=>Fw.cst B f k+jG B f k).sum
def rcv(x:Fw.Ld):Value:=.agg #[.int .i64 (Fx.cut x.a0),.int .i64 (Fx.cut x.a1),.int .i64 (Fx.cut x.s0),.int .i64 (Fx.cut x.s1)]
noncomputable def iZ(g:Lit->Option Value)(l:List Fw.Ld):Lit->Option Value:=l.foldl (λg x=>xB g (.int .i64 x.id) (rcv x)) g
theorem yN(g:Lit->Option Value)(l m:List Fw.Ld):iZ g (l++m)=iZ (iZ g l) m:=List.foldl_append
section
variable {Y:rV} {B:Int->Fw.Bx} {F:Int->Nat} {D:Int->Prop} {W W':World} {n n' nr zQ:Nat} {P P':Nat->Prop} {g g':Lit->Option Value}
theorem RO.Oj(hrb:Y.rm≠Y.bm)(D9:Y.rm≠Y.km)(hrm:∃es ck,At W Y.rm (.map es ck))(h:RO W Y B D mW)(k:Out (λb=>b=Y.pm\/b=Y.rm\/W.heap.size<=b) W W')(hp:∃es ck,At W' Y.pm (.map es ck)):RO W' Y B D mW:=by
 have hkm:=h.kinds.lt;obtain⟨es0,Ra,hpm⟩:=h.Ey;obtain⟨es1,ck1,hrm⟩:=hrm
 have cell:∀{b:Nat} {cs:Array Value} {T:TypeId},At W b (.cells cs T)->¬ (b=Y.pm\/b=Y.rm\/W.heap.size<=b):=λ{b cs T} ha q=>by
  rcases q with rfl|rfl|q
  . have:=At.uniq ha hpm;cases this
  . have:=At.uniq ha hrm;cases this
  . exact absurd ha.lt ak
 have ks:∀{v:Value} {l:List Int},KS W v l->KS W' v l:=λ{v l} hk=>hk.out (λg hg q=>by
  obtain⟨cur,ha⟩:=hk.rowAt hg
  exact cell ha q) k
 refine⟨h.lay.out (cell h.lay) k,?_,λz hz => ?_,?_,h.wf,hp,h.pmb,h.pmk,h.pmr⟩
 . obtain⟨n,g,h1,h2⟩:=h.boxes
   exact⟨n,g,h1.out (λq=>by
    rcases q with q|q|q
    . exact h.pmb q.symm
    . exact hrb q.symm
    . exact absurd h1.lt ak) k,h2⟩
 . obtain⟨h1,h2,h3⟩:=h.box z hz
   exact⟨At.out h1 (cell h1) k,ks h2,ks h3⟩
 . refine mW.out _ _ _ h.kinds ⟨k.1,λb hb hn => ?_⟩
   have hb':b=Y.km:=Classical.byContradiction hn;subst hb'
   exact k.2 _ hb (λq=>by
    rcases q with q|q|q
    . exact h.pmk q.symm
    . exact D9 q.symm
    . omega)
structure TS(Y:rV)(B:Int->Fw.Bx)(F:Int->Nat)(D:Int->Prop)(w:World)(P:Nat->Prop)(n':Nat)(P':Nat->Prop)(zQ:Nat)(g':Lit->Option Value)(W:World):Prop where
 ro:RO W Y B D mW
 kp:Kp Y B F n' P' W
 lt:∀b,P' b->b<W.heap.size
 new:∀b,P' b->P b\/w.heap.size<=b
 nrm:¬ P' Y.rm
 gm:GM 3 W Y.rm zQ g'
 out:Out (λb=>b=Y.pm\/b=Y.rm\/w.heap.size<=b) w W
variable {w:World}
theorem TS.size(h:TS Y B F D w P n' P' zQ g' W):w.heap.size<=W.heap.size:=h.out.size
theorem TS.own{M:Nat->Prop}(h:TS Y B F D w P n' P' zQ g' W)(hrb:Y.rm≠Y.bm)(D9:Y.rm≠Y.km)(hR:RO w Y B D mW)(hrm:∃es ck,At w Y.rm (.map es ck))(k:Out M W W')(hm:∀b,b<W.heap.size->M b->¬ P' b/\w.heap.size<=b)(hr:Y.rm<w.heap.size):TS Y B F D w P n' P' zQ g' W':=by
 have hk':Kp Y B F n' P' W':=h.kp.out k λb hb q=>(hm b (h.lt b hb) q).1 hb;have ho:Out (λb=>b=Y.pm\/b=Y.rm\/w.heap.size<=b) w W':=Out.trans' h.out k λb hb q => .inr (.inr (hm b (aR hb h.size) q).2);exact⟨hR.Oj hrb D9 hrm ho hk'.pm.2,hk',λb hb=>aR (h.lt b hb) k.size,h.new,h.nrm,h.gm.out (λq=>by have:=(hm _ (aR hr h.size) q).2;omega) k,ho⟩
theorem TS.after(h:TS Y B F D w P n' P' zQ g' W)(hrb:Y.rm≠Y.bm)(D9:Y.rm≠Y.km)(hR:RO w Y B D mW)(hrm:∃es ck,At w Y.rm (.map es ck))(hr:Y.rm<w.heap.size)(k:Below W.heap.size W W'):TS Y B F D w P n' P' zQ g' W':=h.own hrb D9 hR hrm (M:=λ_=>False) (Out.of_below k) (λ_ _ q=>q.elim) hr
theorem TS.laid{n2:Nat}{P2:Nat->Prop}(h:TS Y B F D w P n' P' zQ g' W)(hrb:Y.rm≠Y.bm)(D9:Y.rm≠Y.km)(hR:RO w Y B D mW)(hrm:∃es ck,At w Y.rm (.map es ck))(hr:Y.rm<w.heap.size)(hK:Kp Y B F n2 P2 W')(hP:∀b,P2 b->P' b\/W.heap.size<=b)(k:Out (λb=>b=Y.pm) W W'):TS Y B F D w P n2 (λb=>P2 b/\b<W'.heap.size) zQ g' W':=by
 have ho:Out (λb=>b=Y.pm\/b=Y.rm\/w.heap.size<=b) w W':=Out.trans' h.out k λb hb q => .inl q;have hs:=h.size
 exact⟨hR.Oj hrb D9 hrm ho hK.pm.2,hK.cut,λb hb=>hb.2,λb hb=>by
  rcases hP b hb.1 with q|q
  . exact h.new b q
  . exact .inr ak,λq=>by
  rcases hP _ q.1 with q|q
  . exact h.nrm q
  . omega,h.gm.out (λq=>hR.pmr q.symm) k,ho⟩
theorem TS.told{n2 nr2:Nat}{P2:Nat->Prop}{g2:Lit->Option Value}(h:TS Y B F D w P n' P' zQ g' W)(hrb:Y.rm≠Y.bm)(D9:Y.rm≠Y.km)(hR:RO w Y B D mW)(hrm:∃es ck,At w Y.rm (.map es ck))(hr:Y.rm<w.heap.size)(hK:Kp Y B F n2 P2 W')(hP:∀b,P2 b->P' b\/W.heap.size<=b)(hG:GM 3 W' Y.rm nr2 g2)(k:Out (λb=>b=Y.pm\/b=Y.rm) W W'):TS Y B F D w P n2 (λb=>P2 b/\b<W'.heap.size) nr2 g2 W':=by
 have ho:Out (λb=>b=Y.pm\/b=Y.rm\/w.heap.size<=b) w W':=Out.trans' h.out k λb hb q=>by
  rcases q with q|q
  . exact .inl q
  . exact .inr (.inl q)
 have hs:=h.size
 exact⟨hR.Oj hrb D9 hrm ho hK.pm.2,hK.cut,λb hb=>hb.2,λb hb=>by
  rcases hP b hb.1 with q|q
  . exact h.new b q
  . exact .inr ak,λq=>by
  rcases hP _ q.1 with q|q
  . exact h.nrm q
  . omega,hG,ho⟩
end
def ldz:Array Value:=#[.int .i64 0,.int .i64 0,.int .i64 0,.int .i64 0,.int .i64 0,.int .i64 0,.int .i64 0]
theorem Wh(W:World):(Instr.alloc 114 true (.tuple #[])).run Tryz.prog W=.ok (.pointer (some ⟨W.heap.size,0,none⟩)) (W.alloc (.cells ldz 114)):=by kernel_rfl
section
variable {ops:Array Oper} {rest:List Oper} {o:Oper} {a:Act} {w:World} {Q:Exit->Act->World->Prop}
theorem BD(hw:Region.wanted o (yielded ops a.tmps)=true)(ho:o.op=.alloc 114)(h:wpList Tryz.prog ops Q rest (a.put o.dst (.pointer (some ⟨w.heap.size,0,none⟩))) (w.alloc (.cells ldz 114))):wpList Tryz.prog ops Q (o::rest) a w :=
 dY hw (by unfold execOp;simp only[ho,Sem.run_bind,Wh,Result.andThen_ok,Sem.run_pure]) h
theorem zS(hw:Region.wanted o (yielded ops a.tmps)=true)(p y:Operand)(ho:o.op=.store 114 p y){b:Nat}(hp:a.eval p=.pointer (some ⟨b,0,none⟩)){x:Fw.Ld}(hy:a.eval y=.agg (eF x))(hs:At w b (.cells ldz 114))
  (h:wpList Tryz.prog ops Q rest (a.put o.dst undef) (w.setRow b (eF x))):wpList Tryz.prog ops Q (o::rest) a w :=
 jk (q:=0) nU hw p y ho hp hy hs (dw x) (by simp[ldz]) (o8 x) (by rw[Ci (cs:=ldz) (vs:=eF x) rfl];exact h)
end
end Go.Proofs.YtcbcfdihofclkaaGreat.Fix
