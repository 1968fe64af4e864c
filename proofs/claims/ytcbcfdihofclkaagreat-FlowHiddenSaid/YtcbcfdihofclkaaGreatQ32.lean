/- Proved here: what functions of the program do, in plain numbers (part 32); no conditions but those in sight. -/
import Derived.Test.YtcbcfdihofclkaaGreatQK
import Derived.Test.YtcbcfdihofclkaaGreatQ24
import Derived.Test.YtcbcfdihofclkaaGreatQ25
import Derived.Test.YtcbcfdihofclkaaGreatQ31
set_option linter.unusedVariables false
set_option linter.unusedSimpArgs false
set_option linter.unusedSectionVars false
set_option maxRecDepth 100000
namespace Go.Proofs.YtcbcfdihofclkaaGreat.Fix
open Go.ChangeShapes Go.WideShapes Go.ChangeAt Go.RowKit
theorem acE(W:World):(isAgg 36).run Tryz.prog W=.ok true W:=by kernel_rfl
theorem acF(W:World):(sizeOf 36).run Tryz.prog W=.ok 4 W:=by kernel_rfl
theorem LC{ops:Array Oper}{S:World->Prop}{o:Oper}{a:Act}(p:Operand){T i:Nat}{x0 x1 x2 x3:Int}(hw:Region.wanted o (yielded ops a.tmps)=true)(ho:o.op=.load 36 p)(hp:a.eval p=.pointer (some ⟨T,i,none⟩))(h:∀X,S X->X.cell? ⟨T,i,none⟩=some (.int .i64 x0)/\X.cell? ⟨T,i+1,none⟩=some (.int .i64 x1)/\X.cell? ⟨T,i+2,none⟩=some (.int .i64 x2)/\X.cell? ⟨T,i+3,none⟩=some (.int .i64 x3)):aj.Reads Tryz.prog ops S o (.agg #[.int .i64 x0,.int .i64 x1,.int .i64 x2,.int .i64 x3]) a :=
 .inl ⟨hw,λX hX=>nC acE acF p ho hp rfl λj hj=>by
  obtain⟨c0,c1,c2,c3⟩:=h X hX
  match j,hj with
  | 0,_=>exact c0
  | 1,_=>exact c1
  | 2,_=>exact c2
  | 3,_=>exact c3⟩
def prt(sb s:Re.St)(ww wh s0 s1:Int):Array Value :=
 if sb.c 1=3 then #[.int .i64 0,.int .i64 0,.int .i64 ww,.int .i64 wh,.int .i64 0,.int .i64 0]
 else #[.int .i64 (s.c 38),.int .i64 (s.c 35),.int .i64 (Fw.wr (s0-Fw.wr (s.c 38+s.c 36))),.int .i64 (Fw.wr (s1-Fw.wr (s.c 35+s.c 37))),.int .i64 (s.c 34),.int .i64 (s.c 31)]
section
variable {Y:rV} {B:Int->Fw.Bx} {D:Int->Prop} {KM:World->Nat->Prop}
set_option maxHeartbeats 16000000 in
theorem ae8(hK:∀(X X':World) (b:Nat),KM X b->Below X.heap.size X X'->KM X' b)(k:Int)(up:Fw.Ld)(hz:D up.id)(hk:D k)(bk:Nat)(hbk:bk=Y.bl k)(w:World)(hR:RO w Y B D KM)(sk s:Re.St)(hsk:(B k).sty=sk)(hs:(B up.id).sty=s) :
  Calls Tryz.prog 176 #[.pointer (some ⟨Y.lb,0,none⟩),.pointer (some ⟨bk,0,none⟩),.agg (eF up)] w λe w'=>e=.returned (.agg (prt sk s Y.ww Y.wh up.s0 up.s1))/\Below w.heap.size w w':=by
 have HBK:=Lib.hid hbk;have HSK:=Lib.hid hsk;have HS:=Lib.hid hs;clear hbk hsk hs;obtain⟨z,j0,j1,s0,s1,a0,a1⟩:=up;obtain⟨ww,hww⟩:∃x,Y.ww=x:=⟨_,rfl⟩;obtain⟨wh,hwh⟩:∃x,Y.wh=x:=⟨_,rfl⟩;have hR':=hR;have D7:=hR.lay;rw[hww,hwh]at D7 ⊢;clear hww hwh;simp only[eF];go_enter Tryz.func176,Tryz.ntmps176
 go_upto_region 1 with(fail)
 generalize hW:World.alloc _ _=W0;have A0:At W0 w.heap.size (.cells #[.int .i64 z,.int .i64 j0,.int .i64 j1,.int .i64 s0,.int .i64 s1,.int .i64 a0,.int .i64 a1] 114):=hW▸At.alloc (At.new _ _) _;have A1:At W0 (w.heap.size+1) (.cells #[.int .i64 0,.int .i64 0,.int .i64 0,.int .i64 0,.int .i64 0,.int .i64 0] 239):=hW▸At.new' _ eY;have hB0:Below w.heap.size w W0:=hW▸Below.alloc' (Below.alloc' (Below.refl _ _) _) _;clear hW;have hR0:=hR.keep hK hB0;have hbx:=(hR0.box k hk).1;rw[<-HBK.out,HSK.out]at hbx;have c1:W0.cell? ⟨bk,1,none⟩=some (.int .i64 (sk.c 1)):=aF.int hbx 1 ak rfl;have lbk:=aF.lt hbx;have II:=D7.keep hB0;obtain⟨lY,wV,wW,zf,zh,zi,zk⟩:=At.six II;obtain⟨l1,aL,aM,gD,gF,IW,IX⟩:=At.six A1;have fI:=A1.thaw 0;have fJ:=A1.thaw 1;have gZ:=A1.thaw 2;have iq:=A1.thaw 3;have RN:=A1.thaw 4;have RP:=A1.thaw 5;by_cases hfx:sk.c 1=3
 . have E:Hid (prt sk s ww wh s0 s1=#[.int .i64 0,.int .i64 0,.int .i64 ww,.int .i64 wh,.int .i64 0,.int .i64 0]):=Lib.hid (by unfold prt;rw[if_pos hfx])
   clear hR0 hbx II hR hR' D7;go_wp2;generalize hW:World.setCell _ _ _=W1;have A2:At W1 (w.heap.size+1) (.cells #[.int .i64 0,.int .i64 0,.int .i64 ww,.int .i64 wh,.int .i64 0,.int .i64 0] 239):=hW▸At.set (At.set (At.set (At.set (At.set (At.set A1 0 _) 1 _) 2 _) 3 _) 4 _) 5 _;have hB1:Below w.heap.size w W1:=by
    rw[<-hW];exact Below.setCell (Below.setCell (Below.setCell (Below.setCell (Below.setCell (Below.setCell hB0 (Nat.le_succ _) _) (Nat.le_succ _) _) (Nat.le_succ _) _) (Nat.le_succ _) _) (Nat.le_succ _) _) (Nat.le_succ _) _
   clear hW l1 aL aM gD gF IW IX fI fJ gZ iq RN RP;obtain⟨l1,aL,aM,gD,gF,IW,IX⟩:=At.six A2;rw[E.out];refine bodyPost_ret (v:=.agg #[.int .i64 _,.int .i64 _,.int .i64 _,.int .i64 _,.int .i64 _,.int .i64 _]) (by simp[results,Tryz.results176,go_sem, *];first|done|exact⟨rfl,rfl⟩|exact⟨rfl,rfl,rfl,rfl,rfl,rfl⟩|rfl) rfl ⟨rfl,hB1⟩
 . have E:Hid (prt sk s ww wh s0 s1=#[.int .i64 (s.c 38),.int .i64 (s.c 35),.int .i64 (Fw.wr (s0-Fw.wr (s.c 38+s.c 36))),.int .i64 (Fw.wr (s1-Fw.wr (s.c 35+s.c 37))),.int .i64 (s.c 34),.int .i64 (s.c 31)]):=Lib.hid (by unfold prt;rw[if_neg hfx])
   go_upto_region 3 with(fail)
   clear hfx c1 lbk l1 aL aM gD gF IW IX fI fJ gZ iq RN RP hbx D7;obtain⟨b0,hb0⟩:∃b0,Y.bl z=b0:=⟨_,rfl⟩;have hbz:=(hR0.box z hz).1;rw[hb0,HS.out]at hbz;have xW:=Lib.hid hbz.style;have Rs:=hbz.lt;have hlk:=λX (h:Below W0.heap.size W0 X)=>(hR0.keep hK h).look hz;simp only[hb0]at hlk;clear hb0 hR' hbz;obtain⟨l0,aA,aB,bB,lM,p8,p9,Hz⟩:=At.seven A0;have hSd:Below W0.heap.size W0 W0.drew:=Below.drew (Below.refl _ _);refine kQ (S:=λX=>Below W0.heap.size W0 X) 13 ?_ ?_
   . exact hSd
   intro hx;clear hSd;refine aH 0 ?_;refine aH 1 ?_;refine aH 2 ?_;refine aH 3 ?_;refine aH 4 ?_;refine aH 5 ?_;refine aH 6 ?_;refine rD 7 rfl (dZ aU rfl rfl rfl (λX h=>hlk X h)) ?_;refine aH 8 ?_;refine aH 9 ?_;refine rD 10 rfl (iY aU (.tmp 32) rfl rfl (λX h=>λj hj=>(h.cell (p:=⟨b0,0+j,none⟩) Rs).trans (xW.out j hj))) ?_;refine tk1 11 ?_;refine aj.Step.value (eO rfl) ?_;obtain⟨w2,hw2,AS,hb2,gT⟩:∃w2,w2=W0.drew.alloc (.cells (cells Re.zero) 51)/\At w2 W0.drew.heap.size (.cells (cells Re.zero) 51)/\Below W0.drew.heap.size W0.drew w2/\W0.heap.size<=W0.drew.heap.size:=⟨_,rfl,At.new _ _,Below.alloc' (Below.refl _ _) _,hx.size⟩;rw[<-hw2];clear hw2;replace hx:=Below.ay hx (ah _) hb2;generalize W0.drew.heap.size=T at *;refine⟨λ_=>hx,?_⟩
   (try simp only[bF,bG,bH,tks])
   refine tk1 12 ?_;refine aj.Step.skip (mZ (.tmp 7) (.tmp 33) rfl rfl rfl AS) ?_;replace AS:At (w2.setRow T (cells s)) T (.cells (cells s) 51):=At.setRow AS _;have hx2:Below W0.heap.size W0 (w2.setRow T (cells s)):=cO hx gT _;generalize w2.setRow T (cells s)=w1 at *;refine⟨λ_=>hx2,?_⟩
   (try simp only[bF,bG,bH,tks])
   refine jY ?_;have hs1:=hx2.size;replace A0:=A0.keep hx2;replace A1:=A1.keep hx2;have hB1:Below w.heap.size w w1:=Below.ay hB0 (ah _) hx2;have HR1:True:=trivial;clear hx hx2 hb2 hlk xW Rs l0 aA aB bB lM p8 p9 Hz lY wV wW zf zh zi zk II hR0 hR;have lT:=AS.lt;have c31:w1.cell? ⟨T,31,none⟩=some (.int .i64 (s.c 31)):=(AS.cell 31).trans (bE s ak rfl);have c32:w1.cell? ⟨T,32,none⟩=some (.int .i64 (s.c 32)):=(AS.cell 32).trans (bE s ak rfl);have c33:w1.cell? ⟨T,33,none⟩=some (.int .i64 (s.c 33)):=(AS.cell 33).trans (bE s ak rfl);have c34:w1.cell? ⟨T,34,none⟩=some (.int .i64 (s.c 34)):=(AS.cell 34).trans (bE s ak rfl);have c35:w1.cell? ⟨T,35,none⟩=some (.int .i64 (s.c 35)):=(AS.cell 35).trans (bE s ak rfl);have c36:w1.cell? ⟨T,36,none⟩=some (.int .i64 (s.c 36)):=(AS.cell 36).trans (bE s ak rfl);have c37:w1.cell? ⟨T,37,none⟩=some (.int .i64 (s.c 37)):=(AS.cell 37).trans (bE s ak rfl);have c38:w1.cell? ⟨T,38,none⟩=some (.int .i64 (s.c 38)):=(AS.cell 38).trans (bE s ak rfl);have acG:=Lib.hid (λX (h:Below w1.heap.size w1 X)=>(⟨(h.cell (p:=⟨T,31,none⟩) lT).trans c31,(h.cell (p:=⟨T,32,none⟩) lT).trans c32,(h.cell (p:=⟨T,33,none⟩) lT).trans c33,(h.cell (p:=⟨T,34,none⟩) lT).trans c34⟩:X.cell? ⟨T,31,none⟩=some (.int .i64 (s.c 31))/\X.cell? ⟨T,31+1,none⟩=some (.int .i64 (s.c 32))/\X.cell? ⟨T,31+2,none⟩=some (.int .i64 (s.c 33))/\X.cell? ⟨T,31+3,none⟩=some (.int .i64 (s.c 34))));have acH:=Lib.hid (λX (h:Below w1.heap.size w1 X)=>(⟨(h.cell (p:=⟨T,35,none⟩) lT).trans c35,(h.cell (p:=⟨T,36,none⟩) lT).trans c36,(h.cell (p:=⟨T,37,none⟩) lT).trans c37,(h.cell (p:=⟨T,38,none⟩) lT).trans c38⟩:X.cell? ⟨T,35,none⟩=some (.int .i64 (s.c 35))/\X.cell? ⟨T,35+1,none⟩=some (.int .i64 (s.c 36))/\X.cell? ⟨T,35+2,none⟩=some (.int .i64 (s.c 37))/\X.cell? ⟨T,35+3,none⟩=some (.int .i64 (s.c 38))));clear c31 c32 c33 c34 c35 c36 c37 c38 AS
   go_upto_region 4 with(fail)
   refine aj.kg (λa0 a W5=>∃(Tp Tq:Nat) (u34 u35 u36 u37 u38 u39:Value),a={ a0 with tmps:=(((((((a0.tmps.setIfInBounds 34 u34).setIfInBounds 35 u35).setIfInBounds 36 u36).setIfInBounds 37 u37).setIfInBounds 38 u38).setIfInBounds 39 u39).setIfInBounds 8 (.pointer (some ⟨Tp,0,none⟩))).setIfInBounds 9 (.pointer (some ⟨Tq,0,none⟩)) }/\w1.heap.size<=Tp/\w1.heap.size<=Tq/\Tp≠Tq/\At W5 Tp (.cells #[.int .i64 (s.c 34),.int .i64 (s.c 32),.int .i64 (s.c 31),.int .i64 (s.c 33)] 193)/\At W5 Tq (.cells #[.int .i64 (s.c 38),.int .i64 (s.c 36),.int .i64 (s.c 35),.int .i64 (s.c 37)] 193)/\Below w1.heap.size w1 W5) ?_ ?_
   . have hSd:Below w1.heap.size w1 w1.drew:=Below.drew (Below.refl _ _)
     clear hB1 hB0 A0 A1 E;refine kQ (S:=λX=>Below w1.heap.size w1 X) 10 ?_ ?_
     . exact hSd
     intro hx;clear hSd;refine aH 0 ?_;refine rD 1 rfl (LC (.tmp 34) aU rfl rfl (λX h=>acG.out X h)) ?_;refine aH 3 ?_;refine rD 4 rfl (LC (.tmp 37) aU rfl rfl (λX h=>acH.out X h)) ?_;clear lT acG acH;generalize w1.drew=W0 at *;refine aj.yJ (i:=2) (j:=6) (k:=7) fV rfl rfl rfl aU aU aU ?_ ?_ ?_
     . refine aj.Step.call XP (iO _ _ _ _ _) ?_
       rintro e cZ ⟨rfl,hb⟩;replace hx:=Below.ay hx (ah _) hb;clear hb;refine⟨_,rfl,λ_=>hx,?_⟩
       (try simp only[bF,bG,bH,tks])
       refine aj.yJ (i:=5) (j:=6) (k:=7) fV rfl rfl rfl aU aU aU ?_ ?_ ?_
       . refine aj.Step.call XP (iO _ _ _ _ _) ?_
         rintro e bQ ⟨rfl,hb⟩;replace hx:=Below.ay hx (ah _) hb;clear hb;refine⟨_,rfl,λ_=>hx,?_⟩
         (try simp only[bF,bG,bH,tks])
         refine tk2 6 7 ?_ ?_
         . refine aj.Step.value (u:=.pointer (some ⟨bQ.heap.size,0,none⟩)) (w':=bQ.alloc (.cells #[.int .i64 0,.int .i64 0,.int .i64 0,.int .i64 0] 193)) dQ ?_
           obtain⟨eD,bA,Ap,hb⟩:∃w9,w9=bQ.alloc (.cells #[.int .i64 0,.int .i64 0,.int .i64 0,.int .i64 0] 193)/\At w9 bQ.heap.size (.cells #[.int .i64 0,.int .i64 0,.int .i64 0,.int .i64 0] 193)/\Below bQ.heap.size bQ w9:=⟨_,rfl,At.new _ _,Below.alloc' (Below.refl _ _) _⟩;rw[<-bA];clear bA;have gp:=hx.size;obtain⟨Tp,lG⟩:∃q,bQ.heap.size=q:=⟨_,rfl⟩;rw[lG]at Ap gp;rw[lG];have kp:bQ.heap.size<=Tp:=Nat.le_of_eq lG;clear lG;replace hx:=Below.ay hx (ah _) hb;clear hb;refine⟨λ_=>hx,?_⟩;exact Z1b
         . refine aj.Step.value (u:=.pointer (some ⟨bQ.heap.size,0,none⟩)) (w':=bQ.alloc (.cells #[.int .i64 0,.int .i64 0,.int .i64 0,.int .i64 0] 193)) dQ ?_
           obtain⟨eD,bA,Aq,hb⟩:∃w9,w9=bQ.alloc (.cells #[.int .i64 0,.int .i64 0,.int .i64 0,.int .i64 0] 193)/\At w9 bQ.heap.size (.cells #[.int .i64 0,.int .i64 0,.int .i64 0,.int .i64 0] 193)/\Below bQ.heap.size bQ w9:=⟨_,rfl,At.new _ _,Below.alloc' (Below.refl _ _) _⟩;rw[<-bA];clear bA;have gq:=hx.size;obtain⟨Tq,oF⟩:∃q,bQ.heap.size=q:=⟨_,rfl⟩;rw[oF]at Aq gq;rw[oF];have kq:bQ.heap.size<=Tq:=Nat.le_of_eq oF;clear oF;replace hx:=Below.ay hx (ah _) hb;clear hb;refine⟨λ_=>hx,?_⟩;exact Z1c
       . refine aj.Step.value (u:=.pointer (some ⟨cZ.heap.size,0,none⟩)) (w':=cZ.alloc (.cells #[.int .i64 0,.int .i64 0,.int .i64 0,.int .i64 0] 193)) dQ ?_
         obtain⟨bQ,bA,Ap,hb⟩:∃w9,w9=cZ.alloc (.cells #[.int .i64 0,.int .i64 0,.int .i64 0,.int .i64 0] 193)/\At w9 cZ.heap.size (.cells #[.int .i64 0,.int .i64 0,.int .i64 0,.int .i64 0] 193)/\Below cZ.heap.size cZ w9:=⟨_,rfl,At.new _ _,Below.alloc' (Below.refl _ _) _⟩;rw[<-bA];clear bA;have gp:=hx.size;obtain⟨Tp,lG⟩:∃q,cZ.heap.size=q:=⟨_,rfl⟩;rw[lG]at Ap gp;rw[lG];have kp:cZ.heap.size<=Tp:=Nat.le_of_eq lG;clear lG;replace hx:=Below.ay hx (ah _) hb;clear hb;refine⟨λ_=>hx,?_⟩;exact Zi
       . refine aj.Step.value (u:=.pointer (some ⟨cZ.heap.size,0,none⟩)) (w':=cZ.alloc (.cells #[.int .i64 0,.int .i64 0,.int .i64 0,.int .i64 0] 193)) dQ ?_
         obtain⟨bQ,bA,Aq,hb⟩:∃w9,w9=cZ.alloc (.cells #[.int .i64 0,.int .i64 0,.int .i64 0,.int .i64 0] 193)/\At w9 cZ.heap.size (.cells #[.int .i64 0,.int .i64 0,.int .i64 0,.int .i64 0] 193)/\Below cZ.heap.size cZ w9:=⟨_,rfl,At.new _ _,Below.alloc' (Below.refl _ _) _⟩;rw[<-bA];clear bA;have gq:=hx.size;obtain⟨Tq,oF⟩:∃q,cZ.heap.size=q:=⟨_,rfl⟩;rw[oF]at Aq gq;rw[oF];have kq:cZ.heap.size<=Tq:=Nat.le_of_eq oF;clear oF;replace hx:=Below.ay hx (ah _) hb;clear hb;refine⟨λ_=>hx,?_⟩;exact Zj
     . refine aj.Step.value (u:=.pointer (some ⟨W0.heap.size,0,none⟩)) (w':=W0.alloc (.cells #[.int .i64 0,.int .i64 0,.int .i64 0,.int .i64 0] 193)) dQ ?_
       obtain⟨cZ,bA,Ap,hb⟩:∃w9,w9=W0.alloc (.cells #[.int .i64 0,.int .i64 0,.int .i64 0,.int .i64 0] 193)/\At w9 W0.heap.size (.cells #[.int .i64 0,.int .i64 0,.int .i64 0,.int .i64 0] 193)/\Below W0.heap.size W0 w9:=⟨_,rfl,At.new _ _,Below.alloc' (Below.refl _ _) _⟩;rw[<-bA];clear bA;have gp:=hx.size;obtain⟨Tp,lG⟩:∃q,W0.heap.size=q:=⟨_,rfl⟩;rw[lG]at Ap gp;rw[lG];have kp:W0.heap.size<=Tp:=Nat.le_of_eq lG;clear lG;replace hx:=Below.ay hx (ah _) hb;clear hb;refine⟨λ_=>hx,?_⟩
       (try simp only[bF,bG,bH,tks])
       refine tk2 2 7 ?_ ?_
       . refine aj.Step.call XP (iO _ _ _ _ _) ?_
         rintro e bQ ⟨rfl,hb⟩;replace Ap:=Ap.keep hb;replace hx:=Below.ay hx (ah _) hb;clear hb;refine⟨_,rfl,λ_=>hx,?_⟩;exact Zi
       . refine aj.Step.value (u:=.pointer (some ⟨cZ.heap.size,0,none⟩)) (w':=cZ.alloc (.cells #[.int .i64 0,.int .i64 0,.int .i64 0,.int .i64 0] 193)) dQ ?_
         obtain⟨bQ,bA,Aq,hb⟩:∃w9,w9=cZ.alloc (.cells #[.int .i64 0,.int .i64 0,.int .i64 0,.int .i64 0] 193)/\At w9 cZ.heap.size (.cells #[.int .i64 0,.int .i64 0,.int .i64 0,.int .i64 0] 193)/\Below cZ.heap.size cZ w9:=⟨_,rfl,At.new _ _,Below.alloc' (Below.refl _ _) _⟩;rw[<-bA];clear bA;have gq:=hx.size;obtain⟨Tq,oF⟩:∃q,cZ.heap.size=q:=⟨_,rfl⟩;rw[oF]at Aq gq;rw[oF];have kq:cZ.heap.size<=Tq:=Nat.le_of_eq oF;clear oF;have Qp:Tp≠Tq:=by have:=Ap.lt;omega
         replace Ap:=Ap.keep hb;exact Z1y
     . refine aj.Step.value (u:=.pointer (some ⟨W0.heap.size,0,none⟩)) (w':=W0.alloc (.cells #[.int .i64 0,.int .i64 0,.int .i64 0,.int .i64 0] 193)) dQ ?_
       obtain⟨cZ,bA,Aq,hb⟩:∃w9,w9=W0.alloc (.cells #[.int .i64 0,.int .i64 0,.int .i64 0,.int .i64 0] 193)/\At w9 W0.heap.size (.cells #[.int .i64 0,.int .i64 0,.int .i64 0,.int .i64 0] 193)/\Below W0.heap.size W0 w9:=⟨_,rfl,At.new _ _,Below.alloc' (Below.refl _ _) _⟩;rw[<-bA];clear bA;have gq:=hx.size;obtain⟨Tq,oF⟩:∃q,W0.heap.size=q:=⟨_,rfl⟩;rw[oF]at Aq gq;rw[oF];have kq:W0.heap.size<=Tq:=Nat.le_of_eq oF;clear oF;replace hx:=Below.ay hx (ah _) hb;clear hb;refine⟨λ_=>hx,?_⟩
       (try simp only[bF,bG,bH,tks])
       refine tk2 2 6 ?_ ?_
       . refine aj.Step.call XP (iO _ _ _ _ _) ?_
         rintro e bQ ⟨rfl,hb⟩;replace Aq:=Aq.keep hb;replace hx:=Below.ay hx (ah _) hb;clear hb;refine⟨_,rfl,λ_=>hx,?_⟩;exact Zj
       . refine aj.Step.value (u:=.pointer (some ⟨cZ.heap.size,0,none⟩)) (w':=cZ.alloc (.cells #[.int .i64 0,.int .i64 0,.int .i64 0,.int .i64 0] 193)) dQ ?_
         obtain⟨bQ,bA,Ap,hb⟩:∃w9,w9=cZ.alloc (.cells #[.int .i64 0,.int .i64 0,.int .i64 0,.int .i64 0] 193)/\At w9 cZ.heap.size (.cells #[.int .i64 0,.int .i64 0,.int .i64 0,.int .i64 0] 193)/\Below cZ.heap.size cZ w9:=⟨_,rfl,At.new _ _,Below.alloc' (Below.refl _ _) _⟩;rw[<-bA];clear bA;have gp:=hx.size;obtain⟨Tp,lG⟩:∃q,cZ.heap.size=q:=⟨_,rfl⟩;rw[lG]at Ap gp;rw[lG];have kp:cZ.heap.size<=Tp:=Nat.le_of_eq lG;clear lG;have Qp:Tq≠Tp:=by have:=Aq.lt;omega
         replace Aq:=Aq.keep hb;exact Z1y
   . rintro a W5 ⟨Tp,Tq,u34,u35,u36,u37,u38,u39,rfl,gp,gq,Qp,Ap,Aq,ru⟩
     simp only[List.setIfInBounds_toArray,List.set_cons_zero,List.set_cons_succ];have hs5:=ru.size;have ED:Below w.heap.size w W5:=Below.ay hB1 (ah _) ru;replace A0:=A0.keep ru;replace A1:=A1.keep ru;clear ru acG acH lT;obtain⟨r0,hr0⟩:∃x,IntKind.i64.wrap (s0-Fw.wr (s.c 38+s.c 36))=x:=⟨_,rfl⟩;obtain⟨r1,hr1⟩:∃x,IntKind.i64.wrap (s1-Fw.wr (s.c 35+s.c 37))=x:=⟨_,rfl⟩;have E2:Hid (prt sk s ww wh s0 s1=#[.int .i64 (s.c 38),.int .i64 (s.c 35),.int .i64 r0,.int .i64 r1,.int .i64 (s.c 34),.int .i64 (s.c 31)]):=Lib.hid (by rw[E.out,<-qZ (s0-_),<-qZ (s1-_),hr0,hr1]);clear E
     go_upto_region 6 with(fail)
     generalize hW:World.alloc _ _=W6;have AP:At W6 W5.heap.size (.cells #[.int .i64 0,.int .i64 0,.int .i64 0,.int .i64 0,.int .i64 0,.int .i64 0] 239):=hW▸At.new _ _;have hb6:Below W5.heap.size W5 W6:=hW▸Below.alloc' (Below.refl _ _) _;clear hW;have Jg:Tp≠W5.heap.size:=dh Ap.lt;have nqr:Tq≠W5.heap.size:=dh Aq.lt;have Pv:w.heap.size≠W5.heap.size:=dh A0.lt;have n1r:w.heap.size+1≠W5.heap.size:=dh A1.lt;have gTr:w.heap.size<=W5.heap.size:=uH A0.lt;replace Ap:=Ap.keep hb6;replace Aq:=Aq.keep hb6;replace A0:=A0.keep hb6;replace A1:=A1.keep hb6;have LD:=Below.ay ED (ah _) hb6;clear hb6 hs5 ED;generalize W5.heap.size=Tr at *;go_wp2;refine wp_loop_rounds 3 ?_;rw[rounds_succ];obtain⟨lq,cq0,cq1,cq2,cq3⟩:=At.four Aq;have lr:=AP.lt;have zr:=AP.thaw 0;have cr:=AP.cell 0;simp only[List.getElem?_toArray,List.getElem?_cons_zero,List.getElem?_cons_succ]at cr
     go_upto_region 10 with(fail)
     generalize hW:World.setCell _ _ _=V01;replace AP:At V01 Tr (.cells #[.int .i64 (s.c 38),.int .i64 0,.int .i64 0,.int .i64 0,.int .i64 0,.int .i64 0] 239):=hW▸At.set AP 0 _;replace Aq:=hW▸At.off Aq nqr 0 _;replace Ap:=hW▸At.off Ap Jg 0 _;replace A0:=hW▸At.off A0 Pv 0 _;replace A1:=hW▸At.off A1 n1r 0 _;replace LD:Below w.heap.size w V01:=by rw[<-hW];exact Below.setCell LD gTr _
     clear hW lq cq0 cq1 cq2 cq3 lr zr cr;obtain⟨lq,cq0,cq1,cq2,cq3⟩:=At.four Aq;obtain⟨l0,aA,aB,bB,lM,p8,p9,Hz⟩:=At.seven A0;have lr:=AP.lt;have zr:=AP.thaw 2;have cr:=AP.cell 2;simp only[List.getElem?_toArray,List.getElem?_cons_zero,List.getElem?_cons_succ]at cr;refine wT 12 1 ?_
     (repeat (first|refine nN ?_ | refine nO ?_ (hc:=by intro w2 hS;first|with_reducible exact nI hS (dV _ _ _))|refine nP ?_))
     refine aj.dJ ?_;intro w2 hS;replace AP:=AP.keep hS;replace Ap:=Ap.keep hS;replace Aq:=Aq.keep hS;replace A0:=A0.keep hS;replace A1:=A1.keep hS;replace LD:=Below.ay LD (ah _) hS;clear hS lq cq0 cq1 cq2 cq3 l0 aA aB bB lM p8 p9 Hz lr zr cr;have lr:=AP.lt;have zr:=AP.thaw 2;have cr:=AP.cell 2;simp only[List.getElem?_toArray,List.getElem?_cons_zero,List.getElem?_cons_succ]at cr;refine xV ?_;intro K hK;go_simp;refine hK _ _ (aj.bP ?_);clear hK K
     (try rw[hr0])
     generalize hW:World.setCell _ _ _=V02;replace AP:At V02 Tr (.cells #[.int .i64 (s.c 38),.int .i64 0,.int .i64 r0,.int .i64 0,.int .i64 0,.int .i64 0] 239):=hW▸At.set AP 2 _;replace Aq:=hW▸At.off Aq nqr 2 _;replace Ap:=hW▸At.off Ap Jg 2 _;replace A0:=hW▸At.off A0 Pv 2 _;replace A1:=hW▸At.off A1 n1r 2 _;replace LD:Below w.heap.size w V02:=by rw[<-hW];exact Below.setCell LD gTr _
     clear hW lr zr cr;obtain⟨lp,Mt,Mv,cp2,Xm⟩:=At.four Ap;have lr:=AP.lt;have zr:=AP.thaw 4;have cr:=AP.cell 4;simp only[List.getElem?_toArray,List.getElem?_cons_zero,List.getElem?_cons_succ]at cr
     go_upto_region 12 with(fail)
     generalize hW:World.setCell _ _ _=V03;replace AP:At V03 Tr (.cells #[.int .i64 (s.c 38),.int .i64 0,.int .i64 r0,.int .i64 0,.int .i64 (s.c 34),.int .i64 0] 239):=hW▸At.set AP 4 _;replace Aq:=hW▸At.off Aq nqr 4 _;replace Ap:=hW▸At.off Ap Jg 4 _;replace A0:=hW▸At.off A0 Pv 4 _;replace A1:=hW▸At.off A1 n1r 4 _;replace LD:Below w.heap.size w V03:=by rw[<-hW];exact Below.setCell LD gTr _
     clear hW lp Mt Mv cp2 Xm lr zr cr;go_wp2;rw[rounds_succ];obtain⟨lq,cq0,cq1,cq2,cq3⟩:=At.four Aq;have lr:=AP.lt;have zr:=AP.thaw 1;have cr:=AP.cell 1;simp only[List.getElem?_toArray,List.getElem?_cons_zero,List.getElem?_cons_succ]at cr
     go_upto_region 10 with(fail)
     generalize hW:World.setCell _ _ _=V11;replace AP:At V11 Tr (.cells #[.int .i64 (s.c 38),.int .i64 (s.c 35),.int .i64 r0,.int .i64 0,.int .i64 (s.c 34),.int .i64 0] 239):=hW▸At.set AP 1 _;replace Aq:=hW▸At.off Aq nqr 1 _;replace Ap:=hW▸At.off Ap Jg 1 _;replace A0:=hW▸At.off A0 Pv 1 _;replace A1:=hW▸At.off A1 n1r 1 _;replace LD:Below w.heap.size w V11:=by rw[<-hW];exact Below.setCell LD gTr _
     clear hW lq cq0 cq1 cq2 cq3 lr zr cr;obtain⟨lq,cq0,cq1,cq2,cq3⟩:=At.four Aq;obtain⟨l0,aA,aB,bB,lM,p8,p9,Hz⟩:=At.seven A0;have lr:=AP.lt;have zr:=AP.thaw 3;have cr:=AP.cell 3;simp only[List.getElem?_toArray,List.getElem?_cons_zero,List.getElem?_cons_succ]at cr;refine wT 12 1 ?_
     (repeat (first|refine nN ?_ | refine nO ?_ (hc:=by intro w2 hS;first|with_reducible exact nI hS (dV _ _ _))|refine nP ?_))
     refine aj.dJ ?_;intro w2 hS;replace AP:=AP.keep hS;replace Ap:=Ap.keep hS;replace Aq:=Aq.keep hS;replace A0:=A0.keep hS;replace A1:=A1.keep hS;replace LD:=Below.ay LD (ah _) hS;clear hS lq cq0 cq1 cq2 cq3 l0 aA aB bB lM p8 p9 Hz lr zr cr;have lr:=AP.lt;have zr:=AP.thaw 3;have cr:=AP.cell 3;simp only[List.getElem?_toArray,List.getElem?_cons_zero,List.getElem?_cons_succ]at cr;refine xV ?_;intro K hK;go_simp;refine hK _ _ (aj.bP ?_);clear hK K
     (try rw[hr1])
     generalize hW:World.setCell _ _ _=V12;replace AP:At V12 Tr (.cells #[.int .i64 (s.c 38),.int .i64 (s.c 35),.int .i64 r0,.int .i64 r1,.int .i64 (s.c 34),.int .i64 0] 239):=hW▸At.set AP 3 _;replace Aq:=hW▸At.off Aq nqr 3 _;replace Ap:=hW▸At.off Ap Jg 3 _;replace A0:=hW▸At.off A0 Pv 3 _;replace A1:=hW▸At.off A1 n1r 3 _;replace LD:Below w.heap.size w V12:=by rw[<-hW];exact Below.setCell LD gTr _
     clear hW lr zr cr;obtain⟨lp,Mt,Mv,cp2,Xm⟩:=At.four Ap;have lr:=AP.lt;have zr:=AP.thaw 5;have cr:=AP.cell 5;simp only[List.getElem?_toArray,List.getElem?_cons_zero,List.getElem?_cons_succ]at cr
     go_upto_region 12 with(fail)
     generalize hW:World.setCell _ _ _=V13;replace AP:At V13 Tr (.cells #[.int .i64 (s.c 38),.int .i64 (s.c 35),.int .i64 r0,.int .i64 r1,.int .i64 (s.c 34),.int .i64 (s.c 31)] 239):=hW▸At.set AP 5 _;replace Aq:=hW▸At.off Aq nqr 5 _;replace Ap:=hW▸At.off Ap Jg 5 _;replace A0:=hW▸At.off A0 Pv 5 _;replace A1:=hW▸At.off A1 n1r 5 _;replace LD:Below w.heap.size w V13:=by rw[<-hW];exact Below.setCell LD gTr _
     clear hW lp Mt Mv cp2 Xm lr zr cr;go_wp2;rw[rounds_succ];obtain⟨lr,VY,VZ,V4,V6,V7,V8⟩:=At.six AP;obtain⟨l1,aL,aM,gD,gF,IW,IX⟩:=At.six A1;have fI:=A1.thaw 0;have fJ:=A1.thaw 1;have gZ:=A1.thaw 2;have iq:=A1.thaw 3;have RN:=A1.thaw 4;have RP:=A1.thaw 5;clear hr0 hr1;go_wp2;generalize hW:World.setCell _ _ _=W9;have A2:At W9 (w.heap.size+1) (.cells #[.int .i64 (s.c 38),.int .i64 (s.c 35),.int .i64 r0,.int .i64 r1,.int .i64 (s.c 34),.int .i64 (s.c 31)] 239):=hW▸At.set (At.set (At.set (At.set (At.set (At.set A1 0 _) 1 _) 2 _) 3 _) 4 _) 5 _;have hB9:Below w.heap.size w W9:=by
      rw[<-hW];exact Below.setCell (Below.setCell (Below.setCell (Below.setCell (Below.setCell (Below.setCell LD (Nat.le_succ _) _) (Nat.le_succ _) _) (Nat.le_succ _) _) (Nat.le_succ _) _) (Nat.le_succ _) _) (Nat.le_succ _) _
     clear hW l1 aL aM gD gF IW IX fI fJ gZ iq RN RP;obtain⟨l1,aL,aM,gD,gF,IW,IX⟩:=At.six A2;rw[E2.out];refine bodyPost_ret (v:=.agg #[.int .i64 _,.int .i64 _,.int .i64 _,.int .i64 _,.int .i64 _,.int .i64 _]) (by simp[results,Tryz.results176,go_sem, *];first|done|exact⟨rfl,rfl⟩|exact⟨rfl,rfl,rfl,rfl,rfl,rfl⟩|rfl) rfl ⟨rfl,hB9⟩
end
end Go.Proofs.YtcbcfdihofclkaaGreat.Fix
