/- What functions of the program do, in plain numbers, part 19; no conditions. -/
import Derived.Test.YtmidaiklolmkcaaGreatM18
set_option linter.unusedVariables false
set_option linter.unusedSimpArgs false
set_option linter.unusedSectionVars false
set_option maxRecDepth 100000
set_option maxHeartbeats 16000000
namespace Go.Proofs.YtmidaiklolmkcaaGreat.Fix
open Go.ChangeShapes Go.WideShapes Go.ChangeAt Go.RowKit
theorem adk(W:World):(isAgg 39).run Tryz.prog W=.ok true W:=by kernel_rfl
theorem adl(W:World):(sizeOf 39).run Tryz.prog W=.ok 4 W:=by kernel_rfl
theorem Ma{ops:Array Oper}{S:World->Prop}{o:Oper}{a:Act}(p:Operand){T i:Nat}{x0 x1 x2 x3:Int}(hw:Region.wanted o (yielded ops a.tmps)=true)(ho:o.op=.load 39 p)(hp:a.eval p=.pointer (some ⟨T,i,none⟩))(h:∀X,S X->X.cell? ⟨T,i,none⟩=some (.int .i64 x0)/\X.cell? ⟨T,i+1,none⟩=some (.int .i64 x1)/\X.cell? ⟨T,i+2,none⟩=some (.int .i64 x2)/\X.cell? ⟨T,i+3,none⟩=some (.int .i64 x3)):ak.Reads Tryz.prog ops S o (.agg #[.int .i64 x0,.int .i64 x1,.int .i64 x2,.int .i64 x3]) a :=
 .inl ⟨hw,λX hX=>nM adk adl p ho hp rfl λj hj=>by
  obtain⟨c0,c1,c2,c3⟩:=h X hX
  match j,hj with
  | 0,_=>exact c0
  | 1,_=>exact c1
  | 2,_=>exact c2
  | 3,_=>exact c3⟩
def prt(sb s:Re.St)(ww wh s0 s1:Int):Array Value :=
 if sb.c 1=3 then #[.int .i64 0,.int .i64 0,.int .i64 ww,.int .i64 wh,.int .i64 0,.int .i64 0]
 else #[.int .i64 (s.c 38),.int .i64 (s.c 35),.int .i64 (Fw.wr (s0-Fw.wr (s.c 38+s.c 36))),.int .i64 (Fw.wr (s1-Fw.wr (s.c 35+s.c 37))),.int .i64 (s.c 34),.int .i64 (s.c 31)]
section
variable {Y:sj} {B:Int->Fw.Bx} {D:Int->Prop} {KM:World->Nat->Prop}
theorem afP(hK:∀(X X':World) (b:Nat),KM X b->Below X.heap.size X X'->KM X' b)(k:Int)(up:Fw.Ld)(hz:D up.id)(hk:D k)(bk:Nat)(hbk:bk=Y.bl k)(w:World)(hR:RO w Y B D KM)(sk s:Re.St)(hsk:(B k).sty=sk)(hs:(B up.id).sty=s) :
  Calls Tryz.prog 71 #[.pointer (some ⟨Y.lb,0,none⟩),.pointer (some ⟨bk,0,none⟩),.agg (eH up)] w λe w'=>e=.returned (.agg (prt sk s Y.ww Y.wh up.s0 up.s1))/\Below w.heap.size w w':=by
 have HBK:=ah hbk;have HSK:=ah hsk;have HS:=ah hs;clear hbk hsk hs;obtain⟨z,j0,j1,s0,s1,a0,a1⟩:=up;obtain⟨ww,hww⟩:=aA Y.ww;obtain⟨wh,hwh⟩:=aA Y.wh;have hR':=hR;have En:=hR.lay;rw[hww,hwh]at En ⊢;clear hww hwh;simp only[eH];go_enter Tryz.func71,Tryz.ntmps71
 go_upto_region 1 with(fail)
 generalize hW:World.alloc _ _=W0;have A0:At W0 w.heap.size (.cells #[.int .i64 z,.int .i64 j0,.int .i64 j1,.int .i64 s0,.int .i64 s1,.int .i64 a0,.int .i64 a1] 77):=hW▸At.alloc (At.new _ _) _;have A1:At W0 (w.heap.size+1) (.cells #[.int .i64 0,.int .i64 0,.int .i64 0,.int .i64 0,.int .i64 0,.int .i64 0] 140):=hW▸At.new' _ eZ;have hB0:Below w.heap.size w W0:=hW▸Below.alloc' (Below.alloc' aF _) _;clear hW;have hR0:=hR.keep hK hB0;have hbx:=(hR0.box k hk).1;rw[<-HBK.out,HSK.out]at hbx;have c1:W0.cell? ⟨bk,1,none⟩=some (.int .i64 (sk.c 1)):=aL.int hbx 1 aj rfl;have lbk:=aL.lt hbx;have I8:=En.keep hB0;obtain⟨lY,xw,xA,zu,zw,zy,zA⟩:=At.six I8;obtain⟨l1,aP,aQ,gG,gH,Jf,Jg⟩:=At.six A1;have fO:=A1.thaw 0;have fP:=A1.thaw 1;have gZ:=A1.thaw 2;have iq:=A1.thaw 3;have Sr:=A1.thaw 4;have Sv:=A1.thaw 5;by_cases hfx:sk.c 1=3
 . have E:Hid (prt sk s ww wh s0 s1=#[.int .i64 0,.int .i64 0,.int .i64 ww,.int .i64 wh,.int .i64 0,.int .i64 0]):=ah (by unfold prt;rw[if_pos hfx])
   clear hR0 hbx I8 hR hR' En;go_wp2;generalize hW:World.setCell _ _ _=W1;have A2:At W1 (w.heap.size+1) (.cells #[.int .i64 0,.int .i64 0,.int .i64 ww,.int .i64 wh,.int .i64 0,.int .i64 0] 140):=hW▸At.set (At.set (At.set (At.set (At.set (At.set A1 0 _) 1 _) 2 _) 3 _) 4 _) 5 _;have hB1:Below w.heap.size w W1:=by
    rw[<-hW];exact Below.setCell (Below.setCell (Below.setCell (Below.setCell (Below.setCell (Below.setCell hB0 xZ _) xZ _) xZ _) xZ _) xZ _) xZ _
   clear hW l1 aP aQ gG gH Jf Jg fO fP gZ iq Sr Sv;obtain⟨l1,aP,aQ,gG,gH,Jf,Jg⟩:=At.six A2;rw[E.out];refine bodyPost_ret (v:=.agg #[.int .i64 _,.int .i64 _,.int .i64 _,.int .i64 _,.int .i64 _,.int .i64 _]) (by simp[results,Tryz.results71,go_sem, *];first|done|exact⟨rfl,rfl⟩|exact⟨rfl,rfl,rfl,rfl,rfl,rfl⟩|rfl) rfl ⟨rfl,hB1⟩
 . have E:Hid (prt sk s ww wh s0 s1=#[.int .i64 (s.c 38),.int .i64 (s.c 35),.int .i64 (Fw.wr (s0-Fw.wr (s.c 38+s.c 36))),.int .i64 (Fw.wr (s1-Fw.wr (s.c 35+s.c 37))),.int .i64 (s.c 34),.int .i64 (s.c 31)]):=ah (by unfold prt;rw[if_neg hfx])
   go_upto_region 3 with(fail)
   clear hfx c1 lbk l1 aP aQ gG gH Jf Jg fO fP gZ iq Sr Sv hbx En;obtain⟨b0,hb0⟩:=aA (Y.bl z);have hbz:=(hR0.box z hz).1;rw[hb0,HS.out]at hbz;have yc:=ah hbz.style;have R4:=hbz.lt;have hlk:=λX (h:Below W0.heap.size W0 X)=>(hR0.keep hK h).look hz;simp only[hb0]at hlk;clear hb0 hR' hbz;obtain⟨l0,aB,aC,bH,mF,ql,qm,Ip⟩:=At.seven A0;have hSd:Below W0.heap.size W0 W0.drew:=Below.drew aF;refine lF (S:=λX=>Below W0.heap.size W0 X) 13 ?_ ?_
   . exact hSd
   intro hx;clear hSd;refine aM 0 ?_;refine aM 1 ?_;refine aM 2 ?_;refine aM 3 ?_;refine aM 4 ?_;refine aM 5 ?_;refine aM 6 ?_;refine rO 7 rfl (eB aX rfl rfl rfl (λX h=>hlk X h)) ?_;refine aM 8 ?_;refine aM 9 ?_;refine rO 10 rfl (jd aX (.tmp 32) rfl rfl (λX h=>λj hj=>(h.cell (p:=⟨b0,0+j,none⟩) R4).trans (yc.out j hj))) ?_;refine tk1 11 ?_;refine ak.Step.value (eU rfl) ?_;obtain⟨w2,hw2,AS,hb2,gT⟩:∃w2,w2=W0.drew.alloc (.cells (cells Re.zero) 46)/\At w2 W0.drew.heap.size (.cells (cells Re.zero) 46)/\Below W0.drew.heap.size W0.drew w2/\W0.heap.size<=W0.drew.heap.size:=⟨_,rfl,At.new _ _,Below.alloc' aF _,hx.size⟩;rw[<-hw2];clear hw2;replace hx:=Below.ay hx aD hb2;generalize W0.drew.heap.size=T at *;refine⟨λ_=>hx,?_⟩
   (try simp only[bL,bM,bN,tks])
   refine tk1 12 ?_;refine ak.Step.skip (nH (.tmp 7) (.tmp 33) rfl rfl rfl AS) ?_;replace AS:At (w2.setRow T (cells s)) T (.cells (cells s) 46):=At.setRow AS _;have hx2:Below W0.heap.size W0 (w2.setRow T (cells s)):=bW hx gT _;generalize w2.setRow T (cells s)=w1 at *;refine⟨λ_=>hx2,?_⟩
   (try simp only[bL,bM,bN,tks])
   refine ko ?_;have hs1:=hx2.size;replace A0:=A0.keep hx2;replace A1:=A1.keep hx2;have hB1:Below w.heap.size w w1:=Below.ay hB0 aD hx2;have HR1:True:=trivial;clear hx hx2 hb2 hlk yc R4 l0 aB aC bH mF ql qm Ip lY xw xA zu zw zy zA I8 hR0 hR;have lT:=AS.lt;have c31:w1.cell? ⟨T,31,none⟩=some (.int .i64 (s.c 31)):=(AS.cell 31).trans (bG s aj rfl);have c32:w1.cell? ⟨T,32,none⟩=some (.int .i64 (s.c 32)):=(AS.cell 32).trans (bG s aj rfl);have c33:w1.cell? ⟨T,33,none⟩=some (.int .i64 (s.c 33)):=(AS.cell 33).trans (bG s aj rfl);have c34:w1.cell? ⟨T,34,none⟩=some (.int .i64 (s.c 34)):=(AS.cell 34).trans (bG s aj rfl);have c35:w1.cell? ⟨T,35,none⟩=some (.int .i64 (s.c 35)):=(AS.cell 35).trans (bG s aj rfl);have c36:w1.cell? ⟨T,36,none⟩=some (.int .i64 (s.c 36)):=(AS.cell 36).trans (bG s aj rfl);have c37:w1.cell? ⟨T,37,none⟩=some (.int .i64 (s.c 37)):=(AS.cell 37).trans (bG s aj rfl);have c38:w1.cell? ⟨T,38,none⟩=some (.int .i64 (s.c 38)):=(AS.cell 38).trans (bG s aj rfl);have adn:=ah (λX (h:Below w1.heap.size w1 X)=>(⟨(h.cell (p:=⟨T,31,none⟩) lT).trans c31,(h.cell (p:=⟨T,32,none⟩) lT).trans c32,(h.cell (p:=⟨T,33,none⟩) lT).trans c33,(h.cell (p:=⟨T,34,none⟩) lT).trans c34⟩:X.cell? ⟨T,31,none⟩=some (.int .i64 (s.c 31))/\X.cell? ⟨T,31+1,none⟩=some (.int .i64 (s.c 32))/\X.cell? ⟨T,31+2,none⟩=some (.int .i64 (s.c 33))/\X.cell? ⟨T,31+3,none⟩=some (.int .i64 (s.c 34))));have ado:=ah (λX (h:Below w1.heap.size w1 X)=>(⟨(h.cell (p:=⟨T,35,none⟩) lT).trans c35,(h.cell (p:=⟨T,36,none⟩) lT).trans c36,(h.cell (p:=⟨T,37,none⟩) lT).trans c37,(h.cell (p:=⟨T,38,none⟩) lT).trans c38⟩:X.cell? ⟨T,35,none⟩=some (.int .i64 (s.c 35))/\X.cell? ⟨T,35+1,none⟩=some (.int .i64 (s.c 36))/\X.cell? ⟨T,35+2,none⟩=some (.int .i64 (s.c 37))/\X.cell? ⟨T,35+3,none⟩=some (.int .i64 (s.c 38))));clear c31 c32 c33 c34 c35 c36 c37 c38 AS
   go_upto_region 4 with(fail)
   refine ak.kE (λa0 a W5=>∃(Tp Tq:Nat) (u34 u35 u36 u37 u38 u39:Value),a={ a0 with tmps:=(((((((a0.tmps.setIfInBounds 34 u34).setIfInBounds 35 u35).setIfInBounds 36 u36).setIfInBounds 37 u37).setIfInBounds 38 u38).setIfInBounds 39 u39).setIfInBounds 8 (.pointer (some ⟨Tp,0,none⟩))).setIfInBounds 9 (.pointer (some ⟨Tq,0,none⟩)) }/\w1.heap.size<=Tp/\w1.heap.size<=Tq/\Tp≠Tq/\At W5 Tp (.cells #[.int .i64 (s.c 34),.int .i64 (s.c 32),.int .i64 (s.c 31),.int .i64 (s.c 33)] 115)/\At W5 Tq (.cells #[.int .i64 (s.c 38),.int .i64 (s.c 36),.int .i64 (s.c 35),.int .i64 (s.c 37)] 115)/\Below w1.heap.size w1 W5) ?_ ?_
   . have hSd:Below w1.heap.size w1 w1.drew:=Below.drew aF
     clear hB1 hB0 A0 A1 E;refine lF (S:=λX=>Below w1.heap.size w1 X) 10 ?_ ?_
     . exact hSd
     intro hx;clear hSd;refine aM 0 ?_;refine rO 1 rfl (Ma (.tmp 34) aX rfl rfl (λX h=>adn.out X h)) ?_;refine aM 3 ?_;refine rO 4 rfl (Ma (.tmp 37) aX rfl rfl (λX h=>ado.out X h)) ?_;clear lT adn ado;generalize w1.drew=W0 at *;refine ak.yV (i:=2) (j:=6) (k:=7) jD rfl rfl rfl aX aX aX ?_ ?_ ?_
     . refine ak.Step.call YE (iO _ _ _ _ _) ?_
       rintro e cZ ⟨rfl,hb⟩;replace hx:=Below.ay hx aD hb;clear hb;refine⟨_,rfl,λ_=>hx,?_⟩
       (try simp only[bL,bM,bN,tks])
       refine ak.yV (i:=5) (j:=6) (k:=7) jD rfl rfl rfl aX aX aX ?_ ?_ ?_
       . refine ak.Step.call YE (iO _ _ _ _ _) ?_
         rintro e bS ⟨rfl,hb⟩;replace hx:=Below.ay hx aD hb;clear hb;refine⟨_,rfl,λ_=>hx,?_⟩
         (try simp only[bL,bM,bN,tks])
         refine tk2 6 7 ?_ ?_
         . refine ak.Step.value (u:=.pointer (some ⟨bS.heap.size,0,none⟩)) (w':=bS.alloc (.cells #[.int .i64 0,.int .i64 0,.int .i64 0,.int .i64 0] 115)) dV ?_
           obtain⟨eG,bF,Ap,hb⟩:∃w9,w9=bS.alloc (.cells #[.int .i64 0,.int .i64 0,.int .i64 0,.int .i64 0] 115)/\At w9 bS.heap.size (.cells #[.int .i64 0,.int .i64 0,.int .i64 0,.int .i64 0] 115)/\Below bS.heap.size bS w9:=⟨_,rfl,At.new _ _,Below.alloc' aF _⟩;rw[<-bF];clear bF;have gp:=hx.size;obtain⟨Tp,mo⟩:=aA bS.heap.size;rw[mo]at Ap gp;rw[mo];have kp:bS.heap.size<=Tp:=Nat.le_of_eq mo;clear mo;replace hx:=Below.ay hx aD hb;clear hb;refine⟨λ_=>hx,?_⟩;exact Z1a
         . refine ak.Step.value (u:=.pointer (some ⟨bS.heap.size,0,none⟩)) (w':=bS.alloc (.cells #[.int .i64 0,.int .i64 0,.int .i64 0,.int .i64 0] 115)) dV ?_
           obtain⟨eG,bF,Aq,hb⟩:∃w9,w9=bS.alloc (.cells #[.int .i64 0,.int .i64 0,.int .i64 0,.int .i64 0] 115)/\At w9 bS.heap.size (.cells #[.int .i64 0,.int .i64 0,.int .i64 0,.int .i64 0] 115)/\Below bS.heap.size bS w9:=⟨_,rfl,At.new _ _,Below.alloc' aF _⟩;rw[<-bF];clear bF;have gq:=hx.size;obtain⟨Tq,oL⟩:=aA bS.heap.size;rw[oL]at Aq gq;rw[oL];have kq:bS.heap.size<=Tq:=Nat.le_of_eq oL;clear oL;replace hx:=Below.ay hx aD hb;clear hb;refine⟨λ_=>hx,?_⟩;exact Z1b
       . refine ak.Step.value (u:=.pointer (some ⟨cZ.heap.size,0,none⟩)) (w':=cZ.alloc (.cells #[.int .i64 0,.int .i64 0,.int .i64 0,.int .i64 0] 115)) dV ?_
         obtain⟨bS,bF,Ap,hb⟩:∃w9,w9=cZ.alloc (.cells #[.int .i64 0,.int .i64 0,.int .i64 0,.int .i64 0] 115)/\At w9 cZ.heap.size (.cells #[.int .i64 0,.int .i64 0,.int .i64 0,.int .i64 0] 115)/\Below cZ.heap.size cZ w9:=⟨_,rfl,At.new _ _,Below.alloc' aF _⟩;rw[<-bF];clear bF;have gp:=hx.size;obtain⟨Tp,mo⟩:=aA cZ.heap.size;rw[mo]at Ap gp;rw[mo];have kp:cZ.heap.size<=Tp:=Nat.le_of_eq mo;clear mo;replace hx:=Below.ay hx aD hb;clear hb;refine⟨λ_=>hx,?_⟩;exact Zh
       . refine ak.Step.value (u:=.pointer (some ⟨cZ.heap.size,0,none⟩)) (w':=cZ.alloc (.cells #[.int .i64 0,.int .i64 0,.int .i64 0,.int .i64 0] 115)) dV ?_
         obtain⟨bS,bF,Aq,hb⟩:∃w9,w9=cZ.alloc (.cells #[.int .i64 0,.int .i64 0,.int .i64 0,.int .i64 0] 115)/\At w9 cZ.heap.size (.cells #[.int .i64 0,.int .i64 0,.int .i64 0,.int .i64 0] 115)/\Below cZ.heap.size cZ w9:=⟨_,rfl,At.new _ _,Below.alloc' aF _⟩;rw[<-bF];clear bF;have gq:=hx.size;obtain⟨Tq,oL⟩:=aA cZ.heap.size;rw[oL]at Aq gq;rw[oL];have kq:cZ.heap.size<=Tq:=Nat.le_of_eq oL;clear oL;replace hx:=Below.ay hx aD hb;clear hb;refine⟨λ_=>hx,?_⟩;exact Zi
     . refine ak.Step.value (u:=.pointer (some ⟨W0.heap.size,0,none⟩)) (w':=W0.alloc (.cells #[.int .i64 0,.int .i64 0,.int .i64 0,.int .i64 0] 115)) dV ?_
       obtain⟨cZ,bF,Ap,hb⟩:∃w9,w9=W0.alloc (.cells #[.int .i64 0,.int .i64 0,.int .i64 0,.int .i64 0] 115)/\At w9 W0.heap.size (.cells #[.int .i64 0,.int .i64 0,.int .i64 0,.int .i64 0] 115)/\Below W0.heap.size W0 w9:=⟨_,rfl,At.new _ _,Below.alloc' aF _⟩;rw[<-bF];clear bF;have gp:=hx.size;obtain⟨Tp,mo⟩:=aA W0.heap.size;rw[mo]at Ap gp;rw[mo];have kp:W0.heap.size<=Tp:=Nat.le_of_eq mo;clear mo;replace hx:=Below.ay hx aD hb;clear hb;refine⟨λ_=>hx,?_⟩
       (try simp only[bL,bM,bN,tks])
       refine tk2 2 7 ?_ ?_
       . refine ak.Step.call YE (iO _ _ _ _ _) ?_
         rintro e bS ⟨rfl,hb⟩;replace Ap:=Ap.keep hb;replace hx:=Below.ay hx aD hb;clear hb;refine⟨_,rfl,λ_=>hx,?_⟩;exact Zh
       . refine ak.Step.value (u:=.pointer (some ⟨cZ.heap.size,0,none⟩)) (w':=cZ.alloc (.cells #[.int .i64 0,.int .i64 0,.int .i64 0,.int .i64 0] 115)) dV ?_
         obtain⟨bS,bF,Aq,hb⟩:∃w9,w9=cZ.alloc (.cells #[.int .i64 0,.int .i64 0,.int .i64 0,.int .i64 0] 115)/\At w9 cZ.heap.size (.cells #[.int .i64 0,.int .i64 0,.int .i64 0,.int .i64 0] 115)/\Below cZ.heap.size cZ w9:=⟨_,rfl,At.new _ _,Below.alloc' aF _⟩;rw[<-bF];clear bF;have gq:=hx.size;obtain⟨Tq,oL⟩:=aA cZ.heap.size;rw[oL]at Aq gq;rw[oL];have kq:cZ.heap.size<=Tq:=Nat.le_of_eq oL;clear oL;have QN:Tp≠Tq:=by have:=Ap.lt;omega
         replace Ap:=Ap.keep hb;exact Z1y
     . refine ak.Step.value (u:=.pointer (some ⟨W0.heap.size,0,none⟩)) (w':=W0.alloc (.cells #[.int .i64 0,.int .i64 0,.int .i64 0,.int .i64 0] 115)) dV ?_
       obtain⟨cZ,bF,Aq,hb⟩:∃w9,w9=W0.alloc (.cells #[.int .i64 0,.int .i64 0,.int .i64 0,.int .i64 0] 115)/\At w9 W0.heap.size (.cells #[.int .i64 0,.int .i64 0,.int .i64 0,.int .i64 0] 115)/\Below W0.heap.size W0 w9:=⟨_,rfl,At.new _ _,Below.alloc' aF _⟩;rw[<-bF];clear bF;have gq:=hx.size;obtain⟨Tq,oL⟩:=aA W0.heap.size;rw[oL]at Aq gq;rw[oL];have kq:W0.heap.size<=Tq:=Nat.le_of_eq oL;clear oL;replace hx:=Below.ay hx aD hb;clear hb;refine⟨λ_=>hx,?_⟩
       (try simp only[bL,bM,bN,tks])
       refine tk2 2 6 ?_ ?_
       . refine ak.Step.call YE (iO _ _ _ _ _) ?_
         rintro e bS ⟨rfl,hb⟩;replace Aq:=Aq.keep hb;replace hx:=Below.ay hx aD hb;clear hb;refine⟨_,rfl,λ_=>hx,?_⟩;exact Zi
       . refine ak.Step.value (u:=.pointer (some ⟨cZ.heap.size,0,none⟩)) (w':=cZ.alloc (.cells #[.int .i64 0,.int .i64 0,.int .i64 0,.int .i64 0] 115)) dV ?_
         obtain⟨bS,bF,Ap,hb⟩:∃w9,w9=cZ.alloc (.cells #[.int .i64 0,.int .i64 0,.int .i64 0,.int .i64 0] 115)/\At w9 cZ.heap.size (.cells #[.int .i64 0,.int .i64 0,.int .i64 0,.int .i64 0] 115)/\Below cZ.heap.size cZ w9:=⟨_,rfl,At.new _ _,Below.alloc' aF _⟩;rw[<-bF];clear bF;have gp:=hx.size;obtain⟨Tp,mo⟩:=aA cZ.heap.size;rw[mo]at Ap gp;rw[mo];have kp:cZ.heap.size<=Tp:=Nat.le_of_eq mo;clear mo;have QN:Tq≠Tp:=by have:=Aq.lt;omega
         replace Aq:=Aq.keep hb;exact Z1y
   . rintro a W5 ⟨Tp,Tq,u34,u35,u36,u37,u38,u39,rfl,gp,gq,QN,Ap,Aq,p9⟩
     simp only[List.setIfInBounds_toArray,List.set_cons_zero,List.set_cons_succ];have hs5:=p9.size;have EU:Below w.heap.size w W5:=Below.ay hB1 aD p9;replace A0:=A0.keep p9;replace A1:=A1.keep p9;clear p9 adn ado lT;obtain⟨r0,hr0⟩:=aA (IntKind.i64.wrap (s0-Fw.wr (s.c 38+s.c 36)));obtain⟨r1,hr1⟩:=aA (IntKind.i64.wrap (s1-Fw.wr (s.c 35+s.c 37)));have E2:Hid (prt sk s ww wh s0 s1=#[.int .i64 (s.c 38),.int .i64 (s.c 35),.int .i64 r0,.int .i64 r1,.int .i64 (s.c 34),.int .i64 (s.c 31)]):=ah (by rw[E.out,<-rH (s0-_),<-rH (s1-_),hr0,hr1]);clear E
     go_upto_region 6 with(fail)
     generalize hW:World.alloc _ _=W6;have AP:At W6 W5.heap.size (.cells #[.int .i64 0,.int .i64 0,.int .i64 0,.int .i64 0,.int .i64 0,.int .i64 0] 140):=hW▸At.new _ _;have hb6:Below W5.heap.size W5 W6:=hW▸Below.alloc' aF _;clear hW;have Jy:Tp≠W5.heap.size:=dB Ap.lt;have nqr:Tq≠W5.heap.size:=dB Aq.lt;have n0r:w.heap.size≠W5.heap.size:=dB A0.lt;have n1r:w.heap.size+1≠W5.heap.size:=dB A1.lt;have gTr:w.heap.size<=W5.heap.size:=uO A0.lt;replace Ap:=Ap.keep hb6;replace Aq:=Aq.keep hb6;replace A0:=A0.keep hb6;replace A1:=A1.keep hb6;have Mc:=Below.ay EU aD hb6;clear hb6 hs5 EU;generalize W5.heap.size=Tr at *;go_wp2;refine wp_loop_rounds 3 ?_;rw[rounds_succ];obtain⟨lq,cq0,cq1,cq2,cq3⟩:=At.four Aq;have lr:=AP.lt;have zr:=AP.thaw 0;have cr:=AP.cell 0;simp only[List.getElem?_toArray,List.getElem?_cons_zero,List.getElem?_cons_succ]at cr
     go_upto_region 10 with(fail)
     generalize hW:World.setCell _ _ _=V01;replace AP:At V01 Tr (.cells #[.int .i64 (s.c 38),.int .i64 0,.int .i64 0,.int .i64 0,.int .i64 0,.int .i64 0] 140):=hW▸At.set AP 0 _;replace Aq:=hW▸At.off Aq nqr 0 _;replace Ap:=hW▸At.off Ap Jy 0 _;replace A0:=hW▸At.off A0 n0r 0 _;replace A1:=hW▸At.off A1 n1r 0 _;replace Mc:Below w.heap.size w V01:=by rw[<-hW];exact Below.setCell Mc gTr _
     clear hW lq cq0 cq1 cq2 cq3 lr zr cr;obtain⟨lq,cq0,cq1,cq2,cq3⟩:=At.four Aq;obtain⟨l0,aB,aC,bH,mF,ql,qm,Ip⟩:=At.seven A0;have lr:=AP.lt;have zr:=AP.thaw 2;have cr:=AP.cell 2;simp only[List.getElem?_toArray,List.getElem?_cons_zero,List.getElem?_cons_succ]at cr;refine xq 12 1 ?_
     (repeat (first|refine nW ?_ | refine nX ?_ (hc:=by intro w2 hS;first|with_reducible exact nR hS (dX _ _ _))|refine nY ?_))
     refine ak.dN ?_;intro w2 hS;replace AP:=AP.keep hS;replace Ap:=Ap.keep hS;replace Aq:=Aq.keep hS;replace A0:=A0.keep hS;replace A1:=A1.keep hS;replace Mc:=Below.ay Mc aD hS;clear hS lq cq0 cq1 cq2 cq3 l0 aB aC bH mF ql qm Ip lr zr cr;have lr:=AP.lt;have zr:=AP.thaw 2;have cr:=AP.cell 2;simp only[List.getElem?_toArray,List.getElem?_cons_zero,List.getElem?_cons_succ]at cr;refine x9 ?_;intro K hK;go_simp;refine hK _ _ (ak.bV ?_);clear hK K
     (try rw[hr0])
     generalize hW:World.setCell _ _ _=V02;replace AP:At V02 Tr (.cells #[.int .i64 (s.c 38),.int .i64 0,.int .i64 r0,.int .i64 0,.int .i64 0,.int .i64 0] 140):=hW▸At.set AP 2 _;replace Aq:=hW▸At.off Aq nqr 2 _;replace Ap:=hW▸At.off Ap Jy 2 _;replace A0:=hW▸At.off A0 n0r 2 _;replace A1:=hW▸At.off A1 n1r 2 _;replace Mc:Below w.heap.size w V02:=by rw[<-hW];exact Below.setCell Mc gTr _
     clear hW lr zr cr;obtain⟨lp,MV,MW,cp2,X9⟩:=At.four Ap;have lr:=AP.lt;have zr:=AP.thaw 4;have cr:=AP.cell 4;simp only[List.getElem?_toArray,List.getElem?_cons_zero,List.getElem?_cons_succ]at cr
     go_upto_region 12 with(fail)
     generalize hW:World.setCell _ _ _=V03;replace AP:At V03 Tr (.cells #[.int .i64 (s.c 38),.int .i64 0,.int .i64 r0,.int .i64 0,.int .i64 (s.c 34),.int .i64 0] 140):=hW▸At.set AP 4 _;replace Aq:=hW▸At.off Aq nqr 4 _;replace Ap:=hW▸At.off Ap Jy 4 _;replace A0:=hW▸At.off A0 n0r 4 _;replace A1:=hW▸At.off A1 n1r 4 _;replace Mc:Below w.heap.size w V03:=by rw[<-hW];exact Below.setCell Mc gTr _
     clear hW lp MV MW cp2 X9 lr zr cr;go_wp2;rw[rounds_succ];obtain⟨lq,cq0,cq1,cq2,cq3⟩:=At.four Aq;have lr:=AP.lt;have zr:=AP.thaw 1;have cr:=AP.cell 1;simp only[List.getElem?_toArray,List.getElem?_cons_zero,List.getElem?_cons_succ]at cr
     go_upto_region 10 with(fail)
     generalize hW:World.setCell _ _ _=V11;replace AP:At V11 Tr (.cells #[.int .i64 (s.c 38),.int .i64 (s.c 35),.int .i64 r0,.int .i64 0,.int .i64 (s.c 34),.int .i64 0] 140):=hW▸At.set AP 1 _;replace Aq:=hW▸At.off Aq nqr 1 _;replace Ap:=hW▸At.off Ap Jy 1 _;replace A0:=hW▸At.off A0 n0r 1 _;replace A1:=hW▸At.off A1 n1r 1 _;replace Mc:Below w.heap.size w V11:=by rw[<-hW];exact Below.setCell Mc gTr _
     clear hW lq cq0 cq1 cq2 cq3 lr zr cr;obtain⟨lq,cq0,cq1,cq2,cq3⟩:=At.four Aq;obtain⟨l0,aB,aC,bH,mF,ql,qm,Ip⟩:=At.seven A0;have lr:=AP.lt;have zr:=AP.thaw 3;have cr:=AP.cell 3;simp only[List.getElem?_toArray,List.getElem?_cons_zero,List.getElem?_cons_succ]at cr;refine xq 12 1 ?_
     (repeat (first|refine nW ?_ | refine nX ?_ (hc:=by intro w2 hS;first|with_reducible exact nR hS (dX _ _ _))|refine nY ?_))
     refine ak.dN ?_;intro w2 hS;replace AP:=AP.keep hS;replace Ap:=Ap.keep hS;replace Aq:=Aq.keep hS;replace A0:=A0.keep hS;replace A1:=A1.keep hS;replace Mc:=Below.ay Mc aD hS;clear hS lq cq0 cq1 cq2 cq3 l0 aB aC bH mF ql qm Ip lr zr cr;have lr:=AP.lt;have zr:=AP.thaw 3;have cr:=AP.cell 3;simp only[List.getElem?_toArray,List.getElem?_cons_zero,List.getElem?_cons_succ]at cr;refine x9 ?_;intro K hK;go_simp;refine hK _ _ (ak.bV ?_);clear hK K
     (try rw[hr1])
     generalize hW:World.setCell _ _ _=V12;replace AP:At V12 Tr (.cells #[.int .i64 (s.c 38),.int .i64 (s.c 35),.int .i64 r0,.int .i64 r1,.int .i64 (s.c 34),.int .i64 0] 140):=hW▸At.set AP 3 _;replace Aq:=hW▸At.off Aq nqr 3 _;replace Ap:=hW▸At.off Ap Jy 3 _;replace A0:=hW▸At.off A0 n0r 3 _;replace A1:=hW▸At.off A1 n1r 3 _;replace Mc:Below w.heap.size w V12:=by rw[<-hW];exact Below.setCell Mc gTr _
     clear hW lr zr cr;obtain⟨lp,MV,MW,cp2,X9⟩:=At.four Ap;have lr:=AP.lt;have zr:=AP.thaw 5;have cr:=AP.cell 5;simp only[List.getElem?_toArray,List.getElem?_cons_zero,List.getElem?_cons_succ]at cr
     go_upto_region 12 with(fail)
     generalize hW:World.setCell _ _ _=V13;replace AP:At V13 Tr (.cells #[.int .i64 (s.c 38),.int .i64 (s.c 35),.int .i64 r0,.int .i64 r1,.int .i64 (s.c 34),.int .i64 (s.c 31)] 140):=hW▸At.set AP 5 _;replace Aq:=hW▸At.off Aq nqr 5 _;replace Ap:=hW▸At.off Ap Jy 5 _;replace A0:=hW▸At.off A0 n0r 5 _;replace A1:=hW▸At.off A1 n1r 5 _;replace Mc:Below w.heap.size w V13:=by rw[<-hW];exact Below.setCell Mc gTr _
     clear hW lp MV MW cp2 X9 lr zr cr;go_wp2;rw[rounds_succ];obtain⟨lr,WI,WJ,WK,WL,WM,WO⟩:=At.six AP;obtain⟨l1,aP,aQ,gG,gH,Jf,Jg⟩:=At.six A1;have fO:=A1.thaw 0;have fP:=A1.thaw 1;have gZ:=A1.thaw 2;have iq:=A1.thaw 3;have Sr:=A1.thaw 4;have Sv:=A1.thaw 5;clear hr0 hr1;go_wp2;generalize hW:World.setCell _ _ _=W9;have A2:At W9 (w.heap.size+1) (.cells #[.int .i64 (s.c 38),.int .i64 (s.c 35),.int .i64 r0,.int .i64 r1,.int .i64 (s.c 34),.int .i64 (s.c 31)] 140):=hW▸At.set (At.set (At.set (At.set (At.set (At.set A1 0 _) 1 _) 2 _) 3 _) 4 _) 5 _;have hB9:Below w.heap.size w W9:=by
      rw[<-hW];exact Below.setCell (Below.setCell (Below.setCell (Below.setCell (Below.setCell (Below.setCell Mc xZ _) xZ _) xZ _) xZ _) xZ _) xZ _
     clear hW l1 aP aQ gG gH Jf Jg fO fP gZ iq Sr Sv;obtain⟨l1,aP,aQ,gG,gH,Jf,Jg⟩:=At.six A2;rw[E2.out];refine bodyPost_ret (v:=.agg #[.int .i64 _,.int .i64 _,.int .i64 _,.int .i64 _,.int .i64 _,.int .i64 _]) (by simp[results,Tryz.results71,go_sem, *];first|done|exact⟨rfl,rfl⟩|exact⟨rfl,rfl,rfl,rfl,rfl,rfl⟩|rfl) rfl ⟨rfl,hB9⟩
end
def OI(sk:Re.St)(r0:Int):Int:=if Em sk 0 r0 r0 = -1/\Fw.zJ sk 0 r0=false then Fw.JR sk r0 else Em sk 0 r0 r0
section
variable {Y:sj} {B:Int->Fw.Bx} {F:Int->Nat} {D:Int->Prop} {KM:World->Nat->Prop} {f:Nat} {w0:World} {P0:Nat->Prop}
theorem aaT(hL:vJ Y B F D KM f)(hK:∀(X X':World) (b:Nat),KM X b->Below X.heap.size X X'->KM X' b)(qR:∀(X X':World) (b:Nat),KM X b->Out (λq=>q≠b) X X'->KM X' b)(hR0:RO w0 Y B D KM)(hkm:Y.km<w0.heap.size)
  (k:Int) (up:Fw.Ld) (hz:D up.id) (hk:D k) (hf:F k=f) (w:World) (n:Nat) (P:Nat->Prop) (hS:rA Y B F w0 P0 n P w) (hn:n+Fw.cst B f k<maxLen) (sk s:Re.St) (hsk:(B k).sty=sk) (hs:(B up.id).sty=s) (q0 q1 r0 r1 d0 d1:Int) (hpt:prt sk s Y.ww Y.wh up.s0 up.s1=#[.int .i64 q0,.int .i64 q1,.int .i64 r0,.int .i64 r1,.int .i64 d0,.int .i64 d1]) (ly:Fw.Ld) (qI:Fw.lay B f k r0 r1 (OI sk r0) (Em sk 1 r1 r0)=ly) :
  Calls Tryz.prog 48 #[.pointer (some ⟨Y.lb,0,none⟩),.int .i64 k,.agg (eH up)] w λe w'=>e=.returned (.agg (eH { ly with a0:=Fw.wr (q0+GN sk 0 r0 r0 d0 ly.s0),a1:=Fw.wr (q1+GN sk 1 r1 r0 d1 ly.s1) })) /\
   ∃n' P',n'<=n+Fw.cst B f k/\rA Y B F w0 P0 n' P' w'/\(∀b,b<w.heap.size->P' b->P b)/\Out (λb=>b=Y.pm) w w':=by
 obtain⟨es0,RG,pU⟩:=(hS.ro qR hR0 hkm).EO;have ajg:=pU.lt;clear pU;have HSK:=ah hsk;have HSW:=ah hS;have sV:=ah hR0;have HN:=ah hn;have HF:=ah hf;have HLY:=ah qI;have wL:=hS.ro qR hR0 hkm;obtain⟨bk,hbk⟩:=aA (Y.bl k);have Sw:=λX (h:Below w.heap.size w X)=>afP hK k up hz hk bk hbk.symm X (wL.keep hK h) sk s hsk hs;simp only[hpt]at Sw;have hlk:=λX (h:Below w.heap.size w X)=>(wL.keep hK h).look hk;simp only[hbk]at hlk;have hbx:=(wL.box k hk).1;rw[hbk,hsk]at hbx;generalize Y.vf k=vf at hbx;generalize Y.va k=va at hbx;generalize (B k).ib=ib at hbx;have qE:=ah hbx;have En:=wL.lay
 have HNB:Hid (¬ (bk=Y.pm)):=ah (λe=>by
  obtain⟨es1,ck1,hp1⟩:=wL.EO;rw[e]at hbx
  exact absurd (hbx.symm.trans hp1) eZ)
 obtain⟨z,j0,j1,s0,s1,a0,a1⟩:=up;simp only[eH]at Sw ⊢;clear hS hsk hs hR0 hn hf qI hpt hbk hbx wL hz;go_enter Tryz.func48,Tryz.ntmps48
 go_upto_region 1 with(fail)
 generalize hW:World.alloc _ _=W0;have A0:At W0 w.heap.size (.cells #[.int .i64 z,.int .i64 j0,.int .i64 j1,.int .i64 s0,.int .i64 s1,.int .i64 a0,.int .i64 a1] 77):=hW▸At.alloc (At.new _ _) _;have A1:At W0 (w.heap.size+1) (.cells #[.int .i64 0,.int .i64 0,.int .i64 0,.int .i64 0,.int .i64 0,.int .i64 0,.int .i64 0] 77):=hW▸At.new' _ eZ;have hB0:Below w.heap.size w W0:=hW▸Below.alloc' (Below.alloc' aF _) _;clear hW;have I8:=En.keep hB0;have ahT:=hlk W0 hB0;obtain⟨lY,xw,xA,zu,zw,zy,zA⟩:=At.six I8;clear I8 En hlk
 go_upto_region 2 with(fail)
 clear ahT lY xw xA zu zw zy zA;replace Sw:=Sw W0 hB0;obtain⟨l0,aB,aC,bH,mF,ql,qm,Ip⟩:=At.seven A0
 go_upto_region 3 with(go_at_call 71;(with_reducible refine Sw.mono ?_);rintro e' w4 ⟨rfl,hb4⟩)
 generalize hW:World.alloc _ _=w1;have AP:At w1 w4.heap.size (.cells #[.int .i64 q0,.int .i64 q1,.int .i64 r0,.int .i64 r1,.int .i64 d0,.int .i64 d1] 140):=hW▸At.new _ _;have hb5:Below W0.heap.size W0 w1:=hW▸(hb4.trans (Below.mono (Below.alloc' aF _) hb4.size));have gR:=hb4.size;clear hW hb4 Sw;generalize w4.heap.size=Tr at *;have n0r:w.heap.size≠Tr:=by have:=A0.lt;omega
 have n1r:w.heap.size+1≠Tr:=by have:=A1.lt;omega
 have gTr:w.heap.size<=Tr:=by have:=A0.lt;omega
 replace A1:=A1.keep hb5;have hB1:Below w.heap.size w w1:=Below.ay hB0 aD hb5;clear hB0 hb5 l0 aB aC bH mF ql qm Ip A0;have Bu:=ah (qE.out.keep hB1);obtain⟨lr,WI,WJ,WK,WL,WM,WO⟩:=At.six AP;obtain⟨e0,he0⟩:=aA (Em sk 0 r0 r0);obtain⟨e1,he1⟩:=aA (Em sk 1 r1 r0);have aaU:=λX (h:Below w1.heap.size w1 X)=>adi bk sk vf va ib r0 r1 X (Bu.out.keep h);have YI:=λX (h:Below w1.heap.size w1 X)=>adj bk sk vf va ib r0 r1 X (Bu.out.keep h);simp only[he0]at aaU;simp only[he1]at YI;have HE0:=ah he0;have HE1:=ah he1;clear he0 he1;refine ak.kE (λa0 a W5=>∃(Tp:Nat) (u22 u23 u24 u25 u26 u27 u28 u29 u30:Value),a={ a0 with tmps:=(((((((((a0.tmps.setIfInBounds 22 u22).setIfInBounds 23 u23).setIfInBounds 24 u24).setIfInBounds 25 u25).setIfInBounds 26 u26).setIfInBounds 27 u27).setIfInBounds 28 u28).setIfInBounds 29 u29).setIfInBounds 30 u30).setIfInBounds 9 (.pointer (some ⟨Tp,0,none⟩)) }/\w1.heap.size<=Tp/\At W5 Tp (.cells #[.int .i64 e0,.int .i64 e1] 71)/\Below w1.heap.size w1 W5) ?_ ?_
 . have hSd:Below w1.heap.size w1 w1.drew:=Below.drew aF
   refine lF (S:=λX=>Below w1.heap.size w1 X) 11 ?_ ?_
   . exact hSd
   intro hx;clear hSd;refine aM 0 ?_;refine aM 1 ?_;refine aM 2 ?_;refine aM 4 ?_;refine aM 5 ?_;refine aM 6 ?_;clear lr WI WJ WK WL WM WO;generalize w1.drew=W0 at *;refine tk2 3 9 ?_ ?_
   . refine ak.Step.call dV (aaU _ hx) ?_
     rintro e cZ ⟨rfl,hb⟩;replace hx:=Below.ay hx aD hb;clear hb;refine⟨_,rfl,λ_=>hx,?_⟩
     (try simp only[bL,bM,bN,tks])
     refine tk2 7 9 ?_ ?_
     . refine ak.Step.call dV (YI _ hx) ?_
       rintro e bS ⟨rfl,hb⟩;replace hx:=Below.ay hx aD hb;clear hb;refine⟨_,rfl,λ_=>hx,?_⟩
       (try simp only[bL,bM,bN,tks])
       refine aM 8 ?_;refine tk1 9 ?_;refine ak.Step.value (u:=.pointer (some ⟨bS.heap.size,0,none⟩)) (w':=bS.alloc (.cells #[.int .i64 0,.int .i64 0] 71)) dV ?_;obtain⟨eG,bF,Ap,hb⟩:∃w9,w9=bS.alloc (.cells #[.int .i64 0,.int .i64 0] 71)/\At w9 bS.heap.size (.cells #[.int .i64 0,.int .i64 0] 71)/\Below bS.heap.size bS w9:=⟨_,rfl,At.new _ _,Below.alloc' aF _⟩;rw[<-bF];clear bF;have gp:=hx.size;obtain⟨Tp,mo⟩:=aA bS.heap.size;rw[mo]at Ap gp;rw[mo];clear mo;replace hx:=Below.ay hx aD hb;clear hb;refine⟨λ_=>hx,?_⟩
       (try simp only[bL,bM,bN,tks])
       exact Z10
     . refine ak.Step.value (u:=.pointer (some ⟨cZ.heap.size,0,none⟩)) (w':=cZ.alloc (.cells #[.int .i64 0,.int .i64 0] 71)) dV ?_
       obtain⟨bS,bF,Ap,hb⟩:∃w9,w9=cZ.alloc (.cells #[.int .i64 0,.int .i64 0] 71)/\At w9 cZ.heap.size (.cells #[.int .i64 0,.int .i64 0] 71)/\Below cZ.heap.size cZ w9:=⟨_,rfl,At.new _ _,Below.alloc' aF _⟩;rw[<-bF];clear bF;have gp:=hx.size;obtain⟨Tp,mo⟩:=aA cZ.heap.size;rw[mo]at Ap gp;rw[mo];clear mo;replace hx:=Below.ay hx aD hb;clear hb;refine⟨λ_=>hx,?_⟩;exact Z2d
   . refine ak.Step.value (u:=.pointer (some ⟨W0.heap.size,0,none⟩)) (w':=W0.alloc (.cells #[.int .i64 0,.int .i64 0] 71)) dV ?_
     obtain⟨cZ,bF,Ap,hb⟩:∃w9,w9=W0.alloc (.cells #[.int .i64 0,.int .i64 0] 71)/\At w9 W0.heap.size (.cells #[.int .i64 0,.int .i64 0] 71)/\Below W0.heap.size W0 w9:=⟨_,rfl,At.new _ _,Below.alloc' aF _⟩;rw[<-bF];clear bF;have gp:=hx.size;obtain⟨Tp,mo⟩:=aA W0.heap.size;rw[mo]at Ap gp;rw[mo];clear mo;replace hx:=Below.ay hx aD hb;clear hb;refine⟨λ_=>hx,?_⟩
     (try simp only[bL,bM,bN,tks])
     refine tk1 3 ?_;refine ak.Step.call dV (aaU _ hx) ?_;rintro e bS ⟨rfl,hb⟩;replace Ap:=Ap.keep hb;replace hx:=Below.ay hx aD hb;clear hb;refine⟨_,rfl,λ_=>hx,?_⟩;exact Z2d
 . rintro a W5 ⟨Tp,u22,u23,u24,u25,u26,u27,u28,u29,u30,rfl,gp,Ap,p9⟩
   simp only[List.setIfInBounds_toArray,List.set_cons_zero,List.set_cons_succ];replace Bu:=ah (Bu.out.keep p9);have nrp:Tr≠Tp:=by have:=AP.lt;omega
   have n1p:w.heap.size+1≠Tp:=by have:=A1.lt;omega
   have gTp:w.heap.size<=Tp:=aJ hB1.size gp;replace AP:=AP.keep p9;replace A1:=A1.keep p9;have EU:Below w.heap.size w W5:=Below.ay hB1 aD p9;clear p9 hB1 aaU YI lr WI WJ WK WL WM WO
   go_upto_region 4 with(fail)
   obtain⟨cc,hcc⟩:∃b:Bool,decide (e0 = -1/\Fw.zJ sk 0 r0=false)=b:=⟨_,rfl⟩;have HCC:=ah hcc;clear hcc;refine ak.kE (λa0 a W6=>∃(bb:Bool) (u31 u32 u33 u34 u35 u36 u37 u38 u39 u40 u41 u42 u43 u44:Value),a={ a0 with tmps:=((((((((((((((a0.tmps.setIfInBounds 31 u31).setIfInBounds 32 u32).setIfInBounds 33 u33).setIfInBounds 34 u34).setIfInBounds 35 u35).setIfInBounds 36 u36).setIfInBounds 37 u37).setIfInBounds 38 u38).setIfInBounds 39 u39).setIfInBounds 40 u40).setIfInBounds 41 u41).setIfInBounds 42 u42).setIfInBounds 43 u43).setIfInBounds 44 u44).setIfInBounds 45 (.bool bb) }/\Hid (bb=cc)/\Below W5.heap.size W5 W6) ?_ ?_
   . have hSd:Below W5.heap.size W5 W5.drew:=Below.drew aF
     obtain⟨lp,MV,MW⟩:=At.two Ap;obtain⟨lr,WI,WJ,WK,WL,WM,WO⟩:=At.six AP;have lbk:=aL.lt Bu.out;by_cases hne:e0 = -1
     . subst hne
       cases hfx:Fx.jg (sk.c 3) r0 with
       | true =>
         have Tk:=ah hfx;have HBB:Hid (false=cc):=ah (by rw[<-HCC.out];have e:Fw.zJ sk 0 r0=true:=hfx;rw[e];decide);exact Z1c
       | false =>
         have Tk:=ah hfx;have HBB:Hid (true=cc):=ah (by rw[<-HCC.out];have e:Fw.zJ sk 0 r0=false:=hfx;rw[e];decide);exact Z1c
     . have HBB:Hid (false=cc):=ah (by rw[<-HCC.out];simp[hne])
       have hneb:(e0 == -1)=false:=by simp[hne]
       refine lF (S:=λX=>Below W5.heap.size W5 X) 15 ?_ ?_
       . exact hSd
       intro hx;clear hSd;refine aM 0 ?_;refine aM 1 ?_;refine aM 2 ?_;refine aM 3 ?_;refine aM 4 ?_;refine aM 5 ?_;refine aM 6 ?_;refine aM 7 ?_;refine aM 8 ?_;refine aM 9 ?_;refine aM 10 ?_;refine aM 11 ?_;refine aM 12 ?_;refine aM 13 ?_;refine aM 14 ?_;refine ko ?_;exact⟨rfl,_,_,_,_,_,_,_,_,_,_,_,_,_,_,_,(by simp only[List.setIfInBounds_toArray,List.set_cons_zero,List.set_cons_succ];rfl),HBB,hx⟩
   . rintro a W6 ⟨bb,u31,u32,u33,u34,u35,u36,u37,u38,u39,u40,u41,u42,u43,u44,rfl,HBB,Nw⟩
     simp only[List.setIfInBounds_toArray,List.set_cons_zero,List.set_cons_succ];have hB8:Below w.heap.size w W6:=Below.ay EU aD Nw;replace Bu:=ah (Bu.out.keep Nw);replace Ap:=Ap.keep Nw;replace AP:=AP.keep Nw;replace A1:=A1.keep Nw;clear Nw EU;have hbb:=HBB.out;subst hbb;obtain⟨t0,ht0⟩:=aA (OI sk r0);have HT0:=ah ht0;have hT:(bb=true->Fw.JR sk r0=t0)/\(bb=false->e0=t0):=by
      rw[<-ht0,<-HCC.out];unfold OI;rw[HE0.out];refine⟨λh=>by rw[if_pos (by simpa using h)],λh=>by rw[if_neg (by simpa using h)]⟩
     clear ht0;have HT:=ah hT;clear hT
     go_upto_if 45 with(fail)
     go_cut []from 45 to 51 (λw2=>At w2 Tp (.cells #[.int .i64 t0,.int .i64 e1] 71)/\At w2 Tr (.cells #[.int .i64 q0,.int .i64 q1,.int .i64 r0,.int .i64 r1,.int .i64 d0,.int .i64 d1] 140)/\At w2 (w.heap.size+1) (.cells #[.int .i64 0,.int .i64 0,.int .i64 0,.int .i64 0,.int .i64 0,.int .i64 0,.int .i64 0] 77)/\Below w.heap.size w w2)
     case first =>
      cases bb with
      | true =>
        have E:=ah (HT.out.1 rfl);clear HT HBB HCC;obtain⟨lr,WI,WJ,WK,WL,WM,WO⟩:=At.six AP
        go_wp2_with (go_at_call 74;(with_reducible refine(KT bk sk vf va ib r0 r1 _ Bu.out).mono ?_);rintro e' w7 ⟨rfl,hb⟩;replace AP:=AP.keep hb;replace A1:=A1.keep hb;replace Ap:=Ap.keep hb;obtain⟨lp,MV,MW⟩:=At.two Ap;have zp0:=Ap.thaw 0)
        go_meet
        case rel =>
         refine⟨by rw[<-E.out];exact At.set Ap 0 _,At.off AP nrp _ _,At.off A1 n1p _ _,Below.setCell (Below.ay hB8 aD hb) gTp _⟩
      | false =>
        have E:=ah (HT.out.2 rfl);clear HT HBB HCC;go_wp2
        go_meet
        case rel=>exact⟨by rw[<-E.out];exact Ap,AP,A1,hB8⟩
     case rest =>
      obtain⟨Ap,AP,A1,hB⟩:=hcut;have hSc:=HSW.out.after hB;have A2:=qE.out.keep hB;have hsc:=hB.size;obtain⟨yi,y0,y1,ys0,ys1,ya0,ya1⟩:=ly;have kr:=nJ hL qR sV.out hkm hSc k r0 r1 t0 e1 hk HF.out HN.out;rw[show Fw.lay B f k r0 r1 t0 e1=⟨yi,y0,y1,ys0,ys1,ya0,ya1⟩by rw[<-HT0.out,<-HE1.out];exact HLY.out]at kr;simp only[eH]at kr;obtain⟨lp,MV,MW⟩:=At.two Ap;obtain⟨lr,WI,WJ,WK,WL,WM,WO⟩:=At.six AP;have ajh:=aL.lt qE.out;have l1:=A1.lt
      go_upto_region 7 with(go_at_call 25;(with_reducible refine kr.mono ?_);rintro e' w9 ⟨rfl,n',P',hn',MQ,hP9,JC⟩)
      replace AP:=AP.out (M:=λb=>b=Y.pm) aj JC;replace A1:=A1.out (M:=λb=>b=Y.pm) aj JC;replace A2:aL w9 bk sk vf va ib:=A2.out (M:=λb=>b=Y.pm) HNB.out JC;generalize hW:World.alloc _ _=V9;have AX:At V9 w9.heap.size (.cells #[.int .i64 yi,.int .i64 y0,.int .i64 y1,.int .i64 ys0,.int .i64 ys1,.int .i64 ya0,.int .i64 ya1] 77):=hW▸At.new _ _;have jy:Below w9.heap.size w9 V9:=hW▸Below.alloc' aF _;clear hW lp MV MW lr WI WJ WK WL WM WO kr Ap;have nrx:Tr≠w9.heap.size:=dB AP.lt;have n1x:w.heap.size+1≠w9.heap.size:=dB A1.lt;have nbx:bk≠w9.heap.size:=dB (aL.lt A2);replace AP:=AP.keep jy;replace A1:=A1.keep jy;replace A2:=aL.keep A2 jy;have gTx:w9.heap.size<=w9.heap.size:=aG _;obtain⟨Tx,hTx⟩:=aA w9.heap.size;rw[hTx]at AX nrx n1x nbx;have gTx:w9.heap.size<=Tx:=Nat.le_of_eq hTx;rw[hTx];clear hTx;obtain⟨b0,hb0⟩:=aA (GN sk 0 r0 r0 d0 ys0);obtain⟨b1,hb1⟩:=aA (GN sk 1 r1 r0 d1 ys1);obtain⟨x0,hx0⟩:=aA (IntKind.i64.wrap (q0+GN sk 0 r0 r0 d0 ys0));obtain⟨x1,hx1⟩:=aA (IntKind.i64.wrap (q1+GN sk 1 r1 r0 d1 ys1));have gY:Hid (Fw.wr (q0+GN sk 0 r0 r0 d0 ys0)=x0/\Fw.wr (q1+GN sk 1 r1 r0 d1 ys1)=x1):=ah ⟨by rw[<-rH,hx0],by rw[<-rH,hx1]⟩;clear hb0 hb1;go_wp2;refine wp_loop_rounds 3 ?_;rw[rounds_succ]
      go_upto_region 10 with(fail)
      obtain⟨lr,WI,WJ,WK,WL,WM,WO⟩:=At.six AP;obtain⟨lx,cx0,Bp,WQ,cx3,cx4,cx5,cx6⟩:=At.seven AX;have zx:=AX.thaw 5;refine xq 16 1 ?_
      (repeat (first|refine nW ?_ | refine nX ?_ (hc:=by intro w2 hS;first|with_reducible exact nR hS (WG _ _ _ _ _ _ _ _ _ _ _ _ _ Z4z))|refine nY ?_))
      refine ak.dN ?_;intro w2 hS;replace AP:=AP.keep hS;replace AX:=AX.keep hS;replace A1:=A1.keep hS;replace A2:=aL.keep A2 hS;replace jy:=Below.ay jy aD hS;clear hS lr WI WJ WK WL WM WO lx cx0 Bp WQ cx3 cx4 cx5 cx6 zx;obtain⟨lx,cx0,Bp,WQ,cx3,cx4,cx5,cx6⟩:=At.seven AX;have zx:=AX.thaw 5;refine x9 ?_;intro K hK;go_simp;refine hK _ _ (ak.bV ?_);clear hK K
      (try rw[hx0])
      generalize hW:World.setCell _ _ _=V0;replace AX:At V0 Tx (.cells #[.int .i64 yi,.int .i64 y0,.int .i64 y1,.int .i64 ys0,.int .i64 ys1,.int .i64 x0,.int .i64 ya1] 77):=hW▸At.set AX 5 _;replace AP:=hW▸At.off AP nrx 5 _;replace A1:=hW▸At.off A1 n1x 5 _;replace A2:aL V0 bk sk vf va ib:=hW▸At.off A2 nbx 5 _;replace jy:Below w9.heap.size w9 V0:=by rw[<-hW];exact Below.setCell jy gTx _
      clear hW lx cx0 Bp WQ cx3 cx4 cx5 cx6 zx;go_wp2;rw[rounds_succ]
      go_upto_region 10 with(fail)
      obtain⟨lr,WI,WJ,WK,WL,WM,WO⟩:=At.six AP;obtain⟨lx,cx0,Bp,WQ,cx3,cx4,cx5,cx6⟩:=At.seven AX;have zx:=AX.thaw 6;refine xq 16 1 ?_
      (repeat (first|refine nW ?_ | refine nX ?_ (hc:=by intro w2 hS;first|with_reducible exact nR hS (WH _ _ _ _ _ _ _ _ _ _ _ _ _ Z4z))|refine nY ?_))
      refine ak.dN ?_;intro w2 hS;replace AP:=AP.keep hS;replace AX:=AX.keep hS;replace A1:=A1.keep hS;replace A2:=aL.keep A2 hS;replace jy:=Below.ay jy aD hS;clear hS lr WI WJ WK WL WM WO lx cx0 Bp WQ cx3 cx4 cx5 cx6 zx;obtain⟨lx,cx0,Bp,WQ,cx3,cx4,cx5,cx6⟩:=At.seven AX;have zx:=AX.thaw 6;refine x9 ?_;intro K hK;go_simp;refine hK _ _ (ak.bV ?_);clear hK K
      (try rw[hx1])
      generalize hW:World.setCell _ _ _=V1;replace AX:At V1 Tx (.cells #[.int .i64 yi,.int .i64 y0,.int .i64 y1,.int .i64 ys0,.int .i64 ys1,.int .i64 x0,.int .i64 x1] 77):=hW▸At.set AX 6 _;replace AP:=hW▸At.off AP nrx 6 _;replace A1:=hW▸At.off A1 n1x 6 _;replace A2:aL V1 bk sk vf va ib:=hW▸At.off A2 nbx 6 _;replace jy:Below w9.heap.size w9 V1:=by rw[<-hW];exact Below.setCell jy gTx _
      clear hW lx cx0 Bp WQ cx3 cx4 cx5 cx6 zx;go_wp2;rw[rounds_succ];obtain⟨lx,cx0,Bp,WQ,cx3,cx4,cx5,cx6⟩:=At.seven AX;obtain⟨l1,aP,aQ,gG,gH,Jf,Jg,afQ⟩:=At.seven A1;have fO:=A1.thaw 0;have fP:=A1.thaw 1;have gZ:=A1.thaw 2;have iq:=A1.thaw 3;have Sr:=A1.thaw 4;have Sv:=A1.thaw 5;have ahU:=A1.thaw 6;clear hx0 hx1;have kV:Out (λb=>b=w.heap.size+1) w9 V1:=Out.of_below jy;go_wp2;generalize hW:World.setCell _ _ _=V5;have A3:At V5 (w.heap.size+1) (.cells #[.int .i64 yi,.int .i64 y0,.int .i64 y1,.int .i64 ys0,.int .i64 ys1,.int .i64 x0,.int .i64 x1] 77):=hW▸At.set (At.set (At.set (At.set (At.set (At.set (At.set A1 0 _) 1 _) 2 _) 3 _) 4 _) 5 _) 6 _;have jL:Out (λb=>b=w.heap.size+1) w9 V5:=by
       rw[<-hW];exact Out.set (Out.set (Out.set (Out.set (Out.set (Out.set (Out.set kV rfl _ _) rfl _ _) rfl _ _) rfl _ _) rfl _ _) rfl _ _) rfl _ _
      clear hW l1 aP aQ gG gH Jf Jg afQ fO fP gZ iq Sr Sv ahU;obtain⟨l1,aP,aQ,gG,gH,Jf,Jg,afQ⟩:=At.seven A3;have hwl:=HSW.out.size;have hPl:=HSW.out.lt
      have uJ:rA Y B F w0 P0 n' P' V5:=MQ.own jL λb hb e=>by
       subst e;refine⟨λh => ?_,by omega⟩;have:=hPl _ (hP9 _ aj h);omega
      have TI:Out (λb=>b=Y.pm) w V5:=Out.trans' ((Out.of_below (M:=λb=>b=Y.pm) hB).trans JC) jL λb hb e=>by
       subst e;omega
      have HP:Hid (∀b,b<w.heap.size->P' b->P b):=ah λb hb h=>hP9 b aj h;rw[gY.out.1,gY.out.2];clear hPl;refine bodyPost_ret (v:=.agg #[.int .i64 _,.int .i64 _,.int .i64 _,.int .i64 _,.int .i64 _,.int .i64 _,.int .i64 _]) (by simp[results,Tryz.results48,go_sem, *];first|done|exact⟨rfl,rfl⟩|exact⟨rfl,rfl,rfl,rfl,rfl,rfl,rfl⟩|rfl) rfl ⟨rfl,n',hn',P',uJ,HP.out,TI⟩
end
end Go.Proofs.YtmidaiklolmkcaaGreat.Fix
namespace Go.Proofs.YtmidaiklolmkcaaGreat.Fw
theorem Md(B:Int->Bx)(f:Nat)(z i0 i1:Int)(h:f=0->(B z).fl=[]):(cont B f z i0 i1).1.map (·.id)=(B z).fl:=by
 cases f with
 | zero=>rw[h rfl];rfl
 | succ f =>
   simp only[cont];split
   . rename_i e;rw[e];rfl
   . simp only[List.map_map]
     have e:((λx=>x.id)∘mv B i0 i1)=λx:Ld=>x.id:=funext λx=>by simp only[Function.comp,mv];split<;>rfl
     rw[e];exact JY B f z i0 i1
def Laid(B:Int->Bx)(f:Nat)(x:Ld):Prop:=∃k r0 r1 t0 t1,x.i0=(lay B f k r0 r1 t0 t1).i0/\x.i1=(lay B f k r0 r1 t0 t1).i1
theorem Laid.same{B:Int->Bx}{f:Nat}{x y:Ld}(h:Laid B f y)(h0:x.i0=y.i0)(h1:x.i1=y.i1):Laid B f x:=by
 obtain⟨k,r0,r1,t0,t1,q0,q1⟩:=h;exact⟨k,r0,r1,t0,t1,h0.trans q0,h1.trans q1⟩
theorem Laid.moved{B:Int->Bx}{f:Nat}{y:Ld}(h:Laid B f y)(a b:Int):Laid B f { y with a0:=a,a1:=b }:=h.same rfl rfl
theorem Laid.adp{B:Int->Bx}{f:Nat}{y:Ld}(h:Laid B f y)(a:Int):Laid B f { y with a0:=a }:=h.same rfl rfl
theorem Laid.adq{B:Int->Bx}{f:Nat}{y:Ld}(h:Laid B f y)(a:Int):Laid B f { y with a1:=a }:=h.same rfl rfl
theorem sG(B:Int->Bx)(f:Nat)(k r0 r1 t0 t1:Int):Laid B f (lay B f k r0 r1 t0 t1):=⟨k,r0,r1,t0,t1,rfl,rfl⟩
theorem Jh(B:Int->Bx)(f:Nat)(z i0 i1 high:Int)(ks:List Int):∀x∈(eX B (lay B f) z i0 i1 high ks).1,Laid B f x:=by
 unfold eX;simp only[];intro x hx;obtain⟨i,hi,rfl⟩:=List.mem_mapIdx.1 hx;refine Laid.moved ?_ _ _;have hm:=List.getElem_mem hi;generalize (_:List Ld)[i]=y at hm ⊢;split at hm
 . obtain⟨u,hu,rfl⟩:=List.mem_map.1 hm
   obtain⟨j,hj,rfl⟩:=List.mem_mapIdx.1 hu;split
   . exact sG _ _ _ _ _ _ _
   . exact sG _ _ _ _ _ _ _
 . obtain⟨j,hj,rfl⟩:=List.mem_mapIdx.1 hm
   exact sG _ _ _ _ _ _ _
theorem FN(B:Int->Bx)(f:Nat)(z i0 i1 high:Int)(fl:List Int):∀(ps:List (Nat×Nat)) (fst:Bool) (y:Int),∀x∈(aY B (lay B f) z i0 i1 high fl fst y ps).1,Laid B f x:=by
 intro ps
 induction ps with
 | nil=>intro fst y x hx;simp[aY]at hx
 | cons p ps ih =>
   intro fst y x hx;simp only[aY,List.mem_append,List.mem_map]at hx;rcases hx with⟨u,hu,rfl⟩|hx
   . exact Jh B f z i0 i1 high _ u hu
   . exact ih _ _ x hx
theorem Sy(B:Int->Bx)(f:Nat)(z i0 i1:Int):∀x∈(kind B (lay B f) f z i0 i1).1,Laid B f x:=by
 unfold kind;split
 . unfold yC;exact FN B f z i0 i1 _ _ _ _ _
 . split
   . unfold iE
     intro x hx;simp only[]at hx;obtain⟨i,hi,rfl⟩:=List.mem_mapIdx.1 hx;refine Laid.moved ?_ _ _;simp only[List.getElem_mapIdx];exact sG _ _ _ _ _ _ _
   . unfold lH
     intro x hx;simp only[]at hx;obtain⟨i,hi,rfl⟩:=List.mem_mapIdx.1 hx;refine Laid.adq ?_ _;simp only[List.getElem_map,jR];exact(sG B f _ _ _ _ _).adp _
theorem Sz(B:Int->Bx)(f:Nat)(z i0 i1:Int):∀x∈(cont B (f+1) z i0 i1).1,Laid B f x:=by
 intro x hx;simp only[cont]at hx;split at hx
 . simp at hx
 . obtain⟨u,hu,rfl⟩:=List.mem_map.1 hx
   obtain⟨k,r0,r1,t0,t1,h1,h2⟩:=Sy B f z i0 i1 u hu;refine⟨k,r0,r1,t0,t1,?_,?_⟩
   . rw[<-h1];unfold mv;split<;>rfl
   . rw[<-h2];unfold mv;split<;>rfl
theorem Qs{B:Int->Bx}{f:Nat}{x:Ld}(h:Laid B f x):(-1<=x.i0/\x.i0<=9223372036854775807)/\-1<=x.i1/\x.i1<=9223372036854775807:=by
 obtain⟨k,r0,r1,t0,t1,h1,h2⟩:=h;rw[h1,h2];exact⟨tu _ _ _ _ _,tu _ _ _ _ _⟩
end Go.Proofs.YtmidaiklolmkcaaGreat.Fw
namespace Go.Proofs.YtmidaiklolmkcaaGreat.Fix
open Go.ChangeShapes Go.WideShapes Go.ChangeAt Go.RowKit
structure Pt where
 q0:Int
 q1:Int
 r0:Int
 r1:Int
 d0:Int
 d1:Int
def uL(sk s:Re.St)(ww wh s0 s1:Int):Pt:=if sk.c 1=3 then ⟨0,0,ww,wh,0,0⟩else ⟨s.c 38,s.c 35,Fw.wr (s0-Fw.wr (s.c 38+s.c 36)),Fw.wr (s1-Fw.wr (s.c 35+s.c 37)),s.c 34,s.c 31⟩
theorem adr(sk s:Re.St)(ww wh s0 s1:Int):prt sk s ww wh s0 s1=#[.int .i64 (uL sk s ww wh s0 s1).q0,.int .i64 (uL sk s ww wh s0 s1).q1,.int .i64 (uL sk s ww wh s0 s1).r0,.int .i64 (uL sk s ww wh s0 s1).r1,.int .i64 (uL sk s ww wh s0 s1).d0,.int .i64 (uL sk s ww wh s0 s1).d1]:=by
 unfold prt uL;split<;>rfl
def rG(B:Int->Fw.Bx)(ww wh:Int)(f:Nat)(k:Int)(up:Fw.Ld):Fw.Ld :=
 let sk:=(B k).sty
 let p:=uL sk (B up.id).sty ww wh up.s0 up.s1
 let ly:=Fw.lay B f k p.r0 p.r1 (OI sk p.r0) (Em sk 1 p.r1 p.r0)
 { ly with a0:=Fw.wr (p.q0+GN sk 0 p.r0 p.r0 p.d0 ly.s0),a1:=Fw.wr (p.q1+GN sk 1 p.r1 p.r0 p.d1 ly.s1) }
def Qt(s:Re.St)(k:Fw.Ld):Fw.Ld:={ k with a0:=Fw.wr (k.a0+Fw.ed s 3),a1:=Fw.wr (k.a1+Fw.ed s 0) }
def tl(B:Int->Fw.Bx)(ww wh:Int):Nat->Fw.Ld->List Fw.Ld
 | 0,x=>[x]
 | f+1,x=>x::(((Fw.cont B (f+1) x.id x.i0 x.i1).1.flatMap λk=>tl B ww wh f (Qt (B x.id).sty k))++((B x.id).ap.flatMap λk=>tl B ww wh f (rG B ww wh f k x)))
def oW(B:Int->Fw.Bx):Nat->Int->Nat
 | 0,_=>1
 | f+1,z=>Fw.cst B (f+1) z+((B z).fl.map (oW B f)).sum+((B z).ap.map λk=>Fw.cst B f k+oW B f k).sum
def rcv(x:Fw.Ld):Value:=.agg #[.int .i64 (Fx.cut x.a0),.int .i64 (Fx.cut x.a1),.int .i64 (Fx.cut x.s0),.int .i64 (Fx.cut x.s1)]
noncomputable def jA(g:Lit->Option Value)(l:List Fw.Ld):Lit->Option Value:=l.foldl (λg x=>xM g (.int .i64 x.id) (rcv x)) g
theorem za(g:Lit->Option Value)(l m:List Fw.Ld):jA g (l++m)=jA (jA g l) m:=List.foldl_append
section
variable {Y:sj} {B:Int->Fw.Bx} {F:Int->Nat} {D:Int->Prop} {W W':World} {n n' nr Ad:Nat} {P P':Nat->Prop} {g g':Lit->Option Value}
theorem RO.OJ(hrb:Y.rm≠Y.bm)(Eo:Y.rm≠Y.km)(hrm:∃es ck,At W Y.rm (.map es ck))(h:RO W Y B D nA)(k:Out (λb=>b=Y.pm\/b=Y.rm\/W.heap.size<=b) W W')(hp:∃es ck,At W' Y.pm (.map es ck)):RO W' Y B D nA:=by
 have hkm:=h.kinds.lt;obtain⟨es0,RG,hpm⟩:=h.EO;obtain⟨es1,ck1,hrm⟩:=hrm
 have cell:∀{b:Nat} {cs:Array Value} {T:TypeId},At W b (.cells cs T)->¬ (b=Y.pm\/b=Y.rm\/W.heap.size<=b):=λ{b cs T} ha q=>by
  rcases q with rfl|rfl|q
  . have:=At.uniq ha hpm;cases this
  . have:=At.uniq ha hrm;cases this
  . exact absurd ha.lt aj
 have ks:∀{v:Value} {l:List Int},KS W v l->KS W' v l:=λ{v l} hk=>hk.out (λg hg q=>by
  obtain⟨cur,ha⟩:=hk.rowAt hg
  exact cell ha q) k
 refine⟨h.lay.out (cell h.lay) k,?_,λz hz => ?_,?_,h.wf,hp,h.pmb,h.pmk,h.pmr⟩
 . obtain⟨n,g,h1,h2⟩:=h.boxes
   exact⟨n,g,h1.out (λq=>by
    rcases q with q|q|q
    . exact h.pmb q.symm
    . exact hrb q.symm
    . exact absurd h1.lt aj) k,h2⟩
 . obtain⟨h1,h2,h3⟩:=h.box z hz
   exact⟨At.out h1 (cell h1) k,ks h2,ks h3⟩
 . refine nA.out _ _ _ h.kinds ⟨k.1,λb hb hn => ?_⟩
   have hb':b=Y.km:=Classical.byContradiction hn;subst hb'
   exact k.2 _ hb (λq=>by
    rcases q with q|q|q
    . exact h.pmk q.symm
    . exact Eo q.symm
    . omega)
structure TS(Y:sj)(B:Int->Fw.Bx)(F:Int->Nat)(D:Int->Prop)(w:World)(P:Nat->Prop)(n':Nat)(P':Nat->Prop)(Ad:Nat)(g':Lit->Option Value)(W:World):Prop where
 ro:RO W Y B D nA
 kp:Kp Y B F n' P' W
 lt:∀b,P' b->b<W.heap.size
 new:∀b,P' b->P b\/w.heap.size<=b
 nrm:¬ P' Y.rm
 gm:GM 3 W Y.rm Ad g'
 out:Out (λb=>b=Y.pm\/b=Y.rm\/w.heap.size<=b) w W
variable {w:World}
theorem TS.size(h:TS Y B F D w P n' P' Ad g' W):w.heap.size<=W.heap.size:=h.out.size
theorem TS.own{M:Nat->Prop}(h:TS Y B F D w P n' P' Ad g' W)(hrb:Y.rm≠Y.bm)(Eo:Y.rm≠Y.km)(hR:RO w Y B D nA)(hrm:∃es ck,At w Y.rm (.map es ck))(k:Out M W W')(hm:∀b,b<W.heap.size->M b->¬ P' b/\w.heap.size<=b)(hr:Y.rm<w.heap.size):TS Y B F D w P n' P' Ad g' W':=by
 have hk':Kp Y B F n' P' W':=h.kp.out k λb hb q=>(hm b (h.lt b hb) q).1 hb;have ho:Out (λb=>b=Y.pm\/b=Y.rm\/w.heap.size<=b) w W':=Out.trans' h.out k λb hb q => .inr (.inr (hm b (aV hb h.size) q).2);exact⟨hR.OJ hrb Eo hrm ho hk'.pm.2,hk',λb hb=>aV (h.lt b hb) k.size,h.new,h.nrm,h.gm.out (λq=>by have:=(hm _ (aV hr h.size) q).2;omega) k,ho⟩
theorem TS.after(h:TS Y B F D w P n' P' Ad g' W)(hrb:Y.rm≠Y.bm)(Eo:Y.rm≠Y.km)(hR:RO w Y B D nA)(hrm:∃es ck,At w Y.rm (.map es ck))(hr:Y.rm<w.heap.size)(k:Below W.heap.size W W'):TS Y B F D w P n' P' Ad g' W':=h.own hrb Eo hR hrm (M:=λ_=>False) (Out.of_below k) (λ_ _ q=>q.elim) hr
theorem TS.laid{n2:Nat}{P2:Nat->Prop}(h:TS Y B F D w P n' P' Ad g' W)(hrb:Y.rm≠Y.bm)(Eo:Y.rm≠Y.km)(hR:RO w Y B D nA)(hrm:∃es ck,At w Y.rm (.map es ck))(hr:Y.rm<w.heap.size)(hK:Kp Y B F n2 P2 W')(hP:∀b,P2 b->P' b\/W.heap.size<=b)(k:Out (λb=>b=Y.pm) W W'):TS Y B F D w P n2 (λb=>P2 b/\b<W'.heap.size) Ad g' W':=by
 have ho:Out (λb=>b=Y.pm\/b=Y.rm\/w.heap.size<=b) w W':=Out.trans' h.out k λb hb q => .inl q;have hs:=h.size
 exact⟨hR.OJ hrb Eo hrm ho hK.pm.2,hK.cut,λb hb=>hb.2,λb hb=>by
  rcases hP b hb.1 with q|q
  . exact h.new b q
  . exact .inr aj,λq=>by
  rcases hP _ q.1 with q|q
  . exact h.nrm q
  . omega,h.gm.out (λq=>hR.pmr q.symm) k,ho⟩
theorem TS.told{n2 nr2:Nat}{P2:Nat->Prop}{g2:Lit->Option Value}(h:TS Y B F D w P n' P' Ad g' W)(hrb:Y.rm≠Y.bm)(Eo:Y.rm≠Y.km)(hR:RO w Y B D nA)(hrm:∃es ck,At w Y.rm (.map es ck))(hr:Y.rm<w.heap.size)(hK:Kp Y B F n2 P2 W')(hP:∀b,P2 b->P' b\/W.heap.size<=b)(hG:GM 3 W' Y.rm nr2 g2)(k:Out (λb=>b=Y.pm\/b=Y.rm) W W'):TS Y B F D w P n2 (λb=>P2 b/\b<W'.heap.size) nr2 g2 W':=by
 have ho:Out (λb=>b=Y.pm\/b=Y.rm\/w.heap.size<=b) w W':=Out.trans' h.out k λb hb q=>by
  rcases q with q|q
  . exact .inl q
  . exact .inr (.inl q)
 have hs:=h.size
 exact⟨hR.OJ hrb Eo hrm ho hK.pm.2,hK.cut,λb hb=>hb.2,λb hb=>by
  rcases hP b hb.1 with q|q
  . exact h.new b q
  . exact .inr aj,λq=>by
  rcases hP _ q.1 with q|q
  . exact h.nrm q
  . omega,hG,ho⟩
end
def ldz:Array Value:=#[.int .i64 0,.int .i64 0,.int .i64 0,.int .i64 0,.int .i64 0,.int .i64 0,.int .i64 0]
theorem WR(W:World):(Instr.alloc 77 true (.tuple #[])).run Tryz.prog W=.ok (.pointer (some ⟨W.heap.size,0,none⟩)) (W.alloc (.cells ldz 77)):=by kernel_rfl
section
variable {ops:Array Oper} {rest:List Oper} {o:Oper} {a:Act} {w:World} {Q:Exit->Act->World->Prop}
theorem BP(hw:Region.wanted o (yielded ops a.tmps)=true)(ho:o.op=.alloc 77)(h:wpList Tryz.prog ops Q rest (a.put o.dst (.pointer (some ⟨w.heap.size,0,none⟩))) (w.alloc (.cells ldz 77))):wpList Tryz.prog ops Q (o::rest) a w :=
 eu hw (by unfold execOp;simp only[ho,Sem.run_bind,WR,Result.andThen_ok,Sem.run_pure]) h
theorem Ae(hw:Region.wanted o (yielded ops a.tmps)=true)(p y:Operand)(ho:o.op=.store 77 p y){b:Nat}(hp:a.eval p=.pointer (some ⟨b,0,none⟩)){x:Fw.Ld}(hy:a.eval y=.agg (eH x))(hs:At w b (.cells ldz 77))
  (h:wpList Tryz.prog ops Q rest (a.put o.dst undef) (w.setRow b (eH x))):wpList Tryz.prog ops Q (o::rest) a w :=
 jw (q:=0) og hw p y ho hp hy hs (dG x) (by simp[ldz]) (pJ x) (by rw[Cy (cs:=ldz) (vs:=eH x) rfl];exact h)
end
end Go.Proofs.YtmidaiklolmkcaaGreat.Fix
