/- Steps of the program (18); no conditions. -/
import Derived.Test.YtfohooineeijkaaGreatM17
set_option linter.all false
set_option maxRecDepth 100000
set_option maxHeartbeats 16000000
namespace Go.Proofs.YtfohooineeijkaaGreat.Fix
open Go.ChangeShapes Go.WideShapes Go.ChangeAt Go.RowKit
open Go.Proofs.Tryz renaming prog → ja0
open List renaming setIfInBounds_toArray → ja1,set_cons_zero → ja2,set_cons_succ → ja3,getElem?_toArray → ja',getElem?_cons_succ → jb0,getElem?_cons_zero → jb2
open World renaming setCell → ja4,alloc → ja5
theorem aeH(W:World):(isAgg 52).run ja0 W=.ok true W:=by kernel_rfl
theorem Y'(W:World):(sizeOf 140).run ja0 W=.ok 4 W:=by kernel_rfl
theorem uz(x y u v:Int):∀z∈(#[x,y,u,v]:Array Value).toList,z.oneCell'=true:=by
 intro z hz;simp at hz;rcases hz with rfl|rfl|rfl|rfl<;>rfl
theorem aeI(W:World):(sizeOf 52).run ja0 W=.ok 4 W:=by kernel_rfl
theorem NZ{ops:Array Oper}{S:World->Prop}{o:Oper}{a:Act}(p:Operand){T i:Nat}{x0 x1 x2 x3:Int}(hw:Region.wanted o (yielded ops a.tmps)=true)(ho:o.op=.load 52 p)(hp:a.eval p=.pointer (some ⟨T,i,none⟩))(h:∀X,S X->X.cell? ⟨T,i,none⟩=some (.int .i64 x0)/\X.cell? ⟨T,i+1,none⟩=some (.int .i64 x1)/\X.cell? ⟨T,i+2,none⟩=some (.int .i64 x2)/\X.cell? ⟨T,i+3,none⟩=some (.int .i64 x3)):aj.Reads ja0 ops S o (.agg #[x0,x1,x2,x3]) a :=
 .inl ⟨hw,λX hX=>iH aeH aeI p ho hp rfl λj hj=>by
  obtain⟨c0,c1,c2,c3⟩:=h X hX
  match j,hj with
  | 0,_=>exact c0
  | 1,_=>exact c1
  | 2,_=>exact c2
  | 3,_=>exact c3⟩
def prt(sb s:Re.St)(ww wh s0 s1:Int):Array Value :=
 if sb.c 1=3 then #[(),(),ww,wh,(),()]
 else #[s.c 38,s.c 35,.int .i64 (Fw.wr (s0-Fw.wr (s.c 38+s.c 36))),.int .i64 (Fw.wr (s1-Fw.wr (s.c 35+s.c 37))),s.c 34,s.c 31]
section
variable {Y:rF} {B:Int->Fw.Bx} {D:Int->Prop} {KM:World->Nat->Prop}
theorem ahe(hK:∀(X X':World) (b:Nat),KM X b->Below X X X'->KM X' b)(k:Int)(up:Fw.Ld)(hz:D up.id)(hk:D k)(bk:Nat)(hbk:bk=Y.bl k)(w:World)(hR:RO w Y B D KM)(sk s:Re.St)(hsk:(B k).sty=sk)(hs:(B up.id).sty=s) :
  Calls ja0 102 #[Y.lb,bk,.agg (fH up)] w λe w'=>e=.returned (.agg (prt sk s Y.ww Y.wh up.s0 up.s1))/\Below w w w':=by
 have HBK:=ah hbk;have HSK:=ah hsk;have HS:=ah hs;clear hbk hsk hs;obtain⟨z,j0,j1,s0,s1,a0,a1⟩:=up;obtain⟨ww,hww⟩:=aC Y.ww;obtain⟨wh,hwh⟩:=aC Y.wh;have hR':=hR;have FN:=hR.lay;rw[hww,hwh]at FN ⊢;clear hww hwh;simp only[fH];go_enter Tryz.func102,Tryz.ntmps102
 go_upto_region 1 with(fail)
 generalize hW:ja5 _ _=W0;have A0:At W0 w (.cells #[z,j0,j1,s0,s1,a0,a1] 88):=hW▸At.alloc (At.new _ _) _;have A1:At W0 (w.heap.size+1) (.cells #[(),(),(),(),(),()] 179):=hW▸At.new' _ bI;have hB0:Below w w W0:=hW▸aD (aD aG _) _;clear hW;have hR0:=hR.keep hK hB0;have hbx:=(hR0.box k hk).1;rw[<-HBK.out,HSK.out]at hbx;have c1:W0.cell? ⟨bk,1,none⟩=some (.int .i64 (sk.c 1)):=aR.int hbx 1 ak rfl;have lbk:=aR.lt hbx;have KP:=FN.keep hB0;obtain⟨lY,yK,yL,AZ,Ba,Bb,Bc⟩:=At.six KP;obtain⟨l1,aH,aJ,dn,dw,nM,nN⟩:=At.six A1;have dZ:=A1.thaw 0;have eu:=A1.thaw 1;have eO:=A1.thaw 2;have eP:=A1.thaw 3;have oH:=A1.thaw 4;have oI:=A1.thaw 5;by_cases hfx:sk.c 1=3
 . have E:Hid (prt sk s ww wh s0 s1=#[.int .i64 0,.int .i64 0,.int .i64 ww,.int .i64 wh,.int .i64 0,.int .i64 0]):=ah (by unfold prt;rw[if_pos hfx])
   clear hR0 hbx KP hR hR' FN;go_wp2;generalize hW:ja4 _ _ _=W1;have A2:At W1 (w.heap.size+1) (.cells #[(),(),ww,wh,(),()] 179):=hW▸At.set (At.set (At.set (At.set (At.set (At.set A1 0 _) 1 _) 2 _) 3 _) 4 _) 5 _;have hB1:Below w w W1:=by
    rw[<-hW];exact Below.setCell (Below.setCell (Below.setCell (Below.setCell (Below.setCell (Below.setCell hB0 nK _) nK _) nK _) nK _) nK _) nK _
   clear hW l1 aH aJ dn dw nM nN dZ eu eO eP oH oI;obtain⟨l1,aH,aJ,dn,dw,nM,nN⟩:=At.six A2;rw[E.out];refine bodyPost_ret (v:=.agg #[_,_,_,_,_,_]) (by simp[results,Tryz.results102,go_sem, *];first|done|exact⟨rfl,rfl⟩|exact⟨rfl,rfl,rfl,rfl,rfl,rfl⟩|rfl) rfl ⟨rfl,hB1⟩
 . have E:Hid (prt sk s ww wh s0 s1=#[.int .i64 (s.c 38),.int .i64 (s.c 35),.int .i64 (Fw.wr (s0-Fw.wr (s.c 38+s.c 36))),.int .i64 (Fw.wr (s1-Fw.wr (s.c 35+s.c 37))),.int .i64 (s.c 34),.int .i64 (s.c 31)]):=ah (by unfold prt;rw[if_neg hfx])
   go_upto_region 3 with(fail)
   clear hfx c1 lbk l1 aH aJ dn dw nM nN dZ eu eO eP oH oI hbx FN;obtain⟨b0,hb0⟩:=aC (Y.bl z);have hbz:=(hR0.box z hz).1;rw[hb0,HS.out]at hbz;have zw:=ah hbz.style;have Vh:=hbz.lt;have hlk:=λX (h:Below W0 W0 X)=>(hR0.keep hK h).look hz;simp only[hb0]at hlk;clear hb0 hR' hbz;obtain⟨l0,aA,aB,aY,dP,iX,iY,nL⟩:=At.seven A0;have hSd:Below W0 W0 W0.drew:=Below.drew aG;refine jy (S:=λX=>Below W0 W0 X) 13 ?_ ?_
   . exact hSd
   intro hx;clear hSd;refine aS 0 ?_;refine aS 1 ?_;refine aS 2 ?_;refine aS 3 ?_;refine aS 4 ?_;refine aS 5 ?_;refine aS 6 ?_;refine mG 7 rfl (bU bB rfl rfl rfl (λX h=>hlk X h)) ?_;refine aS 8 ?_;refine aS 9 ?_;refine mG 10 rfl (jr bB (.tmp 32) rfl rfl (λX h=>λj hj=>(h.cell (p:=⟨b0,0+j,none⟩) Vh).trans (zw.out j hj))) ?_;refine tk1 11 ?_;refine aj.Step.value (kV rfl) ?_;obtain⟨w2,hw2,AS,hb2,gT⟩:∃w2,w2=W0.drew.alloc (.cells (cells Re.zero) 59)/\At w2 W0.drew (.cells (cells Re.zero) 59)/\Below W0.drew W0.drew w2/\W0.heap.size<=W0.drew.heap.size:=⟨_,rfl,At.new _ _,aD aG _,hx.size⟩;rw[<-hw2];clear hw2;replace hx:=Below.ay hx aF hb2;generalize W0.drew.heap.size=T at *;refine⟨λ_=>hx,?_⟩
   (try simp only[bV,bW,bX,tks])
   refine tk1 12 ?_;refine aj.Step.skip (kX (.tmp 7) (.tmp 33) rfl rfl rfl AS) ?_;replace AS:At (w2.setRow T (cells s)) T (.cells (cells s) 59):=At.setRow AS _;have hx2:Below W0 W0 (w2.setRow T (cells s)):=aU hx gT _;generalize w2.setRow T (cells s)=w1 at *;refine⟨λ_=>hx2,?_⟩
   (try simp only[bV,bW,bX,tks])
   refine jk ?_;have hs1:=hx2.size;replace A0:=A0.keep hx2;replace A1:=A1.keep hx2;have hB1:Below w w w1:=Below.ay hB0 aF hx2;have HR1:True:=trivial;clear hx hx2 hb2 hlk zw Vh l0 aA aB aY dP iX iY nL lY yK yL AZ Ba Bb Bc KP hR0 hR;have lT:=AS.lt;have c31:w1.cell? ⟨T,31,none⟩=some (.int .i64 (s.c 31)):=(AS.cell 31).trans (dG s ak rfl);have c32:w1.cell? ⟨T,32,none⟩=some (.int .i64 (s.c 32)):=(AS.cell 32).trans (dG s ak rfl);have c33:w1.cell? ⟨T,33,none⟩=some (.int .i64 (s.c 33)):=(AS.cell 33).trans (dG s ak rfl);have c34:w1.cell? ⟨T,34,none⟩=some (.int .i64 (s.c 34)):=(AS.cell 34).trans (dG s ak rfl);have c35:w1.cell? ⟨T,35,none⟩=some (.int .i64 (s.c 35)):=(AS.cell 35).trans (dG s ak rfl);have c36:w1.cell? ⟨T,36,none⟩=some (.int .i64 (s.c 36)):=(AS.cell 36).trans (dG s ak rfl);have c37:w1.cell? ⟨T,37,none⟩=some (.int .i64 (s.c 37)):=(AS.cell 37).trans (dG s ak rfl);have c38:w1.cell? ⟨T,38,none⟩=some (.int .i64 (s.c 38)):=(AS.cell 38).trans (dG s ak rfl);have aeJ:=ah (λX (h:Below w1 w1 X)=>(⟨(h.cell (p:=⟨T,31,none⟩) lT).trans c31,(h.cell (p:=⟨T,32,none⟩) lT).trans c32,(h.cell (p:=⟨T,33,none⟩) lT).trans c33,(h.cell (p:=⟨T,34,none⟩) lT).trans c34⟩:X.cell? ⟨T,31,none⟩=some (.int .i64 (s.c 31))/\X.cell? ⟨T,31+1,none⟩=some (.int .i64 (s.c 32))/\X.cell? ⟨T,31+2,none⟩=some (.int .i64 (s.c 33))/\X.cell? ⟨T,31+3,none⟩=some (.int .i64 (s.c 34))));have aeK:=ah (λX (h:Below w1 w1 X)=>(⟨(h.cell (p:=⟨T,35,none⟩) lT).trans c35,(h.cell (p:=⟨T,36,none⟩) lT).trans c36,(h.cell (p:=⟨T,37,none⟩) lT).trans c37,(h.cell (p:=⟨T,38,none⟩) lT).trans c38⟩:X.cell? ⟨T,35,none⟩=some (.int .i64 (s.c 35))/\X.cell? ⟨T,35+1,none⟩=some (.int .i64 (s.c 36))/\X.cell? ⟨T,35+2,none⟩=some (.int .i64 (s.c 37))/\X.cell? ⟨T,35+3,none⟩=some (.int .i64 (s.c 38))));clear c31 c32 c33 c34 c35 c36 c37 c38 AS
   go_upto_region 4 with(fail)
   refine aj.iJ (λa0 a W5=>∃(Tp Tq:Nat) (u34 u35 u36 u37 u38 u39:Value),a={ a0 with tmps:=(((((((a0.tmps.setIfInBounds 34 u34).setIfInBounds 35 u35).setIfInBounds 36 u36).setIfInBounds 37 u37).setIfInBounds 38 u38).setIfInBounds 39 u39).setIfInBounds 8 (.pointer Tp)).setIfInBounds 9 (.pointer Tq) }/\w1.heap.size<=Tp/\w1.heap.size<=Tq/\Tp≠Tq/\At W5 Tp (.cells #[s.c 34,s.c 32,s.c 31,s.c 33] 140)/\At W5 Tq (.cells #[s.c 38,s.c 36,s.c 35,s.c 37] 140)/\Below w1 w1 W5) ?_ ?_
   . have hSd:Below w1 w1 w1.drew:=Below.drew aG
     clear hB1 hB0 A0 A1 E;refine jy (S:=λX=>Below w1 w1 X) 10 ?_ ?_
     . exact hSd
     intro hx;clear hSd;refine aS 0 ?_;refine mG 1 rfl (NZ (.tmp 34) bB rfl rfl (λX h=>aeJ.out X h)) ?_;refine aS 3 ?_;refine mG 4 rfl (NZ (.tmp 37) bB rfl rfl (λX h=>aeK.out X h)) ?_;clear lT aeJ aeK;generalize w1.drew=W0 at *;refine aj.vk 4 [2,5,6,7] [36,39,8,9] (λi=>if i=5 then [2]else []) (λi=>if i=2 then aj.Rv (.agg #[s.c 34,s.c 32,s.c 31,s.c 33])else if i=5 then aj.Rv (.agg #[s.c 38,s.c 36,s.c 35,s.c 37])else aj.Ra (.cells #[(),(),(),()] 140)) ⟨⟨λ_ _ _ _ _ h _=>h,_,rfl,rfl,λW hb=>aj.Step.call eD (uP _ _ _ _ _) λ_ _ h=>⟨_,h.1,h.2,rfl⟩⟩,⟨λ_ _ _ _ _ h _=>h,_,rfl,rfl,λW hb=>aj.Step.call eD (uP _ _ _ _ _) λ_ _ h=>⟨_,h.1,h.2,rfl⟩⟩,⟨λ_ _ _ _ _ h hb=>aj.Ra.keep h hb,_,rfl,rfl,λW hb=>aj.Ra.made eD⟩,⟨λ_ _ _ _ _ h hb=>aj.Ra.keep h hb,_,rfl,rfl,λW hb=>aj.Ra.made eD⟩,trivial⟩ (λX h=>Below.ay hx aF h) ?_;intro vs q0 e0 W hb hI hp;have e2:vs 2=_:=(hI 2 bI).2.2;have e5:vs 5=_:=(hI 5 bI).2.2;obtain⟨gp,-, e6,lp,Ap⟩:=hI 6 bI;obtain⟨gq,-, e7,lq,Aq⟩:=hI 7 bI;have FE:=hp 6 bI 7 bI aN
     (try simp only[aj.oG,aj.qd,aj.kY,aj.oF,List.map_cons,List.map_nil,e2,e5,e6,e7]);(try simp only[bV,bW,bX,tks])
     generalize q0 6=Tp at *;generalize q0 7=Tq at *;replace FE:Tp≠Tq:=by omega
     replace gp:=aK hx.size gp;replace gq:=aK hx.size gq;replace hx:=Below.ay hx aF hb;clear hI hp hb e2 e5 e6 e7 lp lq;refine tk1 8 ?_;refine aj.Step.skip (bH (q:=0) Y' (.tmp 8) (.tmp 36) rfl rfl rfl Ap rfl bI (uz _ _ _ _)) ?_;rw[fM (cs:=#[(),(),(),()]) (vs:=#[s.c 34,s.c 32,s.c 31,s.c 33]) rfl];have Wn:=At.setRow Ap #[s.c 34,s.c 32,s.c 31,s.c 33];have WB:=At.iP Aq FE.symm #[s.c 34,s.c 32,s.c 31,s.c 33];have hx1:=aU hx gp #[s.c 34,s.c 32,s.c 31,s.c 33];generalize W.setRow Tp #[.int .i64 (s.c 34),.int .i64 (s.c 32),.int .i64 (s.c 31),.int .i64 (s.c 33)]=x1 at *;refine⟨λ_=>hx1,?_⟩
     (try simp only[bV,bW,bX,tks])
     refine tk1 9 ?_;refine aj.Step.skip (bH (q:=0) Y' (.tmp 9) (.tmp 39) rfl rfl rfl WB rfl bI (uz _ _ _ _)) ?_;rw[fM (cs:=#[(),(),(),()]) (vs:=#[s.c 38,s.c 36,s.c 35,s.c 37]) rfl];have Aq3:=At.setRow WB #[s.c 38,s.c 36,s.c 35,s.c 37];have Ap3:=At.iP Wn FE #[s.c 38,s.c 36,s.c 35,s.c 37];have hx2:=aU hx1 gq #[s.c 38,s.c 36,s.c 35,s.c 37];generalize x1.setRow Tq #[.int .i64 (s.c 38),.int .i64 (s.c 36),.int .i64 (s.c 35),.int .i64 (s.c 37)]=x2 at *;refine⟨λ_=>hx2,?_⟩
     (try simp only[bV,bW,bX,tks])
     refine jk ?_;exact⟨rfl,Tp,Tq,_,_,_,_,_,_,rfl,gp,gq,FE,Ap3,Aq3,hx2⟩
   . rintro a W5 ⟨Tp,Tq,u34,u35,u36,u37,u38,u39,rfl,gp,gq,FE,Ap,Aq,mX⟩
     simp only[ja1,ja2,ja3];have hs5:=mX.size;have AA:Below w w W5:=Below.ay hB1 aF mX;replace A0:=A0.keep mX;replace A1:=A1.keep mX;clear mX aeJ aeK lT;obtain⟨r0,hr0⟩:=aC (IntKind.i64.wrap (s0-Fw.wr (s.c 38+s.c 36)));obtain⟨r1,hr1⟩:=aC (IntKind.i64.wrap (s1-Fw.wr (s.c 35+s.c 37)));have E2:Hid (prt sk s ww wh s0 s1=#[.int .i64 (s.c 38),.int .i64 (s.c 35),.int .i64 r0,.int .i64 r1,.int .i64 (s.c 34),.int .i64 (s.c 31)]):=ah (by rw[E.out,<-sK (s0-_),<-sK (s1-_),hr0,hr1]);clear E
     go_upto_region 6 with(fail)
     generalize hW:ja5 _ _=W6;have AP:At W6 W5 (.cells #[(),(),(),(),(),()] 179):=hW▸At.new _ _;have hb6:Below W5 W5 W6:=hW▸aD aG _;clear hW;have npr:Tp≠W5.heap.size:=dK Ap.lt;have nqr:Tq≠W5.heap.size:=dK Aq.lt;have n0r:w.heap.size≠W5.heap.size:=dK A0.lt;have n1r:w.heap.size+1≠W5.heap.size:=dK A1.lt;have gTr:w.heap.size<=W5.heap.size:=wz A0.lt;replace Ap:=Ap.keep hb6;replace Aq:=Aq.keep hb6;replace A0:=A0.keep hb6;replace A1:=A1.keep hb6;have N7:=Below.ay AA aF hb6;clear hb6 hs5 AA;generalize W5.heap.size=Tr at *;go_wp2;refine wp_loop_rounds 3 ?_;rw[rounds_succ];obtain⟨lq,cq0,cq1,cq2,cq3⟩:=At.four Aq;have lr:=AP.lt;have zr:=AP.thaw 0;have cr:=AP.cell 0;simp only[ja',jb2,jb0]at cr
     go_upto_region 10 with(fail)
     generalize hW:ja4 _ _ _=V01;replace AP:At V01 Tr (.cells #[s.c 38,(),(),(),(),()] 179):=hW▸At.set AP 0 _;replace Aq:=hW▸At.off Aq nqr 0 _;replace Ap:=hW▸At.off Ap npr 0 _;replace A0:=hW▸At.off A0 n0r 0 _;replace A1:=hW▸At.off A1 n1r 0 _;replace N7:Below w w V01:=by rw[<-hW];exact Below.setCell N7 gTr _
     clear hW lq cq0 cq1 cq2 cq3 lr zr cr;obtain⟨lq,cq0,cq1,cq2,cq3⟩:=At.four Aq;obtain⟨l0,aA,aB,aY,dP,iX,iY,nL⟩:=At.seven A0;have lr:=AP.lt;have zr:=AP.thaw 2;have cr:=AP.cell 2;simp only[ja',jb2,jb0]at cr;refine yI 12 1 ?_
     (repeat (first|refine jV ?_ | refine jW ?_ (hc:=by intro w2 hS;first|with_reducible exact jI hS (eT _ _ _))|refine jX ?_))
     refine aj.dH ?_;intro w2 hS;replace AP:=AP.keep hS;replace Ap:=Ap.keep hS;replace Aq:=Aq.keep hS;replace A0:=A0.keep hS;replace A1:=A1.keep hS;replace N7:=Below.ay N7 aF hS;clear hS lq cq0 cq1 cq2 cq3 l0 aA aB aY dP iX iY nL lr zr cr;have lr:=AP.lt;have zr:=AP.thaw 2;have cr:=AP.cell 2;simp only[ja',jb2,jb0]at cr;refine vH ?_;intro K hK;go_simp;refine hK _ _ (aj.bF ?_);clear hK K
     (try rw[hr0])
     generalize hW:ja4 _ _ _=V02;replace AP:At V02 Tr (.cells #[s.c 38,(),r0,(),(),()] 179):=hW▸At.set AP 2 _;replace Aq:=hW▸At.off Aq nqr 2 _;replace Ap:=hW▸At.off Ap npr 2 _;replace A0:=hW▸At.off A0 n0r 2 _;replace A1:=hW▸At.off A1 n1r 2 _;replace N7:Below w w V02:=by rw[<-hW];exact Below.setCell N7 gTr _
     clear hW lr zr cr;obtain⟨lp,TI,TJ,cp2,cp3⟩:=At.four Ap;have lr:=AP.lt;have zr:=AP.thaw 4;have cr:=AP.cell 4;simp only[ja',jb2,jb0]at cr
     go_upto_region 12 with(fail)
     generalize hW:ja4 _ _ _=V03;replace AP:At V03 Tr (.cells #[s.c 38,(),r0,(),s.c 34,()] 179):=hW▸At.set AP 4 _;replace Aq:=hW▸At.off Aq nqr 4 _;replace Ap:=hW▸At.off Ap npr 4 _;replace A0:=hW▸At.off A0 n0r 4 _;replace A1:=hW▸At.off A1 n1r 4 _;replace N7:Below w w V03:=by rw[<-hW];exact Below.setCell N7 gTr _
     clear hW lp TI TJ cp2 cp3 lr zr cr;go_wp2;rw[rounds_succ];obtain⟨lq,cq0,cq1,cq2,cq3⟩:=At.four Aq;have lr:=AP.lt;have zr:=AP.thaw 1;have cr:=AP.cell 1;simp only[ja',jb2,jb0]at cr
     go_upto_region 10 with(fail)
     generalize hW:ja4 _ _ _=V11;replace AP:At V11 Tr (.cells #[s.c 38,s.c 35,r0,(),s.c 34,()] 179):=hW▸At.set AP 1 _;replace Aq:=hW▸At.off Aq nqr 1 _;replace Ap:=hW▸At.off Ap npr 1 _;replace A0:=hW▸At.off A0 n0r 1 _;replace A1:=hW▸At.off A1 n1r 1 _;replace N7:Below w w V11:=by rw[<-hW];exact Below.setCell N7 gTr _
     clear hW lq cq0 cq1 cq2 cq3 lr zr cr;obtain⟨lq,cq0,cq1,cq2,cq3⟩:=At.four Aq;obtain⟨l0,aA,aB,aY,dP,iX,iY,nL⟩:=At.seven A0;have lr:=AP.lt;have zr:=AP.thaw 3;have cr:=AP.cell 3;simp only[ja',jb2,jb0]at cr;refine yI 12 1 ?_
     (repeat (first|refine jV ?_ | refine jW ?_ (hc:=by intro w2 hS;first|with_reducible exact jI hS (eT _ _ _))|refine jX ?_))
     refine aj.dH ?_;intro w2 hS;replace AP:=AP.keep hS;replace Ap:=Ap.keep hS;replace Aq:=Aq.keep hS;replace A0:=A0.keep hS;replace A1:=A1.keep hS;replace N7:=Below.ay N7 aF hS;clear hS lq cq0 cq1 cq2 cq3 l0 aA aB aY dP iX iY nL lr zr cr;have lr:=AP.lt;have zr:=AP.thaw 3;have cr:=AP.cell 3;simp only[ja',jb2,jb0]at cr;refine vH ?_;intro K hK;go_simp;refine hK _ _ (aj.bF ?_);clear hK K
     (try rw[hr1])
     generalize hW:ja4 _ _ _=V12;replace AP:At V12 Tr (.cells #[s.c 38,s.c 35,r0,r1,s.c 34,()] 179):=hW▸At.set AP 3 _;replace Aq:=hW▸At.off Aq nqr 3 _;replace Ap:=hW▸At.off Ap npr 3 _;replace A0:=hW▸At.off A0 n0r 3 _;replace A1:=hW▸At.off A1 n1r 3 _;replace N7:Below w w V12:=by rw[<-hW];exact Below.setCell N7 gTr _
     clear hW lr zr cr;obtain⟨lp,TI,TJ,cp2,cp3⟩:=At.four Ap;have lr:=AP.lt;have zr:=AP.thaw 5;have cr:=AP.cell 5;simp only[ja',jb2,jb0]at cr
     go_upto_region 12 with(fail)
     generalize hW:ja4 _ _ _=V13;replace AP:At V13 Tr (.cells #[s.c 38,s.c 35,r0,r1,s.c 34,s.c 31] 179):=hW▸At.set AP 5 _;replace Aq:=hW▸At.off Aq nqr 5 _;replace Ap:=hW▸At.off Ap npr 5 _;replace A0:=hW▸At.off A0 n0r 5 _;replace A1:=hW▸At.off A1 n1r 5 _;replace N7:Below w w V13:=by rw[<-hW];exact Below.setCell N7 gTr _
     clear hW lp TI TJ cp2 cp3 lr zr cr;go_wp2;rw[rounds_succ];obtain⟨lr,ZA,ZB,ZC,ZE,ZF,ZG⟩:=At.six AP;obtain⟨l1,aH,aJ,dn,dw,nM,nN⟩:=At.six A1;have dZ:=A1.thaw 0;have eu:=A1.thaw 1;have eO:=A1.thaw 2;have eP:=A1.thaw 3;have oH:=A1.thaw 4;have oI:=A1.thaw 5;clear hr0 hr1;go_wp2;generalize hW:ja4 _ _ _=W9;have A2:At W9 (w.heap.size+1) (.cells #[s.c 38,s.c 35,r0,r1,s.c 34,s.c 31] 179):=hW▸At.set (At.set (At.set (At.set (At.set (At.set A1 0 _) 1 _) 2 _) 3 _) 4 _) 5 _;have hB9:Below w w W9:=by
      rw[<-hW];exact Below.setCell (Below.setCell (Below.setCell (Below.setCell (Below.setCell (Below.setCell N7 nK _) nK _) nK _) nK _) nK _) nK _
     clear hW l1 aH aJ dn dw nM nN dZ eu eO eP oH oI;obtain⟨l1,aH,aJ,dn,dw,nM,nN⟩:=At.six A2;rw[E2.out];refine bodyPost_ret (v:=.agg #[_,_,_,_,_,_]) (by simp[results,Tryz.results102,go_sem, *];first|done|exact⟨rfl,rfl⟩|exact⟨rfl,rfl,rfl,rfl,rfl,rfl⟩|rfl) rfl ⟨rfl,hB9⟩
end
def apS(sk:Re.St)(r0:Int):Int:=if Vx sk 0 r0 r0 = -1/\Fw.LJ sk 0 r0=false then Fw.byc sk r0 else Vx sk 0 r0 r0
section
variable {Y:rF} {B:Int->Fw.Bx} {F:Int->Nat} {D:Int->Prop} {KM:World->Nat->Prop} {f:Nat} {w0:World} {P0:Nat->Prop}
theorem ach(hL:xg Y B F D KM f)(hK:∀(X X':World) (b:Nat),KM X b->Below X X X'->KM X' b)(uo:∀(X X':World) (b:Nat),KM X b->Out (λq=>q≠b) X X'->KM X' b)(hR0:RO w0 Y B D KM)(hkm:Y.km<w0.heap.size)
  (k:Int) (up:Fw.Ld) (hz:D up.id) (hk:D k) (hf:F k=f) (w:World) (n:Nat) (P:Nat->Prop) (hS:qR Y B F w0 P0 n P w) (hn:n+Fw.cst B f k<maxLen) (sk s:Re.St) (hsk:(B k).sty=sk) (hs:(B up.id).sty=s) (q0 q1 r0 r1 d0 d1:Int) (hpt:prt sk s Y.ww Y.wh up.s0 up.s1=#[.int .i64 q0,.int .i64 q1,.int .i64 r0,.int .i64 r1,.int .i64 d0,.int .i64 d1]) (ly:Fw.Ld) (xS:Fw.lay B f k r0 r1 (apS sk r0) (Vx sk 1 r1 r0)=ly) :
  Calls ja0 68 #[Y.lb,k,.agg (fH up)] w λe w'=>e=.returned (.agg (fH { ly with a0:=Fw.wr (q0+OU sk 0 r0 r0 d0 ly.s0),a1:=Fw.wr (q1+OU sk 1 r1 r0 d1 ly.s1) })) /\
   ∃n' P',n'<=n+Fw.cst B f k/\qR Y B F w0 P0 n' P' w'/\(∀b,b<w.heap.size->P' b->P b)/\Out (λb=>b=Y.pm) w w':=by
 obtain⟨es0,U0,p9⟩:=(hS.ro uo hR0 hkm).Gv;have akG:=p9.lt;clear p9;have HSK:=ah hsk;have HSW:=ah hS;have wu:=ah hR0;have HN:=ah hn;have HF:=ah hf;have HLY:=ah xS;have yg:=hS.ro uo hR0 hkm;obtain⟨bk,hbk⟩:=aC (Y.bl k);have Vy:=λX (h:Below w w X)=>ahe hK k up hz hk bk hbk.symm X (yg.keep hK h) sk s hsk hs;simp only[hpt]at Vy;have hlk:=λX (h:Below w w X)=>(yg.keep hK h).look hk;simp only[hbk]at hlk;have hbx:=(yg.box k hk).1;rw[hbk,hsk]at hbx;generalize Y.vf k=vf at hbx;generalize Y.va k=va at hbx;generalize (B k).ib=ib at hbx;have qM:=ah hbx;have FN:=yg.lay
 have HNB:Hid (¬ (bk=Y.pm)):=ah (λe=>by
  obtain⟨es1,ck1,hp1⟩:=yg.Gv;rw[e]at hbx
  exact absurd (hbx.symm.trans hp1) bI)
 obtain⟨z,j0,j1,s0,s1,a0,a1⟩:=up;simp only[fH]at Vy ⊢;clear hS hsk hs hR0 hn hf xS hpt hbk hbx yg hz;go_enter Tryz.func68,Tryz.ntmps68
 go_upto_region 1 with(fail)
 generalize hW:ja5 _ _=W0;have A0:At W0 w (.cells #[z,j0,j1,s0,s1,a0,a1] 88):=hW▸At.alloc (At.new _ _) _;have A1:At W0 (w.heap.size+1) (.cells #[(),(),(),(),(),(),()] 88):=hW▸At.new' _ bI;have hB0:Below w w W0:=hW▸aD (aD aG _) _;clear hW;have KP:=FN.keep hB0;have ajg:=hlk W0 hB0;obtain⟨lY,yK,yL,AZ,Ba,Bb,Bc⟩:=At.six KP;clear KP FN hlk
 go_upto_region 2 with(fail)
 clear ajg lY yK yL AZ Ba Bb Bc;replace Vy:=Vy W0 hB0;obtain⟨l0,aA,aB,aY,dP,iX,iY,nL⟩:=At.seven A0
 go_upto_region 3 with(go_at_call 102;(with_reducible refine Vy.mono ?_);rintro e' w4 ⟨rfl,hb4⟩)
 generalize hW:ja5 _ _=w1;have AP:At w1 w4 (.cells #[q0,q1,r0,r1,d0,d1] 179):=hW▸At.new _ _;have hb5:Below W0 W0 w1:=hW▸(hb4.trans (Below.mono (aD aG _) hb4.size));have gR:=hb4.size;clear hW hb4 Vy;generalize w4.heap.size=Tr at *;have n0r:w.heap.size≠Tr:=by have:=A0.lt;omega
 have n1r:w.heap.size+1≠Tr:=by have:=A1.lt;omega
 have gTr:w.heap.size<=Tr:=by have:=A0.lt;omega
 replace A1:=A1.keep hb5;have hB1:Below w w w1:=Below.ay hB0 aF hb5;clear hB0 hb5 l0 aA aB aY dP iX iY nL A0;have CU:=ah (qM.out.keep hB1);obtain⟨lr,ZA,ZB,ZC,ZE,ZF,ZG⟩:=At.six AP;obtain⟨e0,he0⟩:=aC (Vx sk 0 r0 r0);obtain⟨e1,he1⟩:=aC (Vx sk 1 r1 r0);have aci:=λX (h:Below w1 w1 X)=>aeF bk sk vf va ib r0 r1 X (CU.out.keep h);have aaM:=λX (h:Below w1 w1 X)=>aeG bk sk vf va ib r0 r1 X (CU.out.keep h);simp only[he0]at aci;simp only[he1]at aaM;have HE0:=ah he0;have HE1:=ah he1;clear he0 he1;refine aj.iJ (λa0 a W5=>∃(Tp:Nat) (u22 u23 u24 u25 u26 u27 u28 u29 u30:Value),a={ a0 with tmps:=(((((((((a0.tmps.setIfInBounds 22 u22).setIfInBounds 23 u23).setIfInBounds 24 u24).setIfInBounds 25 u25).setIfInBounds 26 u26).setIfInBounds 27 u27).setIfInBounds 28 u28).setIfInBounds 29 u29).setIfInBounds 30 u30).setIfInBounds 9 (.pointer Tp) }/\w1.heap.size<=Tp/\At W5 Tp (.cells #[e0,e1] 81)/\Below w1 w1 W5) ?_ ?_
 . have hSd:Below w1 w1 w1.drew:=Below.drew aG
   refine jy (S:=λX=>Below w1 w1 X) 11 ?_ ?_
   . exact hSd
   intro hx;clear hSd;refine aS 0 ?_;refine aS 1 ?_;refine aS 2 ?_;refine aS 4 ?_;refine aS 5 ?_;refine aS 6 ?_;clear lr ZA ZB ZC ZE ZF ZG;generalize w1.drew=W0 at *;refine tk2 3 9 ?_ ?_
   . refine aj.Step.call eD (aci _ hx) ?_
     rintro e rP ⟨rfl,hb⟩;replace hx:=Below.ay hx aF hb;clear hb;refine⟨_,rfl,λ_=>hx,?_⟩
     (try simp only[bV,bW,bX,tks])
     refine tk2 7 9 ?_ ?_
     . refine aj.Step.call eD (aaM _ hx) ?_
       rintro e xY ⟨rfl,hb⟩;replace hx:=Below.ay hx aF hb;clear hb;refine⟨_,rfl,λ_=>hx,?_⟩
       (try simp only[bV,bW,bX,tks])
       refine aS 8 ?_;refine tk1 9 ?_;refine aj.Step.value (u:=.pointer xY) (w':=xY.alloc (.cells #[(),()] 81)) eD ?_;obtain⟨Az,vZ,Ap,hb⟩:∃w9,w9=xY.alloc (.cells #[(),()] 81)/\At w9 xY (.cells #[(),()] 81)/\Below xY xY w9:=⟨_,rfl,At.new _ _,aD aG _⟩;rw[<-vZ];clear vZ;have gp:=hx.size;obtain⟨Tp,D7⟩:=aC xY.heap.size;rw[D7]at Ap gp;rw[D7];clear D7;replace hx:=Below.ay hx aF hb;clear hb;refine⟨λ_=>hx,?_⟩
       (try simp only[bV,bW,bX,tks])
       exact Zh
     . refine aj.Step.value (u:=.pointer rP) (w':=rP.alloc (.cells #[(),()] 81)) eD ?_
       obtain⟨xY,vZ,Ap,hb⟩:∃w9,w9=rP.alloc (.cells #[(),()] 81)/\At w9 rP (.cells #[(),()] 81)/\Below rP rP w9:=⟨_,rfl,At.new _ _,aD aG _⟩;rw[<-vZ];clear vZ;have gp:=hx.size;obtain⟨Tp,D7⟩:=aC rP.heap.size;rw[D7]at Ap gp;rw[D7];clear D7;replace hx:=Below.ay hx aF hb;clear hb;refine⟨λ_=>hx,?_⟩;exact Z1s
   . refine aj.Step.value (u:=.pointer W0) (w':=W0.alloc (.cells #[(),()] 81)) eD ?_
     obtain⟨rP,vZ,Ap,hb⟩:∃w9,w9=W0.alloc (.cells #[(),()] 81)/\At w9 W0 (.cells #[(),()] 81)/\Below W0 W0 w9:=⟨_,rfl,At.new _ _,aD aG _⟩;rw[<-vZ];clear vZ;have gp:=hx.size;obtain⟨Tp,D7⟩:=aC W0.heap.size;rw[D7]at Ap gp;rw[D7];clear D7;replace hx:=Below.ay hx aF hb;clear hb;refine⟨λ_=>hx,?_⟩
     (try simp only[bV,bW,bX,tks])
     refine tk1 3 ?_;refine aj.Step.call eD (aci _ hx) ?_;rintro e xY ⟨rfl,hb⟩;replace Ap:=Ap.keep hb;replace hx:=Below.ay hx aF hb;clear hb;refine⟨_,rfl,λ_=>hx,?_⟩;exact Z1s
 . rintro a W5 ⟨Tp,u22,u23,u24,u25,u26,u27,u28,u29,u30,rfl,gp,Ap,mX⟩
   simp only[ja1,ja2,ja3];replace CU:=ah (CU.out.keep mX);have nrp:Tr≠Tp:=by have:=AP.lt;omega
   have n1p:w.heap.size+1≠Tp:=by have:=A1.lt;omega
   have gTp:w.heap.size<=Tp:=aK hB1.size gp;replace AP:=AP.keep mX;replace A1:=A1.keep mX;have AA:Below w w W5:=Below.ay hB1 aF mX;clear mX hB1 aci aaM lr ZA ZB ZC ZE ZF ZG
   go_upto_region 4 with(fail)
   obtain⟨cc,hcc⟩:∃b:Bool,decide (e0 = -1/\Fw.LJ sk 0 r0=false)=b:=⟨_,rfl⟩;have HCC:=ah hcc;clear hcc;refine aj.iJ (λa0 a W6=>∃(bb:Bool) (u31 u32 u33 u34 u35 u36 u37 u38 u39 u40 u41 u42 u43 u44:Value),a={ a0 with tmps:=((((((((((((((a0.tmps.setIfInBounds 31 u31).setIfInBounds 32 u32).setIfInBounds 33 u33).setIfInBounds 34 u34).setIfInBounds 35 u35).setIfInBounds 36 u36).setIfInBounds 37 u37).setIfInBounds 38 u38).setIfInBounds 39 u39).setIfInBounds 40 u40).setIfInBounds 41 u41).setIfInBounds 42 u42).setIfInBounds 43 u43).setIfInBounds 44 u44).setIfInBounds 45 (.bool bb) }/\Hid (bb=cc)/\Below W5 W5 W6) ?_ ?_
   . have hSd:Below W5 W5 W5.drew:=Below.drew aG
     obtain⟨lp,TI,TJ⟩:=At.two Ap;obtain⟨lr,ZA,ZB,ZC,ZE,ZF,ZG⟩:=At.six AP;have lbk:=aR.lt CU.out;by_cases hne:e0 = -1
     . subst hne
       cases hfx:Fx.dY (sk.c 3) r0 with
       | true =>
         have Wo:=ah hfx;have TK:Hid (false=cc):=ah (by rw[<-HCC.out];have e:Fw.LJ sk 0 r0=true:=hfx;rw[e];decide);exact Zr
       | false =>
         have Wo:=ah hfx;have TK:Hid (true=cc):=ah (by rw[<-HCC.out];have e:Fw.LJ sk 0 r0=false:=hfx;rw[e];decide);exact Zr
     . have TK:Hid (false=cc):=ah (by rw[<-HCC.out];simp[hne])
       have hneb:(e0 == -1)=false:=by simp[hne]
       refine jy (S:=λX=>Below W5 W5 X) 15 ?_ ?_
       . exact hSd
       intro hx;clear hSd;refine aS 0 ?_;refine aS 1 ?_;refine aS 2 ?_;refine aS 3 ?_;refine aS 4 ?_;refine aS 5 ?_;refine aS 6 ?_;refine aS 7 ?_;refine aS 8 ?_;refine aS 9 ?_;refine aS 10 ?_;refine aS 11 ?_;refine aS 12 ?_;refine aS 13 ?_;refine aS 14 ?_;refine jk ?_;exact⟨rfl,_,_,_,_,_,_,_,_,_,_,_,_,_,_,_,(by simp only[ja1,ja2,ja3];rfl),TK,hx⟩
   . rintro a W6 ⟨bb,u31,u32,u33,u34,u35,u36,u37,u38,u39,u40,u41,u42,u43,u44,rfl,TK,DN⟩
     simp only[ja1,ja2,ja3];have X9:Below w w W6:=Below.ay AA aF DN;replace CU:=ah (CU.out.keep DN);replace Ap:=Ap.keep DN;replace AP:=AP.keep DN;replace A1:=A1.keep DN;clear DN AA;have hbb:=TK.out;subst hbb;obtain⟨t0,ht0⟩:=aC (apS sk r0);have HT0:=ah ht0;have hT:(bb=true->Fw.byc sk r0=t0)/\(bb=false->e0=t0):=by
      rw[<-ht0,<-HCC.out];unfold apS;rw[HE0.out];refine⟨λh=>by rw[if_pos (by simpa using h)],λh=>by rw[if_neg (by simpa using h)]⟩
     clear ht0;have HT:=ah hT;clear hT
     go_upto_if 45 with(fail)
     go_cut []from 45 to 51 (λw2=>At w2 Tp (.cells #[t0,e1] 81)/\At w2 Tr (.cells #[q0,q1,r0,r1,d0,d1] 179)/\At w2 (w.heap.size+1) (.cells #[(),(),(),(),(),(),()] 88)/\Below w w w2)
     case first =>
      cases bb with
      | true =>
        have E:=ah (HT.out.1 rfl);clear HT TK HCC;obtain⟨lr,ZA,ZB,ZC,ZE,ZF,ZG⟩:=At.six AP
        go_wp2_with (go_at_call 105;(with_reducible refine(M9 bk sk vf va ib r0 r1 _ CU.out).mono ?_);rintro e' w7 ⟨rfl,hb⟩;replace AP:=AP.keep hb;replace A1:=A1.keep hb;replace Ap:=Ap.keep hb;obtain⟨lp,TI,TJ⟩:=At.two Ap;have zp0:=Ap.thaw 0)
        go_meet
        case rel =>
         refine⟨by rw[<-E.out];exact At.set Ap 0 _,At.off AP nrp _ _,At.off A1 n1p _ _,Below.setCell (Below.ay X9 aF hb) gTp _⟩
      | false =>
        have E:=ah (HT.out.2 rfl);clear HT TK HCC;go_wp2
        go_meet
        case rel=>exact⟨by rw[<-E.out];exact Ap,AP,A1,X9⟩
     case rest =>
      obtain⟨Ap,AP,A1,hB⟩:=hcut;have hSc:=HSW.out.after hB;have A2:=qM.out.keep hB;have hsc:=hB.size;obtain⟨yi,y0,y1,ys0,ys1,ya0,ya1⟩:=ly;have sF:=tQ hL uo wu.out hkm hSc k r0 r1 t0 e1 hk HF.out HN.out;rw[show Fw.lay B f k r0 r1 t0 e1=⟨yi,y0,y1,ys0,ys1,ya0,ya1⟩by rw[<-HT0.out,<-HE1.out];exact HLY.out]at sF;simp only[fH]at sF;obtain⟨lp,TI,TJ⟩:=At.two Ap;obtain⟨lr,ZA,ZB,ZC,ZE,ZF,ZG⟩:=At.six AP;have akH:=aR.lt qM.out;have l1:=A1.lt
      go_upto_region 7 with(go_at_call 32;(with_reducible refine sF.mono ?_);rintro e' w9 ⟨rfl,n',P',hn',Hf,hP9,Jc⟩)
      replace AP:=AP.out (M:=λb=>b=Y.pm) ak Jc;replace A1:=A1.out (M:=λb=>b=Y.pm) ak Jc;replace A2:aR w9 bk sk vf va ib:=A2.out (M:=λb=>b=Y.pm) HNB.out Jc;generalize hW:ja5 _ _=V9;have AX:At V9 w9 (.cells #[yi,y0,y1,ys0,ys1,ya0,ya1] 88):=hW▸At.new _ _;have jK:Below w9 w9 V9:=hW▸aD aG _;clear hW lp TI TJ lr ZA ZB ZC ZE ZF ZG sF Ap;have nrx:Tr≠w9.heap.size:=dK AP.lt;have n1x:w.heap.size+1≠w9.heap.size:=dK A1.lt;have nbx:bk≠w9.heap.size:=dK (aR.lt A2);replace AP:=AP.keep jK;replace A1:=A1.keep jK;replace A2:=aR.keep A2 jK;have gTx:w9.heap.size<=w9.heap.size:=aO _;obtain⟨Tx,hTx⟩:=aC w9.heap.size;rw[hTx]at AX nrx n1x nbx;have gTx:w9.heap.size<=Tx:=Nat.le_of_eq hTx;rw[hTx];clear hTx;obtain⟨b0,hb0⟩:=aC (OU sk 0 r0 r0 d0 ys0);obtain⟨b1,hb1⟩:=aC (OU sk 1 r1 r0 d1 ys1);obtain⟨x0,hx0⟩:=aC (IntKind.i64.wrap (q0+OU sk 0 r0 r0 d0 ys0));obtain⟨x1,hx1⟩:=aC (IntKind.i64.wrap (q1+OU sk 1 r1 r0 d1 ys1));have fT:Hid (Fw.wr (q0+OU sk 0 r0 r0 d0 ys0)=x0/\Fw.wr (q1+OU sk 1 r1 r0 d1 ys1)=x1):=ah ⟨by rw[<-sK,hx0],by rw[<-sK,hx1]⟩;clear hb0 hb1;go_wp2;refine wp_loop_rounds 3 ?_;rw[rounds_succ]
      go_upto_region 10 with(fail)
      obtain⟨lr,ZA,ZB,ZC,ZE,ZF,ZG⟩:=At.six AP;obtain⟨lx,cx0,CO,cx2,cx3,cx4,cx5,cx6⟩:=At.seven AX;have zx:=AX.thaw 5;refine yI 16 1 ?_
      (repeat (first|refine jV ?_ | refine jW ?_ (hc:=by intro w2 hS;first|with_reducible exact jI hS (Y8 _ _ _ _ _ _ _ _ _ _ _ _ _ Z4l))|refine jX ?_))
      refine aj.dH ?_;intro w2 hS;replace AP:=AP.keep hS;replace AX:=AX.keep hS;replace A1:=A1.keep hS;replace A2:=aR.keep A2 hS;replace jK:=Below.ay jK aF hS;clear hS lr ZA ZB ZC ZE ZF ZG lx cx0 CO cx2 cx3 cx4 cx5 cx6 zx;obtain⟨lx,cx0,CO,cx2,cx3,cx4,cx5,cx6⟩:=At.seven AX;have zx:=AX.thaw 5;refine vH ?_;intro K hK;go_simp;refine hK _ _ (aj.bF ?_);clear hK K
      (try rw[hx0])
      generalize hW:ja4 _ _ _=V0;replace AX:At V0 Tx (.cells #[yi,y0,y1,ys0,ys1,x0,ya1] 88):=hW▸At.set AX 5 _;replace AP:=hW▸At.off AP nrx 5 _;replace A1:=hW▸At.off A1 n1x 5 _;replace A2:aR V0 bk sk vf va ib:=hW▸At.off A2 nbx 5 _;replace jK:Below w9 w9 V0:=by rw[<-hW];exact Below.setCell jK gTx _
      clear hW lx cx0 CO cx2 cx3 cx4 cx5 cx6 zx;go_wp2;rw[rounds_succ]
      go_upto_region 10 with(fail)
      obtain⟨lr,ZA,ZB,ZC,ZE,ZF,ZG⟩:=At.six AP;obtain⟨lx,cx0,CO,cx2,cx3,cx4,cx5,cx6⟩:=At.seven AX;have zx:=AX.thaw 6;refine yI 16 1 ?_
      (repeat (first|refine jV ?_ | refine jW ?_ (hc:=by intro w2 hS;first|with_reducible exact jI hS (Y9 _ _ _ _ _ _ _ _ _ _ _ _ _ Z4l))|refine jX ?_))
      refine aj.dH ?_;intro w2 hS;replace AP:=AP.keep hS;replace AX:=AX.keep hS;replace A1:=A1.keep hS;replace A2:=aR.keep A2 hS;replace jK:=Below.ay jK aF hS;clear hS lr ZA ZB ZC ZE ZF ZG lx cx0 CO cx2 cx3 cx4 cx5 cx6 zx;obtain⟨lx,cx0,CO,cx2,cx3,cx4,cx5,cx6⟩:=At.seven AX;have zx:=AX.thaw 6;refine vH ?_;intro K hK;go_simp;refine hK _ _ (aj.bF ?_);clear hK K
      (try rw[hx1])
      generalize hW:ja4 _ _ _=V1;replace AX:At V1 Tx (.cells #[yi,y0,y1,ys0,ys1,x0,x1] 88):=hW▸At.set AX 6 _;replace AP:=hW▸At.off AP nrx 6 _;replace A1:=hW▸At.off A1 n1x 6 _;replace A2:aR V1 bk sk vf va ib:=hW▸At.off A2 nbx 6 _;replace jK:Below w9 w9 V1:=by rw[<-hW];exact Below.setCell jK gTx _
      clear hW lx cx0 CO cx2 cx3 cx4 cx5 cx6 zx;go_wp2;rw[rounds_succ];obtain⟨lx,cx0,CO,cx2,cx3,cx4,cx5,cx6⟩:=At.seven AX;obtain⟨l1,aH,aJ,dn,dw,nM,nN,qH⟩:=At.seven A1;have dZ:=A1.thaw 0;have eu:=A1.thaw 1;have eO:=A1.thaw 2;have eP:=A1.thaw 3;have oH:=A1.thaw 4;have oI:=A1.thaw 5;have qV:=A1.thaw 6;clear hx0 hx1;have mq:Out (λb=>b=w.heap.size+1) w9 V1:=Out.of_below jK;go_wp2;generalize hW:ja4 _ _ _=V5;have A3:At V5 (w.heap.size+1) (.cells #[yi,y0,y1,ys0,ys1,x0,x1] 88):=hW▸At.set (At.set (At.set (At.set (At.set (At.set (At.set A1 0 _) 1 _) 2 _) 3 _) 4 _) 5 _) 6 _;have jU:Out (λb=>b=w.heap.size+1) w9 V5:=by
       rw[<-hW];exact Out.set (Out.set (Out.set (Out.set (Out.set (Out.set (Out.set mq rfl _ _) rfl _ _) rfl _ _) rfl _ _) rfl _ _) rfl _ _) rfl _ _
      clear hW l1 aH aJ dn dw nM nN qH dZ eu eO eP oH oI qV;obtain⟨l1,aH,aJ,dn,dw,nM,nN,qH⟩:=At.seven A3;have hwl:=HSW.out.size;have hPl:=HSW.out.lt
      have vW:qR Y B F w0 P0 n' P' V5:=Hf.own jU λb hb e=>by
       subst e;refine⟨λh => ?_,by omega⟩;have:=hPl _ (hP9 _ ak h);omega
      have SG:Out (λb=>b=Y.pm) w V5:=Out.trans' ((Out.of_below (M:=λb=>b=Y.pm) hB).trans Jc) jU λb hb e=>by
       subst e;omega
      have HP:Hid (∀b,b<w.heap.size->P' b->P b):=ah λb hb h=>hP9 b ak h;rw[fT.out.1,fT.out.2];clear hPl;refine bodyPost_ret (v:=.agg #[_,_,_,_,_,_,_]) (by simp[results,Tryz.results68,go_sem, *];first|done|exact⟨rfl,rfl⟩|exact⟨rfl,rfl,rfl,rfl,rfl,rfl,rfl⟩|rfl) rfl ⟨rfl,n',hn',P',vW,HP.out,SG⟩
end
end Go.Proofs.YtfohooineeijkaaGreat.Fix
namespace Go.Proofs.YtfohooineeijkaaGreat.Fw
variable {B:Int->Bx}{f:Nat}
theorem N8(B:Int->Bx)(f:Nat)(z i0 i1:Int)(h:f=0->(B z).fl=[]):(cont B f z i0 i1).1.map (·.id)=(B z).fl:=by
 cases f with
 | zero=>rw[h rfl];rfl
 | succ f =>
   simp only[cont];split
   . rename_i e;rw[e];rfl
   . simp only[List.map_map]
     have e:((λx=>x.id)∘mv B i0 i1)=λx:Ld=>x.id:=funext λx=>by simp only[Function.comp,mv];split<;>rfl
     rw[e];exact Ml B f z i0 i1
def Laid(B:Int->Bx)(f:Nat)(x:Ld):Prop:=∃k r0 r1 t0 t1,x.i0=(lay B f k r0 r1 t0 t1).i0/\x.i1=(lay B f k r0 r1 t0 t1).i1
theorem Laid.same{x y:Ld}(h:Laid B f y)(h0:x.i0=y.i0)(h1:x.i1=y.i1):Laid B f x:=by
 obtain⟨k,r0,r1,t0,t1,q0,q1⟩:=h;exact⟨k,r0,r1,t0,t1,h0.trans q0,h1.trans q1⟩
theorem Laid.moved{y:Ld}(h:Laid B f y)(a b:Int):Laid B f { y with a0:=a,a1:=b }:=h.same rfl rfl
theorem Laid.aeL{y:Ld}(h:Laid B f y)(a:Int):Laid B f { y with a0:=a }:=h.same rfl rfl
theorem Laid.aeM{y:Ld}(h:Laid B f y)(a:Int):Laid B f { y with a1:=a }:=h.same rfl rfl
theorem tY(B:Int->Bx)(f:Nat)(k r0 r1 t0 t1:Int):Laid B f (lay B f k r0 r1 t0 t1):=⟨k,r0,r1,t0,t1,rfl,rfl⟩
theorem K6(B:Int->Bx)(f:Nat)(z i0 i1 high:Int)(ks:List Int):∀x∈(pV B (lay B f) z i0 i1 high ks).1,Laid B f x:=by
 unfold pV;simp only[];intro x hx;obtain⟨i,hi,rfl⟩:=List.mem_mapIdx.1 hx;refine Laid.moved ?_ _ _;have hm:=List.getElem_mem hi;generalize (_:List Ld)[i]=y at hm ⊢;split at hm
 . obtain⟨u,hu,rfl⟩:=List.mem_map.1 hm
   obtain⟨j,hj,rfl⟩:=List.mem_mapIdx.1 hu;split
   . exact tY _ _ _ _ _ _ _
   . exact tY _ _ _ _ _ _ _
 . obtain⟨j,hj,rfl⟩:=List.mem_mapIdx.1 hm
   exact tY _ _ _ _ _ _ _
theorem Ia(B:Int->Bx)(f:Nat)(z i0 i1 high:Int)(fl:List Int):∀(ps:List (Nat×Nat)) (fst:Bool) (y:Int),∀x∈(fC B (lay B f) z i0 i1 high fl fst y ps).1,Laid B f x:=by
 intro ps
 induction ps with
 | nil=>intro fst y x hx;simp[fC]at hx
 | cons p ps ih =>
   intro fst y x hx;simp only[fC,List.mem_append,List.mem_map]at hx;rcases hx with⟨u,hu,rfl⟩|hx
   . exact K6 B f z i0 i1 high _ u hu
   . exact ih _ _ x hx
theorem Vz(B:Int->Bx)(f:Nat)(z i0 i1:Int):∀x∈(kind B (lay B f) f z i0 i1).1,Laid B f x:=by
 unfold kind;split
 . unfold Ui;exact Ia B f z i0 i1 _ _ _ _ _
 . split
   . unfold uI
     intro x hx;simp only[]at hx;obtain⟨i,hi,rfl⟩:=List.mem_mapIdx.1 hx;refine Laid.moved ?_ _ _;simp only[List.getElem_mapIdx];exact tY _ _ _ _ _ _ _
   . unfold Bp
     intro x hx;simp only[]at hx;obtain⟨i,hi,rfl⟩:=List.mem_mapIdx.1 hx;refine Laid.aeM ?_ _;simp only[List.getElem_map,Eo];exact(tY B f _ _ _ _ _).aeL _
theorem VA(B:Int->Bx)(f:Nat)(z i0 i1:Int):∀x∈(cont B (f+1) z i0 i1).1,Laid B f x:=by
 intro x hx;simp only[cont]at hx;split at hx
 . simp at hx
 . obtain⟨u,hu,rfl⟩:=List.mem_map.1 hx
   obtain⟨k,r0,r1,t0,t1,h1,h2⟩:=Vz B f z i0 i1 u hu;refine⟨k,r0,r1,t0,t1,?_,?_⟩
   . rw[<-h1];unfold mv;split<;>rfl
   . rw[<-h2];unfold mv;split<;>rfl
theorem Ta{x:Ld}(h:Laid B f x):(-1<=x.i0/\x.i0<=9223372036854775807)/\-1<=x.i1/\x.i1<=9223372036854775807:=by
 obtain⟨k,r0,r1,t0,t1,h1,h2⟩:=h;rw[h1,h2];exact⟨Es _ _ _ _ _,Es _ _ _ _ _⟩
end Go.Proofs.YtfohooineeijkaaGreat.Fw
namespace Go.Proofs.YtfohooineeijkaaGreat.Fix
open Go.ChangeShapes Go.WideShapes Go.ChangeAt Go.RowKit
open Go.Proofs.Tryz renaming prog → ja0
open List renaming setIfInBounds_toArray → ja1,set_cons_zero → ja2,set_cons_succ → ja3,length_append → ja8,length_cons → jb4
open World renaming setCell → ja4,alloc → ja5
structure Pt where
 q0:Int
 q1:Int
 r0:Int
 r1:Int
 d0:Int
 d1:Int
def BN(sk s:Re.St)(ww wh s0 s1:Int):Pt:=if sk.c 1=3 then ⟨0,0,ww,wh,0,0⟩else ⟨s.c 38,s.c 35,Fw.wr (s0-Fw.wr (s.c 38+s.c 36)),Fw.wr (s1-Fw.wr (s.c 35+s.c 37)),s.c 34,s.c 31⟩
theorem aeN(sk s:Re.St)(ww wh s0 s1:Int):prt sk s ww wh s0 s1=#[.int .i64 (BN sk s ww wh s0 s1).q0,.int .i64 (BN sk s ww wh s0 s1).q1,.int .i64 (BN sk s ww wh s0 s1).r0,.int .i64 (BN sk s ww wh s0 s1).r1,.int .i64 (BN sk s ww wh s0 s1).d0,.int .i64 (BN sk s ww wh s0 s1).d1]:=by
 unfold prt BN;split<;>rfl
def QV(B:Int->Fw.Bx)(ww wh:Int)(f:Nat)(k:Int)(up:Fw.Ld):Fw.Ld :=
 let sk:=(B k).sty
 let p:=BN sk (B up.id).sty ww wh up.s0 up.s1
 let ly:=Fw.lay B f k p.r0 p.r1 (apS sk p.r0) (Vx sk 1 p.r1 p.r0)
 { ly with a0:=Fw.wr (p.q0+OU sk 0 p.r0 p.r0 p.d0 ly.s0),a1:=Fw.wr (p.q1+OU sk 1 p.r1 p.r0 p.d1 ly.s1) }
def edg(s:Re.St)(k:Fw.Ld):Fw.Ld:={ k with a0:=Fw.wr (k.a0+Fw.ed s 3),a1:=Fw.wr (k.a1+Fw.ed s 0) }
def tl(B:Int->Fw.Bx)(ww wh:Int):Nat->Fw.Ld->List Fw.Ld
 | 0,x=>[x]
 | f+1,x=>x::(((Fw.cont B (f+1) x.id x.i0 x.i1).1.flatMap λk=>tl B ww wh f (edg (B x.id).sty k))++((B x.id).ap.flatMap λk=>tl B ww wh f (QV B ww wh f k x)))
def o9(B:Int->Fw.Bx):Nat->Int->Nat
 | 0,_=>1
 | f+1,z=>Fw.cst B (f+1) z+((B z).fl.map (o9 B f)).sum+((B z).ap.map λk=>Fw.cst B f k+o9 B f k).sum
def rcv(x:Fw.Ld):Value:=.agg #[Fx.cut x.a0,Fx.cut x.a1,Fx.cut x.s0,Fx.cut x.s1]
noncomputable def mI(g:Lit->Option Value)(l:List Fw.Ld):Lit->Option Value:=l.foldl (λg x=>zQ g (.int .i64 x.id) (rcv x)) g
theorem Ah(g:Lit->Option Value)(l m:List Fw.Ld):mI g (l++m)=mI (mI g l) m:=List.foldl_append
section
variable {Y:rF} {B:Int->Fw.Bx} {F:Int->Nat} {D:Int->Prop} {W W':World} {n n' nr BO:Nat} {P P':Nat->Prop} {g g':Lit->Option Value}
theorem RO.QW(hrb:Y.rm≠Y.bm)(FP:Y.rm≠Y.km)(hrm:∃es ck,At W Y.rm (.map es ck))(h:RO W Y B D pI)(k:Out (λb=>b=Y.pm\/b=Y.rm\/W.heap.size<=b) W W')(hp:∃es ck,At W' Y.pm (.map es ck)):RO W' Y B D pI:=by
 have hkm:=h.kinds.lt;obtain⟨es0,U0,hpm⟩:=h.Gv;obtain⟨es1,ck1,hrm⟩:=hrm
 have cell:∀{b:Nat} {cs:Array Value} {T:TypeId},At W b (.cells cs T)->¬ (b=Y.pm\/b=Y.rm\/W.heap.size<=b):=λ{b cs T} ha q=>by
  rcases q with rfl|rfl|q
  . have:=At.uniq ha hpm;cases this
  . have:=At.uniq ha hrm;cases this
  . exact absurd ha.lt ak
 have ks:∀{v:Value} {l:List Int},KS W v l->KS W' v l:=λ{v l} hk=>hk.out (λg hg q=>by
  obtain⟨cur,ha⟩:=hk.rowAt hg
  exact cell ha q) k
 refine⟨h.lay.out (cell h.lay) k,?_,λz hz => ?_,?_,h.wf,hp,h.pmb,h.pmk,h.pmr⟩
 . obtain⟨n,g,h1,h2⟩:=h.boxes
   exact⟨n,g,h1.out (λq=>by
    rcases q with q|q|q
    . exact h.pmb q.symm
    . exact hrb q.symm
    . exact absurd h1.lt ak) k,h2⟩
 . obtain⟨h1,h2,h3⟩:=h.box z hz
   exact⟨At.out h1 (cell h1) k,ks h2,ks h3⟩
 . refine pI.out _ _ _ h.kinds ⟨k.1,λb hb hn => ?_⟩
   have hb':b=Y.km:=Classical.byContradiction hn;subst hb'
   exact k.2 _ hb (λq=>by
    rcases q with q|q|q
    . exact h.pmk q.symm
    . exact FP q.symm
    . omega)
structure TS(Y:rF)(B:Int->Fw.Bx)(F:Int->Nat)(D:Int->Prop)(w:World)(P:Nat->Prop)(n':Nat)(P':Nat->Prop)(BO:Nat)(g':Lit->Option Value)(W:World):Prop where
 ro:RO W Y B D pI
 kp:Kp Y B F n' P' W
 lt:∀b,P' b->b<W.heap.size
 new:∀b,P' b->P b\/w.heap.size<=b
 nrm:¬ P' Y.rm
 gm:GM 3 W Y.rm BO g'
 out:Out (λb=>b=Y.pm\/b=Y.rm\/w.heap.size<=b) w W
variable {w:World}
theorem TS.size(h:TS Y B F D w P n' P' BO g' W):w.heap.size<=W.heap.size:=h.out.size
theorem TS.own{M:Nat->Prop}(h:TS Y B F D w P n' P' BO g' W)(hrb:Y.rm≠Y.bm)(FP:Y.rm≠Y.km)(hR:RO w Y B D pI)(hrm:∃es ck,At w Y.rm (.map es ck))(k:Out M W W')(hm:∀b,b<W.heap.size->M b->¬ P' b/\w.heap.size<=b)(hr:Y.rm<w.heap.size):TS Y B F D w P n' P' BO g' W':=by
 have hk':Kp Y B F n' P' W':=h.kp.out k λb hb q=>(hm b (h.lt b hb) q).1 hb;have ho:Out (λb=>b=Y.pm\/b=Y.rm\/w.heap.size<=b) w W':=Out.trans' h.out k λb hb q => .inr (.inr (hm b (bA hb h.size) q).2);exact⟨hR.QW hrb FP hrm ho hk'.pm.2,hk',λb hb=>bA (h.lt b hb) k.size,h.new,h.nrm,h.gm.out (λq=>by have:=(hm _ (bA hr h.size) q).2;omega) k,ho⟩
theorem TS.after(h:TS Y B F D w P n' P' BO g' W)(hrb:Y.rm≠Y.bm)(FP:Y.rm≠Y.km)(hR:RO w Y B D pI)(hrm:∃es ck,At w Y.rm (.map es ck))(hr:Y.rm<w.heap.size)(k:Below W W W'):TS Y B F D w P n' P' BO g' W':=h.own hrb FP hR hrm (M:=λ_=>False) (Out.of_below k) (λ_ _ q=>q.elim) hr
theorem TS.laid{n2:Nat}{P2:Nat->Prop}(h:TS Y B F D w P n' P' BO g' W)(hrb:Y.rm≠Y.bm)(FP:Y.rm≠Y.km)(hR:RO w Y B D pI)(hrm:∃es ck,At w Y.rm (.map es ck))(hr:Y.rm<w.heap.size)(hK:Kp Y B F n2 P2 W')(hP:∀b,P2 b->P' b\/W.heap.size<=b)(k:Out (λb=>b=Y.pm) W W'):TS Y B F D w P n2 (λb=>P2 b/\b<W'.heap.size) BO g' W':=by
 have ho:Out (λb=>b=Y.pm\/b=Y.rm\/w.heap.size<=b) w W':=Out.trans' h.out k λb hb q => .inl q;have hs:=h.size
 exact⟨hR.QW hrb FP hrm ho hK.pm.2,hK.cut,λb hb=>hb.2,λb hb=>by
  rcases hP b hb.1 with q|q
  . exact h.new b q
  . exact .inr ak,λq=>by
  rcases hP _ q.1 with q|q
  . exact h.nrm q
  . omega,h.gm.out (λq=>hR.pmr q.symm) k,ho⟩
theorem TS.told{n2 nr2:Nat}{P2:Nat->Prop}{g2:Lit->Option Value}(h:TS Y B F D w P n' P' BO g' W)(hrb:Y.rm≠Y.bm)(FP:Y.rm≠Y.km)(hR:RO w Y B D pI)(hrm:∃es ck,At w Y.rm (.map es ck))(hr:Y.rm<w.heap.size)(hK:Kp Y B F n2 P2 W')(hP:∀b,P2 b->P' b\/W.heap.size<=b)(hG:GM 3 W' Y.rm nr2 g2)(k:Out (λb=>b=Y.pm\/b=Y.rm) W W'):TS Y B F D w P n2 (λb=>P2 b/\b<W'.heap.size) nr2 g2 W':=by
 have ho:Out (λb=>b=Y.pm\/b=Y.rm\/w.heap.size<=b) w W':=Out.trans' h.out k λb hb q=>by
  rcases q with q|q
  . exact .inl q
  . exact .inr (.inl q)
 have hs:=h.size
 exact⟨hR.QW hrb FP hrm ho hK.pm.2,hK.cut,λb hb=>hb.2,λb hb=>by
  rcases hP b hb.1 with q|q
  . exact h.new b q
  . exact .inr ak,λq=>by
  rcases hP _ q.1 with q|q
  . exact h.nrm q
  . omega,hG,ho⟩
end
def ldz:Array Value:=#[(),(),(),(),(),(),()]
theorem ZH(W:World):(Instr.alloc 88 true (.tuple #[])).run ja0 W=.ok (.pointer W) (W.alloc (.cells ldz 88)):=by kernel_rfl
section
variable {ops:Array Oper} {rest:List Oper} {o:Oper} {a:Act} {w:World} {Q:Exit->Act->World->Prop}
theorem Dr(hw:Region.wanted o (yielded ops a.tmps)=true)(ho:o.op=.alloc 88)(h:wpList ja0 ops Q rest (a.put o.dst (.pointer w)) (w.alloc (.cells ldz 88))):wpList ja0 ops Q (o::rest) a w :=
 fq hw (by unfold execOp;simp only[ho,Sem.run_bind,ZH,Result.andThen_ok,Sem.run_pure]) h
theorem BP(hw:Region.wanted o (yielded ops a.tmps)=true)(p y:Operand)(ho:o.op=.store 88 p y){b:Nat}(hp:a.eval p=.pointer b){x:Fw.Ld}(hy:a.eval y=.agg (fH x))(hs:At w b (.cells ldz 88))
  (h:wpList ja0 ops Q rest (a.put o.dst undef) (w.setRow b (fH x))):wpList ja0 ops Q (o::rest) a w :=
 iq (q:=0) oC hw p y ho hp hy hs (dW x) (by simp[ldz]) (pY x) (by rw[fM (cs:=ldz) (vs:=fH x) rfl];exact h)
end
theorem FQ(v:Value)(h:Int)(W:World):(Instr.field 147 (.agg #[v,h]) 0).run ja0 W=.ok v W:=by kernel_rfl
theorem acj{W:World}{v:Value}{l:List Int}{A:Option Addr}{m cp:Nat}(hv:v=.slice A m cp)(h:KS W v l):Ints W A l:=by
 obtain⟨A',c,e,hI,_⟩:=h.ints;rw[hv]at e;injection e with e1 e2 e3;rw[e1];exact hI
section
variable {Y:rF} {B:Int->Fw.Bx} {F:Int->Nat} {D:Int->Prop}
def FR(Y:rF)(B:Int->Fw.Bx)(F:Int->Nat)(D:Int->Prop)(f:Nat):Prop :=
 ∀(x:Fw.Ld) (w:World) (n:Nat) (P:Nat->Prop) (nr:Nat) (g:Lit->Option Value),D x.id->F x.id=f->Wf x.i0->Wf x.i1->RO w Y B D pI->Kp Y B F n P w->(∀b,P b->b<w.heap.size)->¬ P Y.rm->GM 3 w Y.rm nr g->n+o9 B f x.id<maxLen->nr+(tl B Y.ww Y.wh f x).length<maxLen ->
  Calls ja0 31 #[Y.lb,.agg (fH x)] w λe w'=>e=.returned (.tuple #[]) /\
   ∃n' P' BO,n'<=n+o9 B f x.id/\Kp Y B F n' P' w'/\(∀b,P' b->P b\/w.heap.size<=b)/\BO<=nr+(tl B Y.ww Y.wh f x).length/\GM 3 w' Y.rm BO (mI g (tl B Y.ww Y.wh f x))/\Out (λb=>b=Y.pm\/b=Y.rm) w w'
theorem ahf(B:Int->Fw.Bx)(ww wh:Int)(f:Nat)(x:Fw.Ld)(h:f=0->(B x.id).ap=[]):tl B ww wh f x=x::(((Fw.cont B f x.id x.i0 x.i1).1.flatMap λk=>tl B ww wh (f-1) (edg (B x.id).sty k))++((B x.id).ap.flatMap λk=>tl B ww wh (f-1) (QV B ww wh (f-1) k x))):=by
 cases f with
 | zero=>simp[tl,Fw.cont,h rfl]
 | succ f=>rfl
theorem acn(B:Int->Fw.Bx)(f:Nat)(z:Int)(h:f=0->(B z).ap=[])(h2:f=0->(B z).fl=[]):o9 B f z=Fw.cst B f z+((B z).fl.map (o9 B (f-1))).sum+((B z).ap.map λk=>Fw.cst B (f-1) k+o9 B (f-1) k).sum:=by
 cases f with
 | zero=>simp[o9,Fw.cst,h rfl,h2 rfl]
 | succ f=>rfl
theorem yE{α:Type}(c:α->Nat){l:List α}{k:Nat}(h:k<l.length):((l.take (k+1)).map c).sum=((l.take k).map c).sum+c l[k]:=by
 rw[List.take_succ_eq_append_getElem h];exact Z2k
theorem Cx{α:Type}(c:α->Nat)(l:List α)(k:Nat):((l.take k).map c).sum<=(l.map c).sum:=by
 conv=>rhs;rw[<-List.take_append_drop k l,List.map_append,List.sum_append]
 omega
theorem xA{α β:Type}(c:α->List β){l:List α}{k:Nat}(h:k<l.length):(l.take (k+1)).flatMap c=(l.take k).flatMap c++c l[k]:=by
 rw[List.take_succ_eq_append_getElem h,List.flatMap_append];simp
theorem yF{α β:Type}(c:α->List β)(l:List α)(k:Nat):((l.take k).flatMap c).length<=(l.flatMap c).length:=by
 conv=>rhs;rw[<-List.take_append_drop k l,List.flatMap_append,ja8]
 omega
theorem Tc(W:Wk B F D)(ZI:∀z,D z->∀k∈(B z).ap,D k/\F z=F k+1)(aco:∀z,D z->(B z).ap.length<=10000)(hrb:Y.rm≠Y.bm)(FP:Y.rm≠Y.km)(f:Nat)(hT:∀f',f=f'+1->FR Y B F D f'):FR Y B F D f:=by
 intro x w n P nr g hz hf h0 h1 hR Gw hP SX hG hn hnr;have N9:=hG.obj;have hrm:=hG.lt;obtain⟨es1,ck1,hrm1⟩:=hG.obj;obtain⟨es0,U0,p9⟩:=hR.Gv;have hpl:=p9.lt
 have aeO:f=0->(B x.id).fl=[]:=λe=>by
  cases hq:(B x.id).fl with
  | nil=>rfl
  | cons k l =>
    have:=(W.down x.id hz k (by rw[hq];simp)).2;omega
 have aeP:f=0->(B x.id).ap=[]:=λe=>by
  cases hq:(B x.id).ap with
  | nil=>rfl
  | cons k l =>
    have:=(ZI x.id hz k (by rw[hq];simp)).2;omega
 rw[ahf B Y.ww Y.wh f x aeP]at hnr ⊢;rw[acn B f x.id aeP aeO]at hn ⊢;obtain⟨f1,hf1⟩:=aC (f-1);rw[hf1]at hnr hn ⊢;obtain⟨kids,Oa⟩:=aC ((Fw.cont B f x.id x.i0 x.i1).1);rw[Oa]at hnr ⊢;have hki:kids.map (·.id)=(B x.id).fl:=by rw[<-Oa];exact Fw.N8 B f x.id x.i0 x.i1 aeO
 obtain⟨s,hs⟩:=aC ((B x.id).sty);obtain⟨fl,hfl⟩:=aC ((B x.id).fl);obtain⟨ap,hap⟩:=aC ((B x.id).ap);rw[hs,hap]at hnr ⊢;rw[hfl,hap]at hn;rw[hfl];rw[hfl]at hki;obtain⟨T1,hT1⟩:∃T:Fw.Ld->List Fw.Ld,(λk=>tl B Y.ww Y.wh f1 (edg s k))=T:=⟨_,rfl⟩;obtain⟨T2,hT2⟩:∃T:Int->List Fw.Ld,(λk=>tl B Y.ww Y.wh f1 (QV B Y.ww Y.wh f1 k x))=T:=⟨_,rfl⟩;obtain⟨c1,hc1⟩:∃c:Int->Nat,o9 B f1=c:=⟨_,rfl⟩;obtain⟨c2,hc2⟩:∃c:Int->Nat,(λk=>Fw.cst B f1 k+o9 B f1 k)=c:=⟨_,rfl⟩;obtain⟨cz,hcz⟩:=aC (Fw.cst B f x.id);rw[hT1,hT2]at hnr ⊢;rw[hcz,hc2]at hn ⊢;rw[hc1]at hn ⊢;have HT1:=ah hT1;have HT2:=ah hT2;have WE:=ah hc1;have HC2:=ah hc2
 have HKD:Hid (∀k∈kids,D k.id/\F k.id=f1/\FR Y B F D f1/\Wf k.i0/\Wf k.i1):=ah λk hk=>by
  have hm:k.id∈fl:=by rw[<-hki];exact List.mem_map_of_mem hk
  have h:=W.down x.id hz k.id (by rw[hfl];exact hm);have e:f=f1+1:=by omega
  rw[<-Oa,e]at hk;have hb:=Fw.Ta (Fw.VA B f1 x.id x.i0 x.i1 k hk);exact⟨h.1,by omega,hT f1 e,by rw[jZ];omega,by rw[jZ];omega⟩
 have HAD:Hid (∀k∈ap,D k/\F k=f1/\FR Y B F D f1/\xg Y B F D pI f1):=ah λk hk=>by
  have h:=ZI x.id hz k (by rw[hap];exact hk);have e:f=f1+1:=by omega
  exact⟨h.1,by omega,hT f1 e,(KZ Y W f1).2⟩
 have ahg:kids.length<=10000:=by
  have h:=W.len x.id hz;rw[hfl,<-hki,List.length_map]at h;omega
 have hla:ap.length<=10000:=by
  have h:=aco x.id hz;rw[hap]at h;exact h
 have HKI:=ah hki;have HS:=ah hs;have HAP:=ah hap;have HN:=ah hn;have HNR:=ah hnr;have HR:=ah hR;have ahh:=ah Oa;have xZ:=ah ((KZ Y W f).1);have HCZ:=ah hcz;obtain⟨b0,hb0⟩:=aC (Y.bl x.id);obtain⟨hbx,_,ahi⟩:=hR.box x.id hz;obtain⟨Aa,cpa,hva,hIa,_,_,_⟩:=ahi.ints;rw[hap]at hva;have HVA:=ah hva;rw[hb0,hs,hva]at hbx;generalize Y.vf x.id=zvf at hbx;generalize (B x.id).ib=OQ at hbx
 have n0p:b0≠Y.pm:=λe=>by
  rw[e]at hbx;exact absurd (At.uniq hbx p9) bI
 have n0r:b0≠Y.rm:=λe=>by
  rw[e]at hbx;exact absurd (At.uniq hbx hrm1) bI
 have nlr:Y.lb≠Y.rm:=λe=>by
  have h1:=hR.lay;rw[e]at h1;exact absurd (At.uniq h1 hrm1) bI
 have Vh:=hbx.lt;have hTS:TS Y B F D w P n P nr g w:=⟨hR,Gw,hP,λb h => .inl h,SX,hG,Out.refl _ _⟩;have b01:Below w w (w.alloc (.cells (fH x) 88)):=aD aG _;have A0:At (w.alloc (.cells (fH x) 88)) w.heap.size (.cells (fH x) 88):=At.new _ _;have ZJ:=hTS.after hrb FP hR N9 hrm b01;have YT:=ah (aR.keep hbx b01);have LP:=hR.wf x.id hz;clear hT1 hT2 hc1 hc2 hki hfl hap hs hn hnr Oa hbx ahi hva hIa hTS Gw hcz hR p9 hrm1 aeO aeP;have HZ:=ah hz;go_enter Tryz.func31,Tryz.ntmps31
 go_upto_region 1 with(fail)
 generalize hW:ja5 _ _=w1;have e1:w.alloc (.cells (fH x) 88)=w1:=hW;rw[e1]at b01 A0 ZJ YT;clear hW e1;have hsz:=b01.size;have hlk:=λX (h:Below w1 w1 X)=>(ZJ.ro.keep pI.keep h).look hz;simp only[hb0]at hlk;obtain⟨lY,yK,yL,AZ,Ba,Bb,Bc⟩:=At.six ZJ.ro.lay;obtain⟨lN,d0,d1,d2,d3,d4,d5,d6⟩:=At.seven (b:=w.heap.size) A0;have hSd:Below w1 w1 w1.drew:=Below.drew aG;refine jy (S:=λX=>Below w1 w1 X) 9 ?_ ?_
 . exact hSd
 intro hx;clear hSd;refine aS 0 ?_;refine aS 1 ?_;refine aS 2 ?_;refine aS 3 ?_;refine aS 4 ?_;refine aS 5 ?_;refine aS 6 ?_;refine mG 7 rfl (bU bB rfl rfl rfl (λX h=>hlk X h)) ?_;refine aS 8 ?_;refine jk ?_;have hx2:Below w1 w1 w1.drew:=hx;generalize w1.drew=w3 at *;have FT:=ZJ.after hrb FP HR.out N9 hrm hx2;have B3:=A0.keep hx2;have BM:=ah (aR.keep YT.out hx2);have abL:=hx2.size;clear hx hx2 hlk yK yL AZ Ba Bb Bc lY lN d0 d1 d2 d3 d4 d5 d6 A0 ZJ YT b01 hb0;obtain⟨lY,yK,yL,AZ,Ba,Bb,Bc⟩:=At.six FT.ro.lay;obtain⟨lN,d0,d1,d2,d3,d4,d5,d6⟩:=At.seven (b:=w.heap.size) B3;obtain⟨W5,nr5,ahj,hrun,hG5,Gq⟩:=(show GM 3 w3.drew Y.rm nr g from FT.gm.out (M:=λ_=>False) (λq=>q) ((Out.refl _ _).drew)).put (v:=rcv x) jH Tryz.underlying28 (by have:=HNR.out;simp only[jb4]at this;omega) (jh LP);have Bg:=ah hrun;have n1r:w.heap.size≠Y.rm:=by omega
 have hbr:∀X,(Instr.build 40 #[(0,.int .i64 (Fx.cut x.a0)),(1,.int .i64 (Fx.cut x.a1)),(2,.int .i64 (Fx.cut x.s0)),(3,.int .i64 (Fx.cut x.s1))]).run ja0 X=.ok (rcv x) X:=λX=>by kernel_rfl
 clear hrun
 go_upto_region 2 with(fail)
 have hSd:Out (λb=>b=Y.rm) w3 w3.drew:=(Out.refl _ _).drew;refine jy (S:=λX=>Out (λb=>b=Y.rm) w3 X) 25 ?_ ?_
 . exact hSd
 intro hx;clear hSd
 (refine aj.aV (i:=0) rfl bE bE bE bE ak (by assumption) rT ?_;(try simp only[Act.put,ja1,ja2,ja3]))
 (refine aj.aV (i:=1) rfl bE bE bE bE ak (by assumption) rT ?_;(try simp only[Act.put,ja1,ja2,ja3]))
 (refine aj.aV (i:=2) rfl bE bE bE bE ak (by assumption) rT ?_;(try simp only[Act.put,ja1,ja2,ja3]))
 (refine aj.aV (i:=3) rfl bE bE bE bE ak (by assumption) rT ?_;(try simp only[Act.put,ja1,ja2,ja3]))
 (refine aj.aV (i:=4) rfl bE bE bE bE ak (by assumption) rT ?_;(try simp only[Act.put,ja1,ja2,ja3]))
 (refine aj.aV (i:=5) rfl bE bE bE bE ak (by assumption) rT ?_;(try simp only[Act.put,ja1,ja2,ja3]))
 (refine aj.aV (i:=6) rfl bE bE bE bE ak (by assumption) rT ?_;(try simp only[Act.put,ja1,ja2,ja3]))
 (refine aj.aV (i:=7) rfl bE bE bE bE ak (by assumption) rT ?_;(try simp only[Act.put,ja1,ja2,ja3]))
 (refine aj.aV (i:=8) rfl bE bE bE bE ak (by assumption) rT ?_;(try simp only[Act.put,ja1,ja2,ja3]))
 (refine aj.aV (i:=9) rfl bE bE bE bE ak (by assumption) rT ?_;(try simp only[Act.put,ja1,ja2,ja3]))
 (refine aj.aV (i:=11) rfl bE bE bE bE ak (by assumption) rT ?_;(try simp only[Act.put,ja1,ja2,ja3]))
 (refine aj.aV (i:=12) rfl bE bE bE bE ak (by assumption) rT ?_;(try simp only[Act.put,ja1,ja2,ja3]))
 (refine aj.aV (i:=13) rfl bE bE bE bE ak (by assumption) rT ?_;(try simp only[Act.put,ja1,ja2,ja3]))
 (refine aj.aV (i:=15) rfl bE bE bE bE ak (by assumption) rT ?_;(try simp only[Act.put,ja1,ja2,ja3]))
 (refine aj.aV (i:=16) rfl bE bE bE bE ak (by assumption) rT ?_;(try simp only[Act.put,ja1,ja2,ja3]))
 (refine aj.aV (i:=17) rfl bE bE bE bE ak (by assumption) rT ?_;(try simp only[Act.put,ja1,ja2,ja3]))
 (refine aj.aV (i:=19) rfl bE bE bE bE ak (by assumption) rT ?_;(try simp only[Act.put,ja1,ja2,ja3]))
 (refine aj.aV (i:=20) rfl bE bE bE bE ak (by assumption) rT ?_;(try simp only[Act.put,ja1,ja2,ja3]))
 (refine aj.aV (i:=21) rfl bE bE bE bE ak (by assumption) rT ?_;(try simp only[Act.put,ja1,ja2,ja3]))
 refine tk1 10 ?_;refine aj.Step.call eD (fO _ _) ?_;rintro e' w9 ⟨rfl,rfl⟩;refine⟨_,rfl,λ_=>hx,?_⟩
 (try simp only[bV,bW,bX,tks])
 refine tk1 14 ?_;refine aj.Step.call eD (fO _ _) ?_;rintro e' w9 ⟨rfl,rfl⟩;refine⟨_,rfl,λ_=>hx,?_⟩
 (try simp only[bV,bW,bX,tks])
 refine tk1 18 ?_;refine aj.Step.call eD (fO _ _) ?_;rintro e' w9 ⟨rfl,rfl⟩;refine⟨_,rfl,λ_=>hx,?_⟩
 (try simp only[bV,bW,bX,tks])
 refine tk1 22 ?_;refine aj.Step.call eD (fO _ _) ?_;rintro e' w9 ⟨rfl,rfl⟩;refine⟨_,rfl,λ_=>hx,?_⟩
 (try simp only[bV,bW,bX,tks])
 (refine aj.aV (i:=23) rfl bE bE bE bE ak (by assumption) rT ?_;(try simp only[Act.put,ja1,ja2,ja3]))
 refine tk1 24 ?_;refine aj.Step.skip (rG (.tmp 21) (.tmp 24) (.tmp 41) rfl rfl rfl rfl Bg.out) ?_;have K8:Out (λb=>b=Y.rm) w3 W5:=((Out.refl _ w3).drew).trans Gq;refine⟨λ_=>K8,?_⟩
 (try simp only[bV,bW,bX,tks])
 refine jk ?_;clear hx hbr Bg;have B5:=B3.out (M:=λb=>b=Y.rm) n1r K8;have Hy:=ah (At.out (M:=λb=>b=Y.rm) BM.out n0r K8)
 have ZK:TS Y B F D w P n P nr5 (zQ g (.int .i64 x.id) (rcv x)) W5 :=
  FT.told hrb FP HR.out N9 hrm (FT.kp.out K8 λb hb e=>FT.nrm (e▸hb)) (λb h => .inl h) hG5 (K8.mono λb _ h => .inr h) |> λh=>⟨h.ro,FT.kp.out K8 λb hb e=>FT.nrm (e▸hb),λb hb=>bA (FT.lt b hb) K8.size,FT.new,FT.nrm,hG5,h.out⟩
 have hsz5:=K8.size;clear FT B3 BM K8 Gq hG5 yK yL AZ Ba Bb Bc lY lN d0 d1 d2 d3 d4 d5 d6;obtain⟨lN,d0,d1,d2,d3,d4,d5,d6⟩:=At.seven (b:=w.heap.size) B5;have pK:=xZ.out x.id x.i0 x.i1 W5 n P HZ.out hf h0 h1 ZK.ro ZK.kp ZK.lt (by have:=HN.out;have:=HCZ.out;omega);rw[HCZ.out]at pK;have hfc:=λ(v:Value) (h:Int) (X:World)=>FQ v h X;have ahk:=ah ZK;clear ZK
 go_upto_region 4 with(go_at_call 67;(with_reducible refine pK.mono ?_);rintro e' w6 ⟨v,n2,P2,rfl,hcv,hn2,hK2,hP2,jM⟩;obtain⟨Ak,cpk,rfl,hld⟩:=hcv;rw[ahh.out]at hld ⊢)
 obtain⟨kl,hkl⟩:=aC kids.length;rw[hkl]at ahg;rw[hkl];have HKL:=ah hkl;have Ob:fl.length=kl:=by rw[<-HKI.out,List.length_map,hkl]
 have VB:=ah Ob;have hs6:=jM.size;have acp:=ahk.out.laid hrb FP HR.out N9 hrm hK2 hP2 jM;have B6:=B5.out (M:=λb=>b=Y.pm) ak jM;have NI:=ah (At.out (M:=λb=>b=Y.pm) Hy.out n0p jM);obtain⟨bK,csK,hrow⟩:∃bK csK,kids=[]\/(Ak=some ⟨bK,0,none⟩/\At w6 bK (.cells csK 88)/\∀i (h:i<kids.length) j,j<7->csK[i*7+j]? = (fH kids[i])[j]?):=by
  rcases hld with h|⟨b,cs,e1,_,e2,e3⟩
  . exact⟨0,#[],.inl h⟩
  . exact⟨b,cs,.inr ⟨e1,e2,e3⟩⟩
 obtain⟨N6,hN6⟩:=aC w6.heap.size;have HN6:=ah hN6
 have CP:Hid (kids≠[]->Ak=some ⟨bK,0,none⟩/\bK<N6/\bK≠Y.pm/\bK≠Y.rm/\∀i (h:i<kids.length) j,j<7->csK[i*7+j]? = (fH kids[i])[j]?):=ah λhne=>by
  rcases hrow with h|⟨e1,e2,e3⟩
  . exact absurd h hne
  . refine⟨e1,by rw[<-hN6];exact e2.lt,λe => ?_,λe => ?_,e3⟩
    . obtain⟨es,ck,hp⟩:=acp.ro.Gv
      rw[e]at e2;exact absurd (At.uniq e2 hp) bI
    . obtain⟨es,ck,hp⟩:=acp.gm.obj
      rw[e]at e2;exact absurd (At.uniq e2 hp) bI
 have ahl:Hid (kids≠[]->At w6 bK (.cells csK 88)):=ah λhne=>by
  rcases hrow with h|⟨e1,e2,e3⟩
  . exact absurd h hne
  . exact e2
 have HC6:Hid (zQ g (.int .i64 x.id) (rcv x)=mI (zQ g (.int .i64 x.id) (rcv x)) ((kids.take 0).flatMap T1)):=ah (by simp[mI]);have hNw:w.heap.size<N6:=by have:=B6.lt;omega
 clear hkl Ob hld hrow hK2 hP2 jM B5 Hy ahk pK lN d0 d1 d2 d3 d4 d5 d6 hfc hN6
 go_loopw [48] (λiv wr=>∃(i n':Nat) (P':Nat->Prop) (BO:Nat) (g':Lit->Option Value),i<=kl/\iv=.int .i64 i/\n'<=n+cz+((fl.take i).map c1).sum/\BO<=nr+1+((kids.take i).flatMap T1).length/\TS Y B F D w P n' P' BO g' wr/\Hid (g'=mI (zQ g (.int .i64 x.id) (rcv x)) ((kids.take i).flatMap T1))/\At wr w (.cells (fH x) 88)/\Hid (aR wr b0 s zvf (.slice Aa ap.length cpa) OQ)/\Hid (kids≠[]->At wr bK (.cells csK 88))/\N6<=wr.heap.size) (λiv _=>kl-(intOf iv).toNat)
 case atStart=>exact⟨0,n2,_,nr5,_,gF _,rfl,by simpa using hn2,by simpa using ahj,acp,HC6,B6,NI,ahl,by rw[HN6.out];exact aO _⟩
 case round =>
  clear acp HC6 B6 NI ahl hn2 ahj;obtain⟨i,n',P',BO,g',hi,rfl,hn',ZL,Ib,hgg,A0,xO,hAK,Gx⟩:=hrel;by_cases hlt:i<kl
  . have hltz:(i:Int)<(kl:Int):=by omega
    have hik:i<kids.length:=by rw[HKL.out];exact hlt
    have ajh:i<fl.length:=by rw[VB.out];exact hlt
    have hne:kids≠[]:=λe=>by rw[e]at hik;simp at hik
    obtain⟨rfl,lK5,nKp,nKr,ahm⟩:=CP.out hne;obtain⟨k0,hk0⟩:=aC (kids[i]);have hkd:=ah (HKD.out k0 (hk0▸List.getElem_mem _))
    have HKC:Hid (∀j,j<7->wr.cell? ⟨bK,i*7+j,none⟩=(fH k0)[j]?):=ah λj hj=>by
     rw[(hAK.out hne).cell,<-hk0];exact ahm i hik j hj
    have aeQ:fl[i]=k0.id:=by
     have e:=HKI.out;rw[<-hk0];simp only[<-e,List.getElem_map]
    have HID:=ah aeQ;have HK0:=ah hk0;have xB:=ah Ib;have lKr:=(hAK.out hne).lt;have abZ:((fl.take (i+1)).map c1).sum=((fl.take i).map c1).sum+c1 k0.id:=by rw[yE c1 ajh,aeQ]
    have agj:=Cx c1 fl (i+1);have QX:(kids.take (i+1)).flatMap T1=(kids.take i).flatMap T1++T1 k0:=by rw[xA T1 hik,hk0]
    have aeR:=yF T1 kids (i+1);rw[QX,ja8]at aeR;have ZM:=ah QX;have hnn:=HN.out;have aeS:=HNR.out;rw[jb4,ja8]at aeS;clear hk0 aeQ Ib ahm QX
    go_upto_region 6 with(first|(refine fQ BF oC bB _ rfl rfl (dW k0) HKC.out ?_)|(refine Dr bB rfl ?_)|(refine BP bB _ _ rfl rfl rfl Z4u ?_))
    generalize hW:World.setRow _ _ _=W7;obtain⟨K,hKq⟩:=aC wr.heap.size;have AK:At W7 K (.cells (fH k0) 88):=hW▸hKq▸At.setRow (At.new _ _) _;have pG:Below wr wr W7:=hW▸aU (aD aG _) aF _;have gK:wr.heap.size<=K:=Nat.le_of_eq hKq;rw[hKq];clear hW hKq lKr;have aeT:=ah (aR.keep xO.out pG);have n0K:b0≠K:=by omega
    go_wp2;refine wp_loop_rounds 3 ?_;rw[rounds_succ];obtain⟨lb7,q55,q56,q57,q58,q59,q60,c67,c68⟩:=At.bx0 aeT.out;obtain⟨lK,QY,QZ,Q0,Q5,Q6,Q7,Q8⟩:=At.seven (b:=K) AK;have zK5:=AK.thaw 5;clear q55 q56 q57 q58 q59 q60 c68
    go_upto_region 9 with(fail)
    refine yI 14 1 ?_
    (repeat (first|refine jV ?_ | refine jW ?_ (hc:=by intro w2 hS;first|with_reducible exact jI hS (jE _))|refine jX ?_))
    refine aj.dH ?_;intro w2 hS;clear lb7 c67 lK QY QZ Q0 Q5 Q6 Q7 Q8 zK5;replace AK:=At.keep AK hS;have ahn:=ah (aR.keep aeT.out hS);have yc:=Below.ay pG aF hS;obtain⟨lK,QY,QZ,Q0,Q5,Q6,Q7,Q8⟩:=At.seven (b:=K) AK;have zK5:=AK.thaw 5;clear hS aeT pG;refine vH ?_;intro K hK;go_simp;refine hK _ _ (aj.bF ?_);clear hK K;generalize hW:ja4 _ _ _=W9;obtain⟨p0,hp0⟩:=aC (IntKind.i64.wrap (k0.a0+Fw.ed s 3));have AK9:At W9 K (.cells (fH { k0 with a0:=p0 }) 88):=by
     rw[<-hW,<-hp0];exact At.set AK 5 _
    have iM:Below wr wr W9:=by
     rw[<-hW];exact Below.setCell yc gK _
    have NQ:=ah (show aR W9 b0 s zvf (.slice Aa ap.length cpa) OQ from hW▸At.off ahn.out n0K 5 _);clear hW lK QY QZ Q0 Q5 Q6 Q7 Q8 zK5 AK ahn yc;go_wp2;rw[rounds_succ];obtain⟨lb7,q61,q62,q63,q64,q65,q66,c69,c70⟩:=At.bx1 NQ.out;obtain⟨lK,QY,QZ,Q0,Q5,Q6,Q7,Q8⟩:=At.seven (b:=K) AK9;have zK6:=AK9.thaw 6;clear q61 q62 q63 q64 q65 q66 c70
    go_upto_region 9 with(fail)
    refine yI 14 1 ?_
    (repeat (first|refine jV ?_ | refine jW ?_ (hc:=by intro w2 hS;first|with_reducible exact jI hS (jE _))|refine jX ?_))
    refine aj.dH ?_;intro w2 hS;clear lb7 c69 lK QY QZ Q0 Q5 Q6 Q7 Q8 zK6;replace AK9:=At.keep AK9 hS;have jK:=Below.ay iM aF hS;obtain⟨lK,QY,QZ,Q0,Q5,Q6,Q7,Q8⟩:=At.seven (b:=K) AK9;have zK6:=AK9.thaw 6;clear hS NQ iM;refine vH ?_;intro K hK;go_simp;refine hK _ _ (aj.bF ?_);clear hK K;generalize hW:ja4 _ _ _=Dn;obtain⟨p1,hp1⟩:=aC (IntKind.i64.wrap (k0.a1+Fw.ed s 0));obtain⟨k1,hk1⟩:∃k:Fw.Ld,{ k0 with a0:=p0,a1:=p1 }=k:=⟨_,rfl⟩;have aho:At Dn K (.cells (fH k1) 88):=by
     rw[<-hW,<-hk1,<-hp1];exact At.set AK9 6 _
    have iA:Below wr wr Dn:=by
     rw[<-hW];exact Below.setCell jK gK _
    have HED:Hid (edg s k0=k1):=ah (by unfold edg;rw[<-sK (k0.a0+_),<-sK (k0.a1+_),hp0,hp1,hk1]);have ahp:k1.id=k0.id/\k1.i0=k0.i0/\k1.i1=k0.i1:=by rw[<-hk1];exact⟨rfl,rfl,rfl⟩
    have VD:=ah ahp;clear hW lK QY QZ Q0 Q5 Q6 Q7 Q8 zK6 AK9 jK hp0 hp1 hk1 ahp;go_wp2;rw[rounds_succ];have FU:=ah (xB.out.after hrb FP HR.out N9 hrm iA);have A11:=A0.keep iA;have xw:=ah (aR.keep xO.out iA);have adf:Hid (kids≠[]->At Dn bK (.cells csK 88)):=ah λh=>(hAK.out h).keep iA;have akI:=iA.size;have adg:Hid (∀j,j<7->Dn.cell? ⟨K,0+j,none⟩=(fH k1)[j]?):=ah λj hj=>by rw[Nat.zero_add];exact aho.cell j
    have aeU:T1 k0=tl B Y.ww Y.wh f1 k1:=by rw[<-HT1.out,<-HED.out]
    have acr:=hkd.out.2.2;have oD:=acr.1 k1 Dn n' P' BO g' (by rw[VD.out.1];exact hkd.out.1) (by rw[VD.out.1];exact hkd.out.2.1) (by rw[VD.out.2.1];exact acr.2.1) (by rw[VD.out.2.2];exact acr.2.2) FU.out.ro FU.out.kp FU.out.lt FU.out.nrm FU.out.gm (by rw[VD.out.1,WE.out];omega) (by rw[<-aeU];omega);rw[VD.out.1,WE.out,<-aeU]at oD;clear aeU acr;clear xB hAK xO A0 iA
    go_upto_region 12 with(first|(refine fQ BF oC bB _ rfl rfl (dW k1) adg.out ?_)|(go_at_call 31;(with_reducible refine oD.mono ?_);rintro e' xY ⟨rfl,n3,P3,nr3,hn3,hK3,hP3,ahq,hG3,hO3⟩))
    have ZN:=FU.out.told hrb FP HR.out N9 hrm hK3 hP3 hG3 hO3;have akJ:=hO3.size;have A12:=A11.out (M:=λb=>b=Y.pm\/b=Y.rm) ak hO3;have Jk:=ah (At.out (M:=λb=>b=Y.pm\/b=Y.rm) xw.out ak hO3);have ahr:Hid (kids≠[]->At xY bK (.cells csK 88)):=ah λh=>(adf.out h).out (M:=λb=>b=Y.pm\/b=Y.rm) ak hO3;have ZO:Hid (mI g' (T1 k0)=mI (zQ g (.int .i64 x.id) (rcv x)) ((kids.take (i+1)).flatMap T1)):=ah (by rw[ZM.out,Ah,<-hgg.out]);have hlen:((kids.take (i+1)).flatMap T1).length=((kids.take i).flatMap T1).length+(T1 k0).length:=by rw[ZM.out,ja8]
    clear FU hK3 hP3 hG3 hO3 A11 xw adf oD aho HKC adg hgg;go_wp2
    go_roundw
    case rel=>exact⟨i+1,n3,_,nr3,_,by omega,by go_num,by omega,by omega,ZN,ZO,A12,Jk,ahr,by omega⟩
    case measure=>simp[intOf];omega
  . obtain rfl:i=kl:=by omega
    have htk:kids.take i=kids:=List.take_of_length_le (by rw[HKL.out];exact aO _);have htf:fl.take i=fl:=List.take_of_length_le (by rw[VB.out];exact aO _);rw[htk]at ZL hgg;rw[htf]at hn';have xB:=ah Ib;obtain⟨al,hal⟩:=aC ap.length;rw[hal]at hla;have HAL:=ah hal;have LG:=aR.lt xO.out;have c72:wr.cell? ⟨b0,72,none⟩=some (.slice Aa ap.length cpa):=aR.ext xO.out 17;rw[hal]at c72;clear hal Ib hAK htk htf hlt
    go_upto_region 14 with(fail)
    clear c72 LG;have ahs:Hid (g'=mI (zQ g (.int .i64 x.id) (rcv x)) (kids.flatMap T1++(ap.take 0).flatMap T2)):=ah (by simpa using hgg.out);have hn0:=hn';have aht:=ZL;have ahu:=xB.out
    go_loopw [79] (λiv wr=>∃(i n':Nat) (P':Nat->Prop) (BO:Nat) (g':Lit->Option Value),i<=al/\iv=.int .i64 i/\n'<=n+cz+(fl.map c1).sum+((ap.take i).map c2).sum/\BO<=nr+1+(kids.flatMap T1).length+((ap.take i).flatMap T2).length/\TS Y B F D w P n' P' BO g' wr/\Hid (g'=mI (zQ g (.int .i64 x.id) (rcv x)) (kids.flatMap T1++(ap.take i).flatMap T2))/\At wr w (.cells (fH x) 88)) (λiv _=>al-(intOf iv).toNat)
    case atStart=>exact⟨0,n',P',BO,g',gF _,rfl,by simpa using hn0,by simpa using aht,ahu,ahs,A0⟩
    case round =>
     clear ahu ahs A0 hn0 aht xB hgg xO hn' ZL;obtain⟨j,n',P',BO,g',hj,rfl,hn',ZL,Ib,hgg,A0⟩:=hrel;by_cases hlt:j<al
     . have hltz:(j:Int)<(al:Int):=by omega
       have hja:j<ap.length:=by rw[HAL.out];exact hlt
       have hIa:=acj HVA.out (Ib.ro.box x.id HZ.out).2.2;rw[HAP.out]at hIa;obtain⟨b2,o2,rfl,lb2,cb2⟩:=hIa.at_ hja;obtain⟨kid,sJ⟩:=aC (ap[j]);rw[show ap.getD j 0=kid by rw[<-sJ,List.getD,List.getElem?_eq_getElem hja];rfl]at cb2;have had:=ah (HAD.out kid (sJ▸List.getElem_mem _));have xB:=ah Ib;have abZ:((ap.take (j+1)).map c2).sum=((ap.take j).map c2).sum+c2 kid:=by rw[yE c2 hja,sJ]
       have agj:=Cx c2 ap (j+1);have QX:(ap.take (j+1)).flatMap T2=(ap.take j).flatMap T2++T2 kid:=by rw[xA T2 hja,sJ]
       have aeR:=yF T2 ap (j+1);rw[QX,ja8]at aeR;have ZM:=ah QX;have hnn:=HN.out;have aeS:=HNR.out;rw[jb4,ja8]at aeS;have akK:c2 kid=Fw.cst B f1 kid+o9 B f1 kid:=by rw[<-HC2.out]
       have aeV:T2 kid=tl B Y.ww Y.wh f1 (QV B Y.ww Y.wh f1 kid x):=by rw[<-HT2.out]
       clear hIa sJ Ib QX
       go_upto_region 16 with(fail)
       clear cb2 lb2;have HXC:Hid (∀j,j<7->wr.cell? ⟨w,0+j,none⟩=(fH x)[j]?):=ah λj hj=>by rw[Nat.zero_add];exact A0.cell j
       have lNr:=A0.lt;obtain⟨y,hy⟩:=aC (QV B Y.ww Y.wh f1 kid x);have ahv:y.id=kid/\Wf y.i0/\Wf y.i1:=by
        rw[<-hy];have hb:=Fw.Ta ((Fw.tY B f1 kid (BN (B kid).sty (B x.id).sty Y.ww Y.wh x.s0 x.s1).r0 (BN (B kid).sty (B x.id).sty Y.ww Y.wh x.s0 x.s1).r1 (apS (B kid).sty (BN (B kid).sty (B x.id).sty Y.ww Y.wh x.s0 x.s1).r0) (Vx (B kid).sty 1 (BN (B kid).sty (B x.id).sty Y.ww Y.wh x.s0 x.s1).r1 (BN (B kid).sty (B x.id).sty Y.ww Y.wh x.s0 x.s1).r0)));exact⟨rfl,by rw[jZ];unfold QV;simp only[];omega,by rw[jZ];unfold QV;simp only[];omega⟩
       have HYI:=ah ahv;have vV:Calls ja0 68 #[Y.lb,kid,.agg (fH x)] wr λe w'=>e=.returned (.agg (fH y))/\∃n2 P2,n2<=n'+Fw.cst B f1 kid/\Kp Y B F n2 P2 w'/\(∀b,P2 b->P' b\/wr.heap.size<=b)/\Out (λb=>b=Y.pm) wr w':=by
        rw[<-hy]
        exact(ach had.out.2.2.2 pI.keep pI.out xB.out.ro xB.out.ro.kinds.lt kid x HZ.out had.out.1 had.out.2.1 wr n' P' (qR.start xB.out.kp xB.out.lt) ak (B kid).sty (B x.id).sty rfl rfl _ _ _ _ _ _ (aeN (B kid).sty (B x.id).sty Y.ww Y.wh x.s0 x.s1) _ rfl).mono λe w' ⟨he,n2,P2,h1,h2,h3,h4⟩=>⟨he,n2,P2,h1,h2.kp,λb hb=>by
         by_cases hq:b<wr.heap.size
         . exact .inl (h3 b hq hb)
         . exact .inr ak,h4⟩
       have oD:∀X n2 P2,TS Y B F D w P n2 P2 BO g' X->n2<=n'+Fw.cst B f1 kid->Calls ja0 31 #[Y.lb,.agg (fH y)] X λe w'=>e=.returned (.tuple #[])/\∃n3 P3 nr3,n3<=n2+o9 B f1 kid/\Kp Y B F n3 P3 w'/\(∀b,P3 b->P2 b\/X.heap.size<=b)/\nr3<=BO+(T2 kid).length/\GM 3 w' Y.rm nr3 (mI g' (T2 kid))/\Out (λb=>b=Y.pm\/b=Y.rm) X w':=λX n2 P2 h h2=>by
        have hq:=had.out.2.2.1 y X n2 P2 BO g' (by rw[HYI.out.1];exact had.out.1) (by rw[HYI.out.1];exact had.out.2.1) HYI.out.2.1 HYI.out.2.2 h.ro h.kp h.lt h.nrm h.gm (by rw[HYI.out.1];omega) (by rw[<-hy,<-aeV];omega);rw[HYI.out.1,<-hy,<-aeV,hy]at hq;exact hq
       clear aeV hy ahv
       go_upto_region 17 with(first|(refine fQ BF oC bB _ rfl rfl (dW x) HXC.out ?_)|(go_at_call 68;(with_reducible refine vV.mono ?_);rintro e' w8 ⟨rfl,n2,P2,hn2,hK2,hP2,hO2⟩;have aeW:=xB.out.laid hrb FP HR.out N9 hrm hK2 hP2 hO2;have adh:=oD w8 n2 _ aeW hn2;have ahw:=ah aeW;clear aeW)|(go_at_call 31;(with_reducible refine adh.mono ?_);rintro e' xY ⟨rfl,n3,P3,nr3,hn3,hK3,hP3,ahq,hG3,hO3⟩))
       have ZN:=ahw.out.told hrb FP HR.out N9 hrm hK3 hP3 hG3 hO3;have hs8:=hO2.size;have A12:=(A0.out (M:=λb=>b=Y.pm) ak hO2).out (M:=λb=>b=Y.pm\/b=Y.rm) ak hO3;have ZO:Hid (mI g' (T2 kid)=mI (zQ g (.int .i64 x.id) (rcv x)) (kids.flatMap T1++(ap.take (j+1)).flatMap T2)):=ah (by rw[ZM.out,<-List.append_assoc,Ah,<-hgg.out]);have hlen:((ap.take (j+1)).flatMap T2).length=((ap.take j).flatMap T2).length+(T2 kid).length:=by rw[ZM.out,ja8]
       clear ahw hK3 hP3 hG3 hO3 hK2 hP2 hO2 vV oD adh HXC hgg A0 xB;go_wp2
       go_roundw
       case rel=>exact⟨j+1,n3,_,nr3,_,by omega,by go_num,by omega,by omega,ZN,ZO,A12⟩
       case measure=>simp[intOf];omega
     . obtain rfl:j=al:=by omega
       have hta:ap.take j=ap:=List.take_of_length_le (by rw[HAL.out];exact aO _);rw[hta]at hn' ZL hgg;have xB:=ah Ib;have HGG:=ah hgg.out;clear Ib hta hlt hgg A0;go_wp2;refine bodyPost_end (results_none rfl _ _ _) rfl ⟨rfl,n',P',BO,by omega,xB.out.kp,xB.out.new,by simp only[jb4,ja8];omega,?_,xB.out.out.mono λb hb q => ?_⟩
       . have h1:=xB.out.gm
         rw[HGG.out]at h1;exact h1
       . rcases q with q|q|q
         . exact .inl q
         . exact .inr q
         . omega
theorem ZP(Y:rF)(W:Wk B F D)(ZI:∀z,D z->∀k∈(B z).ap,D k/\F z=F k+1)(aco:∀z,D z->(B z).ap.length<=10000)(hrb:Y.rm≠Y.bm)(FP:Y.rm≠Y.km):∀f,FR Y B F D f:=by
 intro f
 induction f with
 | zero=>exact Tc W ZI aco hrb FP 0 λf' e=>by omega
 | succ f ih=>exact Tc W ZI aco hrb FP (f+1) λf' e=>by obtain rfl:f=f':=ak;exact ih
end
end Go.Proofs.YtfohooineeijkaaGreat.Fix
