/- Steps of the program (13); no conditions. -/
import Derived.Test.YtdnggaapcgomhaaGreatM12
set_option linter.all false
set_option maxRecDepth 100000
set_option maxHeartbeats 16000000
namespace Go.Proofs.YtdnggaapcgomhaaGreat.Fix
open Go.ChangeShapes Go.WideShapes Go.ChangeAt Go.RowKit
open Go.Proofs.Tryz renaming prog → ja0
open List renaming setIfInBounds_toArray → ja1,set_cons_zero → ja2,set_cons_succ → ja3,getElem?_toArray → jb1,getElem?_cons_succ → jb2,getElem?_cons_zero → jb4
open World renaming alloc → ja4,setCell → ja5
def Vl(s:Re.St)(y:Nat)(ry r0:Int):Int:=if Fw.Kw s y ry=true\/Fw.FH s y 0 ry=false\/Fw.FH s y 1 ry=false then -1 else max (Fw.wr (Fw.wr (Fw.wr (ry-Fw.ins s y 0 ry)-Fw.ins s y 1 ry)-Fw.mgs s y r0)) 0
theorem aeT(b:Nat)(s:Re.St)(fl ap:Value)(ib:Bool)(r0 r1:Int)(w:World)(h:aL w b s fl ap ib):Calls ja0 117 #[b,(),.agg #[r0,r1]] w λx w'=>x=.returned (.int .i64 (Vl s 0 r0 r0))/\Below w w w':=by
 have i0:∀(a b c d:Int) (w:World),(Instr.index 160 (.agg #[a,.int .i64 b,c,d]) (.int .i64 0)).run ja0 w=.ok (.agg #[a,.int .i64 b]) w:=λ_ _ _ _ _=>by kernel_rfl
 have i1:∀(a b c d:Int) (w:World),(Instr.index 160 (.agg #[a,.int .i64 b,c,d]) (.int .i64 1)).run ja0 w=.ok (.agg #[c,d]) w:=λ_ _ _ _ _=>by kernel_rfl
 obtain⟨ans,eO⟩:=aA (Vl s 0 r0 r0);rw[eO];have hfd:Fw.Kw s 0 r0=Fx.dD (s.c 3) r0:=rfl;unfold Vl at eO;rw[hfd]at eO;have eF:=ah eO;clear eO hfd;go_enter Tryz.func117,Tryz.ntmps117
 go_upto_region 1 with(fail)
 generalize hW:ja4 _ _=W0;have A0:At W0 w (.cells #[r0,r1] 95):=hW▸At.new _ _;have A2:aL W0 b s fl ap ib:=hW▸aL.alloc h _;have hB:Below w w W0:=hW▸aB aD _;clear hW h;have c0:=A0.lc
 go_upto_region 2 with((go_at_call 158;(with_reducible refine(vJ b s fl ap ib r0 r1 _ A2).mono ?_);rintro e w3 ⟨rfl,hb⟩))
 replace A0:=A0.keep hb;replace A2:=A2.keep hb;replace hB:=Below.ay hB aC hb;clear c0 hb;have c0:=A0.lc
 go_upto_region 3 with((go_at_call 158;(with_reducible refine(yL b s fl ap ib r0 r1 _ A2).mono ?_);rintro e w4 ⟨rfl,hb⟩))
 replace A0:=A0.keep hb;replace A2:=A2.keep hb;replace hB:=Below.ay hB aC hb;clear c0 hb;have c0:=A0.lc;obtain⟨l2,bS,bX,bY,bZ,cu,cK,bU,bV⟩:=At.bx0 A2;generalize Fw.ins s 0 0 r0=p0 at *;generalize Fw.ins s 0 1 r0=p1 at *;cases hfx:Fx.dD (s.c 3) r0 with
 | true =>
   have E:Hid (-1=ans):=ah (by rw[<-eF.out,hfx];simp);clear eF;exact Zb
 | false =>
   cases hg0:Fw.FH s 0 0 r0 with
   | false =>
     have E:Hid (-1=ans):=ah (by rw[<-eF.out,hg0];simp);clear eF hg0;exact Zb
   | true =>
     cases hg1:Fw.FH s 0 1 r0 with
     | false =>
       have E:Hid (-1=ans):=ah (by rw[<-eF.out,hg1];simp);clear eF hg1 hg0;exact Zb
     | true =>
       have E:Hid (max (Fw.wr (Fw.wr (Fw.wr (r0-p0)-p1)-Fw.mgs s 0 r0)) 0=ans):=ah (by rw[<-eF.out,hfx,hg0,hg1];simp);exact Zm
theorem aeU(b:Nat)(s:Re.St)(fl ap:Value)(ib:Bool)(r0 r1:Int)(w:World)(h:aL w b s fl ap ib):Calls ja0 117 #[b,.int .i64 1,.agg #[r0,r1]] w λx w'=>x=.returned (.int .i64 (Vl s 1 r1 r0))/\Below w w w':=by
 have i0:∀(a b c d:Int) (w:World),(Instr.index 160 (.agg #[a,.int .i64 b,c,d]) (.int .i64 0)).run ja0 w=.ok (.agg #[a,.int .i64 b]) w:=λ_ _ _ _ _=>by kernel_rfl
 have i1:∀(a b c d:Int) (w:World),(Instr.index 160 (.agg #[a,.int .i64 b,c,d]) (.int .i64 1)).run ja0 w=.ok (.agg #[c,d]) w:=λ_ _ _ _ _=>by kernel_rfl
 obtain⟨ans,eO⟩:=aA (Vl s 1 r1 r0);rw[eO];have hfd:Fw.Kw s 1 r1=Fx.dD (s.c 5) r1:=rfl;unfold Vl at eO;rw[hfd]at eO;have eF:=ah eO;clear eO hfd;go_enter Tryz.func117,Tryz.ntmps117
 go_upto_region 1 with(fail)
 generalize hW:ja4 _ _=W0;have A0:At W0 w (.cells #[r0,r1] 95):=hW▸At.new _ _;have A2:aL W0 b s fl ap ib:=hW▸aL.alloc h _;have hB:Below w w W0:=hW▸aB aD _;clear hW h;have c0:=A0.lc
 go_upto_region 2 with((go_at_call 158;(with_reducible refine(uP b s fl ap ib r0 r1 _ A2).mono ?_);rintro e w3 ⟨rfl,hb⟩))
 replace A0:=A0.keep hb;replace A2:=A2.keep hb;replace hB:=Below.ay hB aC hb;clear c0 hb;have c0:=A0.lc
 go_upto_region 3 with((go_at_call 158;(with_reducible refine(yh b s fl ap ib r0 r1 _ A2).mono ?_);rintro e w4 ⟨rfl,hb⟩))
 replace A0:=A0.keep hb;replace A2:=A2.keep hb;replace hB:=Below.ay hB aC hb;clear c0 hb;have c0:=A0.lc;obtain⟨l2,bS,bX,bY,bZ,cu,cK,bU,bV⟩:=At.bx1 A2;generalize Fw.ins s 1 0 r1=p0 at *;generalize Fw.ins s 1 1 r1=p1 at *;cases hfx:Fx.dD (s.c 5) r1 with
 | true =>
   have E:Hid (-1=ans):=ah (by rw[<-eF.out,hfx];simp);clear eF;exact Zb
 | false =>
   cases hg0:Fw.FH s 1 0 r1 with
   | false =>
     have E:Hid (-1=ans):=ah (by rw[<-eF.out,hg0];simp);clear eF hg0;exact Zb
   | true =>
     cases hg1:Fw.FH s 1 1 r1 with
     | false =>
       have E:Hid (-1=ans):=ah (by rw[<-eF.out,hg1];simp);clear eF hg1 hg0;exact Zb
     | true =>
       have E:Hid (max (Fw.wr (Fw.wr (Fw.wr (r1-p0)-p1)-Fw.mgs s 1 r0)) 0=ans):=ah (by rw[<-eF.out,hfx,hg0,hg1];simp);exact Zm
def Ot(s:Re.St)(y:Nat)(ry r0 pad long:Int):Int:=if Fw.FH s y 0 ry=true then Fw.wr (Fw.ins s y 0 ry+Fw.mg s y 0 r0)else if Fw.FH s y 1 ry=true then Fw.wr (Fw.wr (Fw.wr (ry-Fw.ins s y 1 ry)-Fw.mg s y 1 r0)-long)else Fw.wr (pad+Fw.mg s y 0 r0)
theorem Y2(b:Nat)(s:Re.St)(fl ap:Value)(ib:Bool)(a0 a1 r0 r1 p0 p1 long:Int)(w:World)(h:aL w b s fl ap ib):Calls ja0 120 #[b,(),.agg #[a0,a1,r0,r1,p0,p1],long] w λx w'=>x=.returned (.int .i64 (Ot s 0 r0 r0 p0 long))/\Below w w w':=by
 have i0:∀(a b c d:Int) (w:World),(Instr.index 160 (.agg #[a,.int .i64 b,c,d]) (.int .i64 0)).run ja0 w=.ok (.agg #[a,.int .i64 b]) w:=λ_ _ _ _ _=>by kernel_rfl
 have i1:∀(a b c d:Int) (w:World),(Instr.index 160 (.agg #[a,.int .i64 b,c,d]) (.int .i64 1)).run ja0 w=.ok (.agg #[c,d]) w:=λ_ _ _ _ _=>by kernel_rfl
 obtain⟨ans,eO⟩:=aA (Ot s 0 r0 r0 p0 long);rw[eO];unfold Ot at eO;have eF:=ah eO;clear eO;go_enter Tryz.func120,Tryz.ntmps120
 go_upto_region 1 with(fail)
 generalize hW:ja4 _ _=W0;have A0:At W0 w (.cells #[a0,a1,r0,r1,p0,p1] 196):=hW▸At.new _ _;have A2:aL W0 b s fl ap ib:=hW▸aL.alloc h _;have hB:Below w w W0:=hW▸aB aD _;clear hW h;have c0:=A0.lc
 go_upto_region 2 with((go_at_call 122;(with_reducible refine(fI b s fl ap ib r0 r1 _ A2).mono ?_);rintro e w3 ⟨rfl,hb⟩))
 generalize hW:ja4 _ _=W1;have A1:At W1 w3 (.cells #[Fw.mg s 0 0 r0,Fw.mg s 0 1 r0] 159):=hW▸At.new _ _;have hb2:Below W0 W0 W1:=hW▸(hb.trans (Below.mono (aB aD _) hb.size));clear hW hb;generalize w3.heap.size=T at *;replace A0:=A0.keep hb2;replace A2:=A2.keep hb2;replace hB:=Below.ay hB aC hb2;clear c0 hb2;have c0:=A0.lc;generalize Fw.mg s 0 0 r0=m0 at *;generalize Fw.mg s 0 1 r0=m1 at *
 go_upto_region 3 with((go_at_call 158;(with_reducible refine(vJ b s fl ap ib r0 r1 _ A2).mono ?_);rintro e w4 ⟨rfl,hb⟩))
 replace A0:=A0.keep hb;replace A1:=A1.keep hb;replace A2:=A2.keep hb;replace hB:=Below.ay hB aC hb;clear c0 hb;have c0:=A0.lc;have c1:=A1.lc;generalize Fw.ins s 0 0 r0=q0 at *;cases hg0:Fw.FH s 0 0 r0 with
 | true =>
   exact Z2p
 | false =>
   have HG:=ah hg0;clear hg0
   go_upto_region 6 with((go_at_call 158;(with_reducible refine(yL b s fl ap ib r0 r1 _ A2).mono ?_);rintro e w5 ⟨rfl,hb⟩))
   replace A0:=A0.keep hb;replace A1:=A1.keep hb;replace A2:=A2.keep hb;replace hB:=Below.ay hB aC hb;clear c0 hb c1;have c0:=A0.lc;have c1:=A1.lc;generalize Fw.ins s 0 1 r0=q1 at *;cases hg1:Fw.FH s 0 1 r0 with
   | true =>
     have E:Hid (Fw.wr (Fw.wr (Fw.wr (r0-q1)-m1)-long)=ans):=ah Z4k;clear eF hg1 HG
     go_upto_region 7 with(fail)
     exact Zh
   | false =>
     have E:Hid (Fw.wr (p0+m0)=ans):=ah Z4k;clear eF hg1 HG
     go_upto_region 8 with(fail)
     exact Zh
theorem Y3(b:Nat)(s:Re.St)(fl ap:Value)(ib:Bool)(a0 a1 r0 r1 p0 p1 long:Int)(w:World)(h:aL w b s fl ap ib):Calls ja0 120 #[b,.int .i64 1,.agg #[a0,a1,r0,r1,p0,p1],long] w λx w'=>x=.returned (.int .i64 (Ot s 1 r1 r0 p1 long))/\Below w w w':=by
 have i0:∀(a b c d:Int) (w:World),(Instr.index 160 (.agg #[a,.int .i64 b,c,d]) (.int .i64 0)).run ja0 w=.ok (.agg #[a,.int .i64 b]) w:=λ_ _ _ _ _=>by kernel_rfl
 have i1:∀(a b c d:Int) (w:World),(Instr.index 160 (.agg #[a,.int .i64 b,c,d]) (.int .i64 1)).run ja0 w=.ok (.agg #[c,d]) w:=λ_ _ _ _ _=>by kernel_rfl
 obtain⟨ans,eO⟩:=aA (Ot s 1 r1 r0 p1 long);rw[eO];unfold Ot at eO;have eF:=ah eO;clear eO;go_enter Tryz.func120,Tryz.ntmps120
 go_upto_region 1 with(fail)
 generalize hW:ja4 _ _=W0;have A0:At W0 w (.cells #[a0,a1,r0,r1,p0,p1] 196):=hW▸At.new _ _;have A2:aL W0 b s fl ap ib:=hW▸aL.alloc h _;have hB:Below w w W0:=hW▸aB aD _;clear hW h;have c0:=A0.lc
 go_upto_region 2 with((go_at_call 122;(with_reducible refine(fI b s fl ap ib r0 r1 _ A2).mono ?_);rintro e w3 ⟨rfl,hb⟩))
 generalize hW:ja4 _ _=W1;have A1:At W1 w3 (.cells #[Fw.mg s 1 0 r0,Fw.mg s 1 1 r0] 159):=hW▸At.new _ _;have hb2:Below W0 W0 W1:=hW▸(hb.trans (Below.mono (aB aD _) hb.size));clear hW hb;generalize w3.heap.size=T at *;replace A0:=A0.keep hb2;replace A2:=A2.keep hb2;replace hB:=Below.ay hB aC hb2;clear c0 hb2;have c0:=A0.lc;generalize Fw.mg s 1 0 r0=m0 at *;generalize Fw.mg s 1 1 r0=m1 at *
 go_upto_region 3 with((go_at_call 158;(with_reducible refine(uP b s fl ap ib r0 r1 _ A2).mono ?_);rintro e w4 ⟨rfl,hb⟩))
 replace A0:=A0.keep hb;replace A1:=A1.keep hb;replace A2:=A2.keep hb;replace hB:=Below.ay hB aC hb;clear c0 hb;have c0:=A0.lc;have c1:=A1.lc;generalize Fw.ins s 1 0 r1=q0 at *;cases hg0:Fw.FH s 1 0 r1 with
 | true =>
   exact Z2p
 | false =>
   have HG:=ah hg0;clear hg0
   go_upto_region 6 with((go_at_call 158;(with_reducible refine(yh b s fl ap ib r0 r1 _ A2).mono ?_);rintro e w5 ⟨rfl,hb⟩))
   replace A0:=A0.keep hb;replace A1:=A1.keep hb;replace A2:=A2.keep hb;replace hB:=Below.ay hB aC hb;clear c0 hb c1;have c0:=A0.lc;have c1:=A1.lc;generalize Fw.ins s 1 1 r1=q1 at *;cases hg1:Fw.FH s 1 1 r1 with
   | true =>
     have E:Hid (Fw.wr (Fw.wr (Fw.wr (r1-q1)-m1)-long)=ans):=ah Z4k;clear eF hg1 HG
     go_upto_region 7 with(fail)
     exact Zh
   | false =>
     have E:Hid (Fw.wr (p1+m0)=ans):=ah Z4k;clear eF hg1 HG
     go_upto_region 8 with(fail)
     exact Zh
theorem aeV(W:World):(isAgg 61).run ja0 W=.ok true W:=by kernel_rfl
theorem Y4(W:World):(sizeOf 160).run ja0 W=.ok 4 W:=by kernel_rfl
theorem sF(x y u v:Int):∀z∈(#[x,y,u,v]:Array Value).toList,z.oneCell'=true:=by
 intro z hz;simp at hz;rcases hz with rfl|rfl|rfl|rfl<;>rfl
theorem aeW(W:World):(sizeOf 61).run ja0 W=.ok 4 W:=by kernel_rfl
theorem Nl{ops:Array Oper}{S:World->Prop}{o:Oper}{a:Act}(p:Operand){T i:Nat}{x0 x1 x2 x3:Int}(hw:Region.wanted o (yielded ops a.tmps)=true)(ho:o.op=.load 61 p)(hp:a.eval p=.pointer (some ⟨T,i,none⟩))(h:∀X,S X->X.cell? ⟨T,i,none⟩=some (.int .i64 x0)/\X.cell? ⟨T,i+1,none⟩=some (.int .i64 x1)/\X.cell? ⟨T,i+2,none⟩=some (.int .i64 x2)/\X.cell? ⟨T,i+3,none⟩=some (.int .i64 x3)):aj.Reads ja0 ops S o (.agg #[x0,x1,x2,x3]) a :=
 .inl ⟨hw,λX hX=>fM aeV aeW p ho hp rfl λj hj=>by
  obtain⟨c0,c1,c2,c3⟩:=h X hX
  match j,hj with
  | 0,_=>exact c0
  | 1,_=>exact c1
  | 2,_=>exact c2
  | 3,_=>exact c3⟩
def prt(sb s:Re.St)(ww wh s0 s1:Int):Array Value :=
 if sb.c 1=3 then #[(),(),ww,wh,(),()]
 else #[s.c 38,s.c 35,.int .i64 (Fw.wr (s0-Fw.wr (s.c 38+s.c 36))),.int .i64 (Fw.wr (s1-Fw.wr (s.c 35+s.c 37))),s.c 34,s.c 31]
section
variable {Y:p9} {B:Int->Fw.Bx} {D:Int->Prop} {KM:World->Nat->Prop}
theorem ahu(hK:∀(X X':World) (b:Nat),KM X b->Below X X X'->KM X' b)(k:Int)(up:Fw.Ld)(hz:D up.id)(hk:D k)(bk:Nat)(hbk:bk=Y.bl k)(w:World)(hR:RO w Y B D KM)(sk s:Re.St)(hsk:(B k).sty=sk)(hs:(B up.id).sty=s) :
  Calls ja0 116 #[Y.lb,bk,.agg (dV up)] w λe w'=>e=.returned (.agg (prt sk s Y.ww Y.wh up.s0 up.s1))/\Below w w w':=by
 have HBK:=ah hbk;have HSK:=ah hsk;have HS:=ah hs;clear hbk hsk hs;obtain⟨z,j0,j1,s0,s1,a0,a1⟩:=up;obtain⟨ww,hww⟩:=aA Y.ww;obtain⟨wh,hwh⟩:=aA Y.wh;have hR':=hR;have EL:=hR.lay;rw[hww,hwh]at EL ⊢;clear hww hwh;simp only[dV];go_enter Tryz.func116,Tryz.ntmps116
 go_upto_region 1 with(fail)
 generalize hW:ja4 _ _=W0;have A0:At W0 w (.cells #[z,j0,j1,s0,s1,a0,a1] 101):=hW▸At.alloc (At.new _ _) _;have A1:At W0 (w.heap.size+1) (.cells #[(),(),(),(),(),()] 196):=hW▸At.new' _ aW;have hB0:Below w w W0:=hW▸aB (aB aD _) _;clear hW;have hR0:=hR.keep hK hB0;have hbx:=(hR0.box k hk).1;rw[<-HBK.out,HSK.out]at hbx;have c1:W0.cell? ⟨bk,1,none⟩=some (.int .i64 (sk.c 1)):=aL.int hbx 1 ak rfl;have lbk:=aL.lt hbx;have JV:=EL.keep hB0;obtain⟨lY,xC,xD,zy,zA,zB,zC⟩:=At.six JV;have c1:=A1.nM;by_cases hfx:sk.c 1=3
 . have E:Hid (prt sk s ww wh s0 s1=#[.int .i64 0,.int .i64 0,.int .i64 ww,.int .i64 wh,.int .i64 0,.int .i64 0]):=ah (by unfold prt;rw[if_pos hfx])
   clear hR0 hbx JV hR hR' EL;go_wp2;generalize hW:ja5 _ _ _=W1;have A2:At W1 (w.heap.size+1) (.cells #[(),(),ww,wh,(),()] 196):=hW▸At.set (At.set (At.set (At.set (At.set (At.set A1 0 _) 1 _) 2 _) 3 _) 4 _) 5 _;have hB1:Below w w W1:=by
    rw[<-hW];exact Below.setCell (Below.setCell (Below.setCell (Below.setCell (Below.setCell (Below.setCell hB0 lG _) lG _) lG _) lG _) lG _) lG _
   clear hW c1;have c1:=A2.lc;rw[E.out];refine bodyPost_ret (v:=.agg #[_,_,_,_,_,_]) (by simp[results,Tryz.results116,go_sem, *];first|done|exact⟨rfl,rfl⟩|exact⟨rfl,rfl,rfl,rfl,rfl,rfl⟩|rfl) rfl ⟨rfl,hB1⟩
 . have E:Hid (prt sk s ww wh s0 s1=#[.int .i64 (s.c 38),.int .i64 (s.c 35),.int .i64 (Fw.wr (s0-Fw.wr (s.c 38+s.c 36))),.int .i64 (Fw.wr (s1-Fw.wr (s.c 35+s.c 37))),.int .i64 (s.c 34),.int .i64 (s.c 31)]):=ah (by unfold prt;rw[if_neg hfx])
   go_upto_region 3 with(fail)
   clear hfx c1 lbk hbx EL;clear c1;obtain⟨b0,hb0⟩:=aA (Y.bl z);have hbz:=(hR0.box z hz).1;rw[hb0,HS.out]at hbz;have yT:=ah hbz.style;have U4:=hbz.lt;have hlk:=λX (h:Below W0 W0 X)=>(hR0.keep hK h).look hz;simp only[hb0]at hlk;clear hb0 hR' hbz;have c0:=A0.lc;have hSd:Below W0 W0 W0.drew:=Below.drew aD;refine iC (S:=λX=>Below W0 W0 X) 13 ?_ ?_
   . exact hSd
   intro hx;clear hSd;refine aF 0 ?_;refine aF 1 ?_;refine aF 2 ?_;refine aF 3 ?_;refine aF 4 ?_;refine aF 5 ?_;refine aF 6 ?_;refine jh 7 rfl (aZ aR rfl rfl rfl (λX h=>hlk X h)) ?_;refine aF 8 ?_;refine aF 9 ?_;refine jh 10 rfl (iH aR (.tmp 32) rfl rfl (λX h=>λj hj=>(h.cell (p:=⟨b0,0+j,none⟩) U4).trans (yT.out j hj))) ?_;refine tk1 11 ?_;refine aj.Step.value (jA rfl) ?_;obtain⟨w2,hw2,AS,hb2,gT⟩:∃w2,w2=W0.drew.alloc (.cells (cells Re.zero) 68)/\At w2 W0.drew (.cells (cells Re.zero) 68)/\Below W0.drew W0.drew w2/\W0.heap.size<=W0.drew.heap.size:=⟨_,rfl,At.new _ _,aB aD _,hx.size⟩;rw[<-hw2];clear hw2;replace hx:=Below.ay hx aC hb2;generalize W0.drew.heap.size=T at *;refine⟨λ_=>hx,?_⟩
   (try simp only[bM,bN,bO,tks])
   refine tk1 12 ?_;refine aj.Step.skip (jB (.tmp 7) (.tmp 33) rfl rfl rfl AS) ?_;replace AS:At (w2.setRow T (cells s)) T (.cells (cells s) 68):=At.setRow AS _;have hx2:Below W0 W0 (w2.setRow T (cells s)):=aM hx gT _;generalize w2.setRow T (cells s)=w1 at *;refine⟨λ_=>hx2,?_⟩
   (try simp only[bM,bN,bO,tks])
   refine gZ ?_;have hs1:=hx2.size;replace A0:=A0.keep hx2;replace A1:=A1.keep hx2;have hB1:Below w w w1:=Below.ay hB0 aC hx2;have HR1:True:=trivial;clear hx hx2 hb2 hlk yT U4 c0 lY xC xD zy zA zB zC JV hR0 hR;have lT:=AS.lt;have c31:w1.cell? ⟨T,31,none⟩=some (.int .i64 (s.c 31)):=(AS.cell 31).trans (bJ s ak rfl);have c32:w1.cell? ⟨T,32,none⟩=some (.int .i64 (s.c 32)):=(AS.cell 32).trans (bJ s ak rfl);have c33:w1.cell? ⟨T,33,none⟩=some (.int .i64 (s.c 33)):=(AS.cell 33).trans (bJ s ak rfl);have c34:w1.cell? ⟨T,34,none⟩=some (.int .i64 (s.c 34)):=(AS.cell 34).trans (bJ s ak rfl);have c35:w1.cell? ⟨T,35,none⟩=some (.int .i64 (s.c 35)):=(AS.cell 35).trans (bJ s ak rfl);have c36:w1.cell? ⟨T,36,none⟩=some (.int .i64 (s.c 36)):=(AS.cell 36).trans (bJ s ak rfl);have c37:w1.cell? ⟨T,37,none⟩=some (.int .i64 (s.c 37)):=(AS.cell 37).trans (bJ s ak rfl);have c38:w1.cell? ⟨T,38,none⟩=some (.int .i64 (s.c 38)):=(AS.cell 38).trans (bJ s ak rfl);have aeX:=ah (λX (h:Below w1 w1 X)=>(⟨(h.cell (p:=⟨T,31,none⟩) lT).trans c31,(h.cell (p:=⟨T,32,none⟩) lT).trans c32,(h.cell (p:=⟨T,33,none⟩) lT).trans c33,(h.cell (p:=⟨T,34,none⟩) lT).trans c34⟩:X.cell? ⟨T,31,none⟩=some (.int .i64 (s.c 31))/\X.cell? ⟨T,31+1,none⟩=some (.int .i64 (s.c 32))/\X.cell? ⟨T,31+2,none⟩=some (.int .i64 (s.c 33))/\X.cell? ⟨T,31+3,none⟩=some (.int .i64 (s.c 34))));have aeY:=ah (λX (h:Below w1 w1 X)=>(⟨(h.cell (p:=⟨T,35,none⟩) lT).trans c35,(h.cell (p:=⟨T,36,none⟩) lT).trans c36,(h.cell (p:=⟨T,37,none⟩) lT).trans c37,(h.cell (p:=⟨T,38,none⟩) lT).trans c38⟩:X.cell? ⟨T,35,none⟩=some (.int .i64 (s.c 35))/\X.cell? ⟨T,35+1,none⟩=some (.int .i64 (s.c 36))/\X.cell? ⟨T,35+2,none⟩=some (.int .i64 (s.c 37))/\X.cell? ⟨T,35+3,none⟩=some (.int .i64 (s.c 38))));clear c31 c32 c33 c34 c35 c36 c37 c38 AS
   go_upto_region 4 with(fail)
   refine aj.fQ (λa0 a W5=>∃(Tp Tq:Nat) (u34 u35 u36 u37 u38 u39:Value),a={ a0 with tmps:=(((((((a0.tmps.setIfInBounds 34 u34).setIfInBounds 35 u35).setIfInBounds 36 u36).setIfInBounds 37 u37).setIfInBounds 38 u38).setIfInBounds 39 u39).setIfInBounds 8 (.pointer Tp)).setIfInBounds 9 (.pointer Tq) }/\w1.heap.size<=Tp/\w1.heap.size<=Tq/\Tp≠Tq/\At W5 Tp (.cells #[s.c 34,s.c 32,s.c 31,s.c 33] 160)/\At W5 Tq (.cells #[s.c 38,s.c 36,s.c 35,s.c 37] 160)/\Below w1 w1 W5) ?_ ?_
   . have hSd:Below w1 w1 w1.drew:=Below.drew aD
     clear hB1 hB0 A0 A1 E;refine iC (S:=λX=>Below w1 w1 X) 10 ?_ ?_
     . exact hSd
     intro hx;clear hSd;refine aF 0 ?_;refine jh 1 rfl (Nl (.tmp 34) aR rfl rfl (λX h=>aeX.out X h)) ?_;refine aF 3 ?_;refine jh 4 rfl (Nl (.tmp 37) aR rfl rfl (λX h=>aeY.out X h)) ?_;clear lT aeX aeY;generalize w1.drew=W0 at *;refine aj.tN 4 [2,5,6,7] [36,39,8,9] (λi=>if i=5 then [2]else []) (λi=>if i=2 then aj.Rv (.agg #[s.c 34,s.c 32,s.c 31,s.c 33])else if i=5 then aj.Rv (.agg #[s.c 38,s.c 36,s.c 35,s.c 37])else aj.Ra (.cells #[(),(),(),()] 160)) ⟨⟨λ_ _ _ _ _ h _=>h,_,rfl,rfl,λW hb=>aj.Step.call eD (sW _ _ _ _ _) λ_ _ h=>⟨_,h.1,h.2,rfl⟩⟩,⟨λ_ _ _ _ _ h _=>h,_,rfl,rfl,λW hb=>aj.Step.call eD (sW _ _ _ _ _) λ_ _ h=>⟨_,h.1,h.2,rfl⟩⟩,⟨λ_ _ _ _ _ h hb=>aj.Ra.keep h hb,_,rfl,rfl,λW hb=>aj.Ra.made eD⟩,⟨λ_ _ _ _ _ h hb=>aj.Ra.keep h hb,_,rfl,rfl,λW hb=>aj.Ra.made eD⟩,trivial⟩ (λX h=>Below.ay hx aC h) ?_;intro vs q0 e0 W hb hI hp;have e2:vs 2=_:=(hI 2 aW).2.2;have e5:vs 5=_:=(hI 5 aW).2.2;obtain⟨gp,-, e6,lp,Ap⟩:=hI 6 aW;obtain⟨gq,-, e7,lq,Aq⟩:=hI 7 aW;have ED:=hp 6 aW 7 aW aG
     (try simp only[aj.mU,aj.oG,aj.jC,aj.mR,List.map_cons,List.map_nil,e2,e5,e6,e7]);(try simp only[bM,bN,bO,tks])
     generalize q0 6=Tp at *;generalize q0 7=Tq at *;replace ED:Tp≠Tq:=by omega
     replace gp:=aJ hx.size gp;replace gq:=aJ hx.size gq;replace hx:=Below.ay hx aC hb;clear hI hp hb e2 e5 e6 e7 lp lq;refine tk1 8 ?_;refine aj.Step.skip (aY (q:=0) Y4 (.tmp 8) (.tmp 36) rfl rfl rfl Ap rfl aW (sF _ _ _ _)) ?_;rw[dZ (cs:=#[(),(),(),()]) (vs:=#[s.c 34,s.c 32,s.c 31,s.c 33]) rfl];have V4:=At.setRow Ap #[s.c 34,s.c 32,s.c 31,s.c 33];have Wt:=At.gF Aq ED.symm #[s.c 34,s.c 32,s.c 31,s.c 33];have hx1:=aM hx gp #[s.c 34,s.c 32,s.c 31,s.c 33];generalize W.setRow Tp #[.int .i64 (s.c 34),.int .i64 (s.c 32),.int .i64 (s.c 31),.int .i64 (s.c 33)]=x1 at *;refine⟨λ_=>hx1,?_⟩
     (try simp only[bM,bN,bO,tks])
     refine tk1 9 ?_;refine aj.Step.skip (aY (q:=0) Y4 (.tmp 9) (.tmp 39) rfl rfl rfl Wt rfl aW (sF _ _ _ _)) ?_;rw[dZ (cs:=#[(),(),(),()]) (vs:=#[s.c 38,s.c 36,s.c 35,s.c 37]) rfl];have Aq3:=At.setRow Wt #[s.c 38,s.c 36,s.c 35,s.c 37];have Ap3:=At.gF V4 ED #[s.c 38,s.c 36,s.c 35,s.c 37];have hx2:=aM hx1 gq #[s.c 38,s.c 36,s.c 35,s.c 37];generalize x1.setRow Tq #[.int .i64 (s.c 38),.int .i64 (s.c 36),.int .i64 (s.c 35),.int .i64 (s.c 37)]=x2 at *;refine⟨λ_=>hx2,?_⟩
     (try simp only[bM,bN,bO,tks])
     refine gZ ?_;exact⟨rfl,Tp,Tq,_,_,_,_,_,_,rfl,gp,gq,ED,Ap3,Aq3,hx2⟩
   . rintro a W5 ⟨Tp,Tq,u34,u35,u36,u37,u38,u39,rfl,gp,gq,ED,Ap,Aq,kr⟩
     simp only[ja1,ja2,ja3];have hs5:=kr.size;have zm:Below w w W5:=Below.ay hB1 aC kr;replace A0:=A0.keep kr;replace A1:=A1.keep kr;clear kr aeX aeY lT;obtain⟨r0,hr0⟩:=aA (IntKind.i64.wrap (s0-Fw.wr (s.c 38+s.c 36)));obtain⟨r1,hr1⟩:=aA (IntKind.i64.wrap (s1-Fw.wr (s.c 35+s.c 37)));have E2:Hid (prt sk s ww wh s0 s1=#[.int .i64 (s.c 38),.int .i64 (s.c 35),.int .i64 r0,.int .i64 r1,.int .i64 (s.c 34),.int .i64 (s.c 31)]):=ah (by rw[E.out,<-qK (s0-_),<-qK (s1-_),hr0,hr1]);clear E
     go_upto_region 6 with(fail)
     generalize hW:ja4 _ _=W6;have AP:At W6 W5 (.cells #[(),(),(),(),(),()] 196):=hW▸At.new _ _;have hb6:Below W5 W5 W6:=hW▸aB aD _;clear hW;have npr:Tp≠W5.heap.size:=dX Ap.lt;have nqr:Tq≠W5.heap.size:=dX Aq.lt;have n0r:w.heap.size≠W5.heap.size:=dX A0.lt;have n1r:w.heap.size+1≠W5.heap.size:=dX A1.lt;have gTr:w.heap.size<=W5.heap.size:=uO A0.lt;replace Ap:=Ap.keep hb6;replace Aq:=Aq.keep hb6;replace A0:=A0.keep hb6;replace A1:=A1.keep hb6;have Nn:=Below.ay zm aC hb6;clear hb6 hs5 zm;generalize W5.heap.size=Tr at *;go_wp2;refine wp_loop_rounds 3 ?_;rw[rounds_succ];obtain⟨lq,cq0,cq1,cq2,cq3⟩:=At.four Aq;have lr:=AP.lt;have zr:=AP.thaw 0;have cr:=AP.cell 0;simp only[jb1,jb4,jb2]at cr
     go_upto_region 10 with(fail)
     generalize hW:ja5 _ _ _=V01;replace AP:At V01 Tr (.cells #[s.c 38,(),(),(),(),()] 196):=hW▸At.set AP 0 _;replace Aq:=hW▸At.off Aq nqr 0 _;replace Ap:=hW▸At.off Ap npr 0 _;replace A0:=hW▸At.off A0 n0r 0 _;replace A1:=hW▸At.off A1 n1r 0 _;replace Nn:Below w w V01:=by rw[<-hW];exact Below.setCell Nn gTr _
     clear hW lq cq0 cq1 cq2 cq3 lr zr cr;obtain⟨lq,cq0,cq1,cq2,cq3⟩:=At.four Aq;have c0:=A0.lc;have lr:=AP.lt;have zr:=AP.thaw 2;have cr:=AP.cell 2;simp only[jb1,jb4,jb2]at cr;refine xA 12 1 ?_
     (repeat (first|refine jc ?_ | refine jd ?_ (hc:=by intro w2 hS;first|with_reducible exact iq hS (eY _ _ _))|refine je ?_))
     refine aj.bL ?_;intro w2 hS;replace AP:=AP.keep hS;replace Ap:=Ap.keep hS;replace Aq:=Aq.keep hS;replace A0:=A0.keep hS;replace A1:=A1.keep hS;replace Nn:=Below.ay Nn aC hS;clear hS lq cq0 cq1 cq2 cq3 c0 lr zr cr;have lr:=AP.lt;have zr:=AP.thaw 2;have cr:=AP.cell 2;simp only[jb1,jb4,jb2]at cr;refine wz ?_;intro K hK;go_simp;refine hK _ _ (aj.bC ?_);clear hK K
     (try rw[hr0])
     generalize hW:ja5 _ _ _=V02;replace AP:At V02 Tr (.cells #[s.c 38,(),r0,(),(),()] 196):=hW▸At.set AP 2 _;replace Aq:=hW▸At.off Aq nqr 2 _;replace Ap:=hW▸At.off Ap npr 2 _;replace A0:=hW▸At.off A0 n0r 2 _;replace A1:=hW▸At.off A1 n1r 2 _;replace Nn:Below w w V02:=by rw[<-hW];exact Below.setCell Nn gTr _
     clear hW lr zr cr;obtain⟨lp,SX,SY,cp2,cp3⟩:=At.four Ap;have lr:=AP.lt;have zr:=AP.thaw 4;have cr:=AP.cell 4;simp only[jb1,jb4,jb2]at cr
     go_upto_region 12 with(fail)
     generalize hW:ja5 _ _ _=V03;replace AP:At V03 Tr (.cells #[s.c 38,(),r0,(),s.c 34,()] 196):=hW▸At.set AP 4 _;replace Aq:=hW▸At.off Aq nqr 4 _;replace Ap:=hW▸At.off Ap npr 4 _;replace A0:=hW▸At.off A0 n0r 4 _;replace A1:=hW▸At.off A1 n1r 4 _;replace Nn:Below w w V03:=by rw[<-hW];exact Below.setCell Nn gTr _
     clear hW lp SX SY cp2 cp3 lr zr cr;go_wp2;rw[rounds_succ];obtain⟨lq,cq0,cq1,cq2,cq3⟩:=At.four Aq;have lr:=AP.lt;have zr:=AP.thaw 1;have cr:=AP.cell 1;simp only[jb1,jb4,jb2]at cr
     go_upto_region 10 with(fail)
     generalize hW:ja5 _ _ _=V11;replace AP:At V11 Tr (.cells #[s.c 38,s.c 35,r0,(),s.c 34,()] 196):=hW▸At.set AP 1 _;replace Aq:=hW▸At.off Aq nqr 1 _;replace Ap:=hW▸At.off Ap npr 1 _;replace A0:=hW▸At.off A0 n0r 1 _;replace A1:=hW▸At.off A1 n1r 1 _;replace Nn:Below w w V11:=by rw[<-hW];exact Below.setCell Nn gTr _
     clear hW lq cq0 cq1 cq2 cq3 lr zr cr;obtain⟨lq,cq0,cq1,cq2,cq3⟩:=At.four Aq;have c0:=A0.lc;have lr:=AP.lt;have zr:=AP.thaw 3;have cr:=AP.cell 3;simp only[jb1,jb4,jb2]at cr;refine xA 12 1 ?_
     (repeat (first|refine jc ?_ | refine jd ?_ (hc:=by intro w2 hS;first|with_reducible exact iq hS (eY _ _ _))|refine je ?_))
     refine aj.bL ?_;intro w2 hS;replace AP:=AP.keep hS;replace Ap:=Ap.keep hS;replace Aq:=Aq.keep hS;replace A0:=A0.keep hS;replace A1:=A1.keep hS;replace Nn:=Below.ay Nn aC hS;clear hS lq cq0 cq1 cq2 cq3 c0 lr zr cr;have lr:=AP.lt;have zr:=AP.thaw 3;have cr:=AP.cell 3;simp only[jb1,jb4,jb2]at cr;refine wz ?_;intro K hK;go_simp;refine hK _ _ (aj.bC ?_);clear hK K
     (try rw[hr1])
     generalize hW:ja5 _ _ _=V12;replace AP:At V12 Tr (.cells #[s.c 38,s.c 35,r0,r1,s.c 34,()] 196):=hW▸At.set AP 3 _;replace Aq:=hW▸At.off Aq nqr 3 _;replace Ap:=hW▸At.off Ap npr 3 _;replace A0:=hW▸At.off A0 n0r 3 _;replace A1:=hW▸At.off A1 n1r 3 _;replace Nn:Below w w V12:=by rw[<-hW];exact Below.setCell Nn gTr _
     clear hW lr zr cr;obtain⟨lp,SX,SY,cp2,cp3⟩:=At.four Ap;have lr:=AP.lt;have zr:=AP.thaw 5;have cr:=AP.cell 5;simp only[jb1,jb4,jb2]at cr
     go_upto_region 12 with(fail)
     generalize hW:ja5 _ _ _=V13;replace AP:At V13 Tr (.cells #[s.c 38,s.c 35,r0,r1,s.c 34,s.c 31] 196):=hW▸At.set AP 5 _;replace Aq:=hW▸At.off Aq nqr 5 _;replace Ap:=hW▸At.off Ap npr 5 _;replace A0:=hW▸At.off A0 n0r 5 _;replace A1:=hW▸At.off A1 n1r 5 _;replace Nn:Below w w V13:=by rw[<-hW];exact Below.setCell Nn gTr _
     clear hW lp SX SY cp2 cp3 lr zr cr;go_wp2;rw[rounds_succ];obtain⟨lr,Y5,Y6,Y7,Y8,Y9,Y'⟩:=At.six AP;have c1:=A1.nM;clear hr0 hr1;go_wp2;generalize hW:ja5 _ _ _=W9;have A2:At W9 (w.heap.size+1) (.cells #[s.c 38,s.c 35,r0,r1,s.c 34,s.c 31] 196):=hW▸At.set (At.set (At.set (At.set (At.set (At.set A1 0 _) 1 _) 2 _) 3 _) 4 _) 5 _;have hB9:Below w w W9:=by
      rw[<-hW];exact Below.setCell (Below.setCell (Below.setCell (Below.setCell (Below.setCell (Below.setCell Nn lG _) lG _) lG _) lG _) lG _) lG _
     clear hW c1;have c1:=A2.lc;rw[E2.out];refine bodyPost_ret (v:=.agg #[_,_,_,_,_,_]) (by simp[results,Tryz.results116,go_sem, *];first|done|exact⟨rfl,rfl⟩|exact⟨rfl,rfl,rfl,rfl,rfl,rfl⟩|rfl) rfl ⟨rfl,hB9⟩
end
def apS(sk:Re.St)(r0:Int):Int:=if Vl sk 0 r0 r0 = -1/\Fw.Kw sk 0 r0=false then Fw.byc sk r0 else Vl sk 0 r0 r0
section
variable {Y:p9} {B:Int->Fw.Bx} {F:Int->Nat} {D:Int->Prop} {KM:World->Nat->Prop} {f:Nat} {w0:World} {P0:Nat->Prop}
theorem acv(hL:vO Y B F D KM f)(hK:∀(X X':World) (b:Nat),KM X b->Below X X X'->KM X' b)(rY:∀(X X':World) (b:Nat),KM X b->Out (λq=>q≠b) X X'->KM X' b)(hR0:RO w0 Y B D KM)(hkm:Y.km<w0.heap.size)
  (k:Int) (up:Fw.Ld) (hz:D up.id) (hk:D k) (hf:F k=f) (w:World) (n:Nat) (P:Nat->Prop) (hS:pJ Y B F w0 P0 n P w) (hn:n+Fw.cst B f k<maxLen) (sk s:Re.St) (hsk:(B k).sty=sk) (hs:(B up.id).sty=s) (q0 q1 r0 r1 d0 d1:Int) (hpt:prt sk s Y.ww Y.wh up.s0 up.s1=#[.int .i64 q0,.int .i64 q1,.int .i64 r0,.int .i64 r1,.int .i64 d0,.int .i64 d1]) (ly:Fw.Ld) (wK:Fw.lay B f k r0 r1 (apS sk r0) (Vl sk 1 r1 r0)=ly) :
  Calls ja0 84 #[Y.lb,k,.agg (dV up)] w λe w'=>e=.returned (.agg (dV { ly with a0:=Fw.wr (q0+Ot sk 0 r0 r0 d0 ly.s0),a1:=Fw.wr (q1+Ot sk 1 r1 r0 d1 ly.s1) })) /\
   ∃n' P',n'<=n+Fw.cst B f k/\pJ Y B F w0 P0 n' P' w'/\(∀b,b<w.heap.size->P' b->P b)/\Out (λb=>b=Y.pm) w w':=by
 obtain⟨es0,UJ,oz⟩:=(hS.ro rY hR0 hkm).FJ;have ak1:=oz.lt;clear oz;have HSK:=ah hsk;have HSW:=ah hS;have uN:=ah hR0;have HN:=ah hn;have HF:=ah hf;have HLY:=ah wK;have wR:=hS.ro rY hR0 hkm;obtain⟨bk,hbk⟩:=aA (Y.bl k);have Vm:=λX (h:Below w w X)=>ahu hK k up hz hk bk hbk.symm X (wR.keep hK h) sk s hsk hs;simp only[hpt]at Vm;have hlk:=λX (h:Below w w X)=>(wR.keep hK h).look hk;simp only[hbk]at hlk;have hbx:=(wR.box k hk).1;rw[hbk,hsk]at hbx;generalize Y.vf k=vf at hbx;generalize Y.va k=va at hbx;generalize (B k).ib=ib at hbx;have pG:=ah hbx;have EL:=wR.lay
 have HNB:Hid (¬ (bk=Y.pm)):=ah (λe=>by
  obtain⟨es1,ck1,hp1⟩:=wR.FJ;rw[e]at hbx
  exact absurd (hbx.symm.trans hp1) aW)
 obtain⟨z,j0,j1,s0,s1,a0,a1⟩:=up;simp only[dV]at Vm ⊢;clear hS hsk hs hR0 hn hf wK hpt hbk hbx wR hz;go_enter Tryz.func84,Tryz.ntmps84
 go_upto_region 1 with(fail)
 generalize hW:ja4 _ _=W0;have A0:At W0 w (.cells #[z,j0,j1,s0,s1,a0,a1] 101):=hW▸At.alloc (At.new _ _) _;have A1:At W0 (w.heap.size+1) (.cells #[(),(),(),(),(),(),()] 101):=hW▸At.new' _ aW;have hB0:Below w w W0:=hW▸aB (aB aD _) _;clear hW;have JV:=EL.keep hB0;have ajB:=hlk W0 hB0;obtain⟨lY,xC,xD,zy,zA,zB,zC⟩:=At.six JV;clear JV EL hlk
 go_upto_region 2 with(fail)
 clear ajB lY xC xD zy zA zB zC;replace Vm:=Vm W0 hB0;have c0:=A0.lc
 go_upto_region 3 with(go_at_call 116;(with_reducible refine Vm.mono ?_);rintro e' w4 ⟨rfl,hb4⟩)
 generalize hW:ja4 _ _=w1;have AP:At w1 w4 (.cells #[q0,q1,r0,r1,d0,d1] 196):=hW▸At.new _ _;have hb5:Below W0 W0 w1:=hW▸(hb4.trans (Below.mono (aB aD _) hb4.size));have gR:=hb4.size;clear hW hb4 Vm;generalize w4.heap.size=Tr at *;have n0r:w.heap.size≠Tr:=by have:=A0.lt;omega
 have n1r:w.heap.size+1≠Tr:=by have:=A1.lt;omega
 have gTr:w.heap.size<=Tr:=by have:=A0.lt;omega
 replace A1:=A1.keep hb5;have hB1:Below w w w1:=Below.ay hB0 aC hb5;clear hB0 hb5 c0 A0;have BL:=ah (pG.out.keep hB1);obtain⟨lr,Y5,Y6,Y7,Y8,Y9,Y'⟩:=At.six AP;obtain⟨e0,he0⟩:=aA (Vl sk 0 r0 r0);obtain⟨e1,he1⟩:=aA (Vl sk 1 r1 r0);have acw:=λX (h:Below w1 w1 X)=>aeT bk sk vf va ib r0 r1 X (BL.out.keep h);have aaT:=λX (h:Below w1 w1 X)=>aeU bk sk vf va ib r0 r1 X (BL.out.keep h);simp only[he0]at acw;simp only[he1]at aaT;have HE0:=ah he0;have HE1:=ah he1;clear he0 he1;refine aj.fQ (λa0 a W5=>∃(Tp:Nat) (u22 u23 u24 u25 u26 u27 u28 u29 u30:Value),a={ a0 with tmps:=(((((((((a0.tmps.setIfInBounds 22 u22).setIfInBounds 23 u23).setIfInBounds 24 u24).setIfInBounds 25 u25).setIfInBounds 26 u26).setIfInBounds 27 u27).setIfInBounds 28 u28).setIfInBounds 29 u29).setIfInBounds 30 u30).setIfInBounds 9 (.pointer Tp) }/\w1.heap.size<=Tp/\At W5 Tp (.cells #[e0,e1] 95)/\Below w1 w1 W5) ?_ ?_
 . have hSd:Below w1 w1 w1.drew:=Below.drew aD
   refine iC (S:=λX=>Below w1 w1 X) 11 ?_ ?_
   . exact hSd
   intro hx;clear hSd;refine aF 0 ?_;refine aF 1 ?_;refine aF 2 ?_;refine aF 4 ?_;refine aF 5 ?_;refine aF 6 ?_;clear lr Y5 Y6 Y7 Y8 Y9 Y';generalize w1.drew=W0 at *;refine tk2 3 9 ?_ ?_
   . refine BH (acw _ hx) hx ?_
     clear hx;intro qh hx;refine tk2 7 9 ?_ ?_
     . refine BH (aaT _ hx) hx ?_
       clear hx;intro wO hx;refine aF 8 ?_;refine tk1 9 ?_;refine aj.Step.value (u:=.pointer wO) (w':=wO.alloc (.cells #[(),()] 95)) eD ?_;obtain⟨zl,uM,Ap,hb⟩:∃w9,w9=wO.alloc (.cells #[(),()] 95)/\At w9 wO (.cells #[(),()] 95)/\Below wO wO w9:=⟨_,rfl,At.new _ _,aB aD _⟩;rw[<-uM];clear uM;have gp:=hx.size;obtain⟨Tp,C8⟩:=aA wO.heap.size;rw[C8]at Ap gp;rw[C8];clear C8;replace hx:=Below.ay hx aC hb;clear hb;refine⟨λ_=>hx,?_⟩
       (try simp only[bM,bN,bO,tks])
       exact Zd
     . refine aj.Step.value (u:=.pointer qh) (w':=qh.alloc (.cells #[(),()] 95)) eD ?_
       obtain⟨wO,uM,Ap,hb⟩:∃w9,w9=qh.alloc (.cells #[(),()] 95)/\At w9 qh (.cells #[(),()] 95)/\Below qh qh w9:=⟨_,rfl,At.new _ _,aB aD _⟩;rw[<-uM];clear uM;have gp:=hx.size;obtain⟨Tp,C8⟩:=aA qh.heap.size;rw[C8]at Ap gp;rw[C8];clear C8;replace hx:=Below.ay hx aC hb;clear hb;refine⟨λ_=>hx,?_⟩;exact Z1r
   . refine aj.Step.value (u:=.pointer W0) (w':=W0.alloc (.cells #[(),()] 95)) eD ?_
     obtain⟨qh,uM,Ap,hb⟩:∃w9,w9=W0.alloc (.cells #[(),()] 95)/\At w9 W0 (.cells #[(),()] 95)/\Below W0 W0 w9:=⟨_,rfl,At.new _ _,aB aD _⟩;rw[<-uM];clear uM;have gp:=hx.size;obtain⟨Tp,C8⟩:=aA W0.heap.size;rw[C8]at Ap gp;rw[C8];clear C8;replace hx:=Below.ay hx aC hb;clear hb;refine⟨λ_=>hx,?_⟩
     (try simp only[bM,bN,bO,tks])
     refine tk1 3 ?_;refine aj.Step.call eD (acw _ hx) ?_;rintro e wO ⟨rfl,hb⟩;replace Ap:=Ap.keep hb;replace hx:=Below.ay hx aC hb;clear hb;refine⟨_,rfl,λ_=>hx,?_⟩;exact Z1r
 . rintro a W5 ⟨Tp,u22,u23,u24,u25,u26,u27,u28,u29,u30,rfl,gp,Ap,kr⟩
   simp only[ja1,ja2,ja3];replace BL:=ah (BL.out.keep kr);have nrp:Tr≠Tp:=by have:=AP.lt;omega
   have n1p:w.heap.size+1≠Tp:=by have:=A1.lt;omega
   have gTp:w.heap.size<=Tp:=aJ hB1.size gp;replace AP:=AP.keep kr;replace A1:=A1.keep kr;have zm:Below w w W5:=Below.ay hB1 aC kr;clear kr hB1 acw aaT lr Y5 Y6 Y7 Y8 Y9 Y'
   go_upto_region 4 with(fail)
   obtain⟨cc,hcc⟩:∃b:Bool,decide (e0 = -1/\Fw.Kw sk 0 r0=false)=b:=⟨_,rfl⟩;have HCC:=ah hcc;clear hcc;refine aj.fQ (λa0 a W6=>∃(bb:Bool) (u31 u32 u33 u34 u35 u36 u37 u38 u39 u40 u41 u42 u43 u44:Value),a={ a0 with tmps:=((((((((((((((a0.tmps.setIfInBounds 31 u31).setIfInBounds 32 u32).setIfInBounds 33 u33).setIfInBounds 34 u34).setIfInBounds 35 u35).setIfInBounds 36 u36).setIfInBounds 37 u37).setIfInBounds 38 u38).setIfInBounds 39 u39).setIfInBounds 40 u40).setIfInBounds 41 u41).setIfInBounds 42 u42).setIfInBounds 43 u43).setIfInBounds 44 u44).setIfInBounds 45 (.bool bb) }/\Hid (bb=cc)/\Below W5 W5 W6) ?_ ?_
   . have hSd:Below W5 W5 W5.drew:=Below.drew aD
     obtain⟨lp,SX,SY⟩:=At.two Ap;obtain⟨lr,Y5,Y6,Y7,Y8,Y9,Y'⟩:=At.six AP;have lbk:=aL.lt BL.out;by_cases hne:e0 = -1
     . subst hne
       cases hfx:Fx.dD (sk.c 3) r0 with
       | true =>
         have V6:=ah hfx;have S9:Hid (false=cc):=ah (by rw[<-HCC.out];have e:Fw.Kw sk 0 r0=true:=hfx;rw[e];decide);exact Zo
       | false =>
         have V6:=ah hfx;have S9:Hid (true=cc):=ah (by rw[<-HCC.out];have e:Fw.Kw sk 0 r0=false:=hfx;rw[e];decide);exact Zo
     . have S9:Hid (false=cc):=ah (by rw[<-HCC.out];simp[hne])
       have hneb:(e0 == -1)=false:=by simp[hne]
       refine iC (S:=λX=>Below W5 W5 X) 15 ?_ ?_
       . exact hSd
       intro hx;clear hSd;refine aF 0 ?_;refine aF 1 ?_;refine aF 2 ?_;refine aF 3 ?_;refine aF 4 ?_;refine aF 5 ?_;refine aF 6 ?_;refine aF 7 ?_;refine aF 8 ?_;refine aF 9 ?_;refine aF 10 ?_;refine aF 11 ?_;refine aF 12 ?_;refine aF 13 ?_;refine aF 14 ?_;refine gZ ?_;exact⟨rfl,_,_,_,_,_,_,_,_,_,_,_,_,_,_,_,(by simp only[ja1,ja2,ja3];rfl),S9,hx⟩
   . rintro a W6 ⟨bb,u31,u32,u33,u34,u35,u36,u37,u38,u39,u40,u41,u42,u43,u44,rfl,S9,CG⟩
     simp only[ja1,ja2,ja3];have X4:Below w w W6:=Below.ay zm aC CG;replace BL:=ah (BL.out.keep CG);replace Ap:=Ap.keep CG;replace AP:=AP.keep CG;replace A1:=A1.keep CG;clear CG zm;have hbb:=S9.out;subst hbb;obtain⟨t0,ht0⟩:=aA (apS sk r0);have HT0:=ah ht0;have hT:(bb=true->Fw.byc sk r0=t0)/\(bb=false->e0=t0):=by
      rw[<-ht0,<-HCC.out];unfold apS;rw[HE0.out];refine⟨λh=>by rw[if_pos (by simpa using h)],λh=>by rw[if_neg (by simpa using h)]⟩
     clear ht0;have HT:=ah hT;clear hT
     go_upto_if 45 with(fail)
     go_cut []from 45 to 51 (λw2=>At w2 Tp (.cells #[t0,e1] 95)/\At w2 Tr (.cells #[q0,q1,r0,r1,d0,d1] 196)/\At w2 (w.heap.size+1) (.cells #[(),(),(),(),(),(),()] 101)/\Below w w w2)
     case first =>
      cases bb with
      | true =>
        have E:=ah (HT.out.1 rfl);clear HT S9 HCC;obtain⟨lr,Y5,Y6,Y7,Y8,Y9,Y'⟩:=At.six AP
        go_wp2_with (go_at_call 119;(with_reducible refine(Mr bk sk vf va ib r0 r1 _ BL.out).mono ?_);rintro e' w7 ⟨rfl,hb⟩;replace AP:=AP.keep hb;replace A1:=A1.keep hb;replace Ap:=Ap.keep hb;obtain⟨lp,SX,SY⟩:=At.two Ap;have zp0:=Ap.thaw 0)
        go_meet
        case rel =>
         refine⟨by rw[<-E.out];exact At.set Ap 0 _,At.off AP nrp _ _,At.off A1 n1p _ _,Below.setCell (Below.ay X4 aC hb) gTp _⟩
      | false =>
        have E:=ah (HT.out.2 rfl);clear HT S9 HCC;go_wp2
        go_meet
        case rel=>exact⟨by rw[<-E.out];exact Ap,AP,A1,X4⟩
     case rest =>
      obtain⟨Ap,AP,A1,hB⟩:=hcut;have hSc:=HSW.out.after hB;have A2:=pG.out.keep hB;have hsc:=hB.size;obtain⟨yi,y0,y1,ys0,ys1,ya0,ya1⟩:=ly;have qF:=rM hL rY uN.out hkm hSc k r0 r1 t0 e1 hk HF.out HN.out;rw[show Fw.lay B f k r0 r1 t0 e1=⟨yi,y0,y1,ys0,ys1,ya0,ya1⟩by rw[<-HT0.out,<-HE1.out];exact HLY.out]at qF;simp only[dV]at qF;obtain⟨lp,SX,SY⟩:=At.two Ap;obtain⟨lr,Y5,Y6,Y7,Y8,Y9,Y'⟩:=At.six AP;have ak2:=aL.lt pG.out;have l1:=A1.lt
      go_upto_region 7 with(go_at_call 45;(with_reducible refine qF.mono ?_);rintro e' w9 ⟨rfl,n',P',hn',Om,hP9,Hz⟩)
      replace AP:=AP.out (M:=λb=>b=Y.pm) ak Hz;replace A1:=A1.out (M:=λb=>b=Y.pm) ak Hz;replace A2:aL w9 bk sk vf va ib:=A2.out (M:=λb=>b=Y.pm) HNB.out Hz;generalize hW:ja4 _ _=V9;have AX:At V9 w9 (.cells #[yi,y0,y1,ys0,ys1,ya0,ya1] 101):=hW▸At.new _ _;have gY:Below w9 w9 V9:=hW▸aB aD _;clear hW lp SX SY lr Y5 Y6 Y7 Y8 Y9 Y' qF Ap;have nrx:Tr≠w9.heap.size:=dX AP.lt;have n1x:w.heap.size+1≠w9.heap.size:=dX A1.lt;have nbx:bk≠w9.heap.size:=dX (aL.lt A2);replace AP:=AP.keep gY;replace A1:=A1.keep gY;replace A2:=aL.keep A2 gY;have gTx:w9.heap.size<=w9.heap.size:=aH _;obtain⟨Tx,hTx⟩:=aA w9.heap.size;rw[hTx]at AX nrx n1x nbx;have gTx:w9.heap.size<=Tx:=Nat.le_of_eq hTx;rw[hTx];clear hTx;obtain⟨b0,hb0⟩:=aA (Ot sk 0 r0 r0 d0 ys0);obtain⟨b1,hb1⟩:=aA (Ot sk 1 r1 r0 d1 ys1);obtain⟨x0,hx0⟩:=aA (IntKind.i64.wrap (q0+Ot sk 0 r0 r0 d0 ys0));obtain⟨x1,hx1⟩:=aA (IntKind.i64.wrap (q1+Ot sk 1 r1 r0 d1 ys1));have eF:Hid (Fw.wr (q0+Ot sk 0 r0 r0 d0 ys0)=x0/\Fw.wr (q1+Ot sk 1 r1 r0 d1 ys1)=x1):=ah ⟨by rw[<-qK,hx0],by rw[<-qK,hx1]⟩;clear hb0 hb1;go_wp2;refine wp_loop_rounds 3 ?_;rw[rounds_succ]
      go_upto_region 10 with(fail)
      obtain⟨lr,Y5,Y6,Y7,Y8,Y9,Y'⟩:=At.six AP;obtain⟨lx,cx0,KG,ZA,ZB,Vn,Vo,cx6⟩:=At.seven AX;have zx:=AX.thaw 5;refine xA 16 1 ?_
      (repeat (first|refine jc ?_ | refine jd ?_ (hc:=by intro w2 hS;first|with_reducible exact iq hS (Y2 _ _ _ _ _ _ _ _ _ _ _ _ _ Z4c))|refine je ?_))
      refine aj.bL ?_;intro w2 hS;replace AP:=AP.keep hS;replace AX:=AX.keep hS;replace A1:=A1.keep hS;replace A2:=aL.keep A2 hS;replace gY:=Below.ay gY aC hS;clear hS lr Y5 Y6 Y7 Y8 Y9 Y' lx cx0 KG ZA ZB Vn Vo cx6 zx;obtain⟨lx,cx0,KG,ZA,ZB,Vn,Vo,cx6⟩:=At.seven AX;have zx:=AX.thaw 5;refine wz ?_;intro K hK;go_simp;refine hK _ _ (aj.bC ?_);clear hK K
      (try rw[hx0])
      generalize hW:ja5 _ _ _=V0;replace AX:At V0 Tx (.cells #[yi,y0,y1,ys0,ys1,x0,ya1] 101):=hW▸At.set AX 5 _;replace AP:=hW▸At.off AP nrx 5 _;replace A1:=hW▸At.off A1 n1x 5 _;replace A2:aL V0 bk sk vf va ib:=hW▸At.off A2 nbx 5 _;replace gY:Below w9 w9 V0:=by rw[<-hW];exact Below.setCell gY gTx _
      clear hW lx cx0 KG ZA ZB Vn Vo cx6 zx;go_wp2;rw[rounds_succ]
      go_upto_region 10 with(fail)
      obtain⟨lr,Y5,Y6,Y7,Y8,Y9,Y'⟩:=At.six AP;obtain⟨lx,cx0,KG,ZA,ZB,Vn,Vo,cx6⟩:=At.seven AX;have zx:=AX.thaw 6;refine xA 16 1 ?_
      (repeat (first|refine jc ?_ | refine jd ?_ (hc:=by intro w2 hS;first|with_reducible exact iq hS (Y3 _ _ _ _ _ _ _ _ _ _ _ _ _ Z4c))|refine je ?_))
      refine aj.bL ?_;intro w2 hS;replace AP:=AP.keep hS;replace AX:=AX.keep hS;replace A1:=A1.keep hS;replace A2:=aL.keep A2 hS;replace gY:=Below.ay gY aC hS;clear hS lr Y5 Y6 Y7 Y8 Y9 Y' lx cx0 KG ZA ZB Vn Vo cx6 zx;obtain⟨lx,cx0,KG,ZA,ZB,Vn,Vo,cx6⟩:=At.seven AX;have zx:=AX.thaw 6;refine wz ?_;intro K hK;go_simp;refine hK _ _ (aj.bC ?_);clear hK K
      (try rw[hx1])
      generalize hW:ja5 _ _ _=V1;replace AX:At V1 Tx (.cells #[yi,y0,y1,ys0,ys1,x0,x1] 101):=hW▸At.set AX 6 _;replace AP:=hW▸At.off AP nrx 6 _;replace A1:=hW▸At.off A1 n1x 6 _;replace A2:aL V1 bk sk vf va ib:=hW▸At.off A2 nbx 6 _;replace gY:Below w9 w9 V1:=by rw[<-hW];exact Below.setCell gY gTx _
      clear hW lx cx0 KG ZA ZB Vn Vo cx6 zx;go_wp2;rw[rounds_succ];obtain⟨lx,cx0,KG,ZA,ZB,Vn,Vo,cx6⟩:=At.seven AX;obtain⟨l1,ML,MN,ahv,ahw,ahx,ahy,ahz⟩:=At.seven A1;have z1:=A1.thaw;clear hx0 hx1;have jQ:Out (λb=>b=w.heap.size+1) w9 V1:=Out.of_below gY;go_wp2;generalize hW:ja5 _ _ _=V5;have A3:At V5 (w.heap.size+1) (.cells #[yi,y0,y1,ys0,ys1,x0,x1] 101):=hW▸At.set (At.set (At.set (At.set (At.set (At.set (At.set A1 0 _) 1 _) 2 _) 3 _) 4 _) 5 _) 6 _;have jg:Out (λb=>b=w.heap.size+1) w9 V5:=by
       rw[<-hW];exact Out.set (Out.set (Out.set (Out.set (Out.set (Out.set (Out.set jQ rfl _ _) rfl _ _) rfl _ _) rfl _ _) rfl _ _) rfl _ _) rfl _ _
      clear hW l1 ML MN ahv ahw ahx ahy ahz z1;obtain⟨l1,ML,MN,ahv,ahw,ahx,ahy,ahz⟩:=At.seven A3;have hwl:=HSW.out.size;have hPl:=HSW.out.lt
      have uJ:pJ Y B F w0 P0 n' P' V5:=Om.own jg λb hb e=>by
       subst e;refine⟨λh => ?_,by omega⟩;have:=hPl _ (hP9 _ ak h);omega
      have MP:Out (λb=>b=Y.pm) w V5:=Out.trans' ((Out.of_below (M:=λb=>b=Y.pm) hB).trans Hz) jg λb hb e=>by
       subst e;omega
      have HP:Hid (∀b,b<w.heap.size->P' b->P b):=ah λb hb h=>hP9 b ak h;rw[eF.out.1,eF.out.2];clear hPl;refine bodyPost_ret (v:=.agg #[_,_,_,_,_,_,_]) (by simp[results,Tryz.results84,go_sem, *];first|done|exact⟨rfl,rfl⟩|exact⟨rfl,rfl,rfl,rfl,rfl,rfl,rfl⟩|rfl) rfl ⟨rfl,n',hn',P',uJ,HP.out,MP⟩
end
end Go.Proofs.YtdnggaapcgomhaaGreat.Fix
namespace Go.Proofs.YtdnggaapcgomhaaGreat.Fw
open List renaming getElem_mem → jc3
variable {B:Int->Bx}{f:Nat}
theorem Np(B:Int->Bx)(f:Nat)(z i0 i1:Int)(h:f=0->(B z).fl=[]):(cont B f z i0 i1).1.map (·.id)=(B z).fl:=by
 cases f with
 | zero=>rw[h rfl];rfl
 | succ f =>
   simp only[cont];split
   . rename_i e;rw[e];rfl
   . simp only[List.map_map]
     have e:((λx=>x.id)∘mv B i0 i1)=λx:Ld=>x.id:=funext λx=>by simp only[Function.comp,mv];split<;>rfl
     rw[e];exact Lp B f z i0 i1
def Laid(B:Int->Bx)(f:Nat)(x:Ld):Prop:=∃k r0 r1 t0 t1,x.i0=(lay B f k r0 r1 t0 t1).i0/\x.i1=(lay B f k r0 r1 t0 t1).i1
theorem Laid.same{x y:Ld}(h:Laid B f y)(h0:x.i0=y.i0)(h1:x.i1=y.i1):Laid B f x:=by
 obtain⟨k,r0,r1,t0,t1,q0,q1⟩:=h;exact⟨k,r0,r1,t0,t1,h0.trans q0,h1.trans q1⟩
theorem Laid.moved{y:Ld}(h:Laid B f y)(a b:Int):Laid B f { y with a0:=a,a1:=b }:=h.same rfl rfl
theorem Laid.aeZ{y:Ld}(h:Laid B f y)(a:Int):Laid B f { y with a0:=a }:=h.same rfl rfl
theorem Laid.ae0{y:Ld}(h:Laid B f y)(a:Int):Laid B f { y with a1:=a }:=h.same rfl rfl
theorem rQ(B:Int->Bx)(f:Nat)(k r0 r1 t0 t1:Int):Laid B f (lay B f k r0 r1 t0 t1):=⟨k,r0,r1,t0,t1,rfl,rfl⟩
theorem J5(B:Int->Bx)(f:Nat)(z i0 i1 high:Int)(ks:List Int):∀x∈(nY B (lay B f) z i0 i1 high ks).1,Laid B f x:=by
 unfold nY;simp only[];intro x hx;obtain⟨i,hi,rfl⟩:=List.mem_mapIdx.1 hx;refine Laid.moved ?_ _ _;have hm:=jc3 hi;generalize (_:List Ld)[i]=y at hm ⊢;split at hm
 . obtain⟨u,hu,rfl⟩:=List.mem_map.1 hm
   obtain⟨j,hj,rfl⟩:=List.mem_mapIdx.1 hu;split
   . exact rQ _ _ _ _ _ _ _
   . exact rQ _ _ _ _ _ _ _
 . obtain⟨j,hj,rfl⟩:=List.mem_mapIdx.1 hm
   exact rQ _ _ _ _ _ _ _
theorem Gw(B:Int->Bx)(f:Nat)(z i0 i1 high:Int)(fl:List Int):∀(ps:List (Nat×Nat)) (fst:Bool) (y:Int),∀x∈(dO B (lay B f) z i0 i1 high fl fst y ps).1,Laid B f x:=by
 intro ps
 induction ps with
 | nil=>intro fst y x hx;simp[dO]at hx
 | cons p ps ih =>
   intro fst y x hx;simp only[dO,List.mem_append,List.mem_map]at hx;rcases hx with⟨u,hu,rfl⟩|hx
   . exact J5 B f z i0 i1 high _ u hu
   . exact ih _ _ x hx
theorem Vp(B:Int->Bx)(f:Nat)(z i0 i1:Int):∀x∈(kind B (lay B f) f z i0 i1).1,Laid B f x:=by
 unfold kind;split
 . unfold TJ;exact Gw B f z i0 i1 _ _ _ _ _
 . split
   . unfold sN
     intro x hx;simp only[]at hx;obtain⟨i,hi,rfl⟩:=List.mem_mapIdx.1 hx;refine Laid.moved ?_ _ _;simp only[List.getElem_mapIdx];exact rQ _ _ _ _ _ _ _
   . unfold zM
     intro x hx;simp only[]at hx;obtain⟨i,hi,rfl⟩:=List.mem_mapIdx.1 hx;refine Laid.ae0 ?_ _;simp only[List.getElem_map,Du];exact(rQ B f _ _ _ _ _).aeZ _
theorem Vq(B:Int->Bx)(f:Nat)(z i0 i1:Int):∀x∈(cont B (f+1) z i0 i1).1,Laid B f x:=by
 intro x hx;simp only[cont]at hx;split at hx
 . simp at hx
 . obtain⟨u,hu,rfl⟩:=List.mem_map.1 hx
   obtain⟨k,r0,r1,t0,t1,h1,h2⟩:=Vp B f z i0 i1 u hu;refine⟨k,r0,r1,t0,t1,?_,?_⟩
   . rw[<-h1];unfold mv;split<;>rfl
   . rw[<-h2];unfold mv;split<;>rfl
theorem Sr{x:Ld}(h:Laid B f x):(-1<=x.i0/\x.i0<=9223372036854775807)/\-1<=x.i1/\x.i1<=9223372036854775807:=by
 obtain⟨k,r0,r1,t0,t1,h1,h2⟩:=h;rw[h1,h2];exact⟨Dx _ _ _ _ _,Dx _ _ _ _ _⟩
end Go.Proofs.YtdnggaapcgomhaaGreat.Fw
namespace Go.Proofs.YtdnggaapcgomhaaGreat.Fix
open Go.ChangeShapes Go.WideShapes Go.ChangeAt Go.RowKit
open Go.Proofs.Tryz renaming prog → ja0
open List renaming setIfInBounds_toArray → ja1,set_cons_zero → ja2,set_cons_succ → ja3,length_append → ja7,length_cons → ja9,take_of_length_le → jb6,length_map → jb7,getElem_mem → jc3,take_succ_eq_append_getElem → jc8
open World renaming alloc → ja4,setCell → ja5
structure Pt where
 q0:Int
 q1:Int
 r0:Int
 r1:Int
 d0:Int
 d1:Int
def Ai(sk s:Re.St)(ww wh s0 s1:Int):Pt:=if sk.c 1=3 then ⟨0,0,ww,wh,0,0⟩else ⟨s.c 38,s.c 35,Fw.wr (s0-Fw.wr (s.c 38+s.c 36)),Fw.wr (s1-Fw.wr (s.c 35+s.c 37)),s.c 34,s.c 31⟩
theorem ae1(sk s:Re.St)(ww wh s0 s1:Int):prt sk s ww wh s0 s1=#[.int .i64 (Ai sk s ww wh s0 s1).q0,.int .i64 (Ai sk s ww wh s0 s1).q1,.int .i64 (Ai sk s ww wh s0 s1).r0,.int .i64 (Ai sk s ww wh s0 s1).r1,.int .i64 (Ai sk s ww wh s0 s1).d0,.int .i64 (Ai sk s ww wh s0 s1).d1]:=by
 unfold prt Ai;split<;>rfl
def Qx(B:Int->Fw.Bx)(ww wh:Int)(f:Nat)(k:Int)(up:Fw.Ld):Fw.Ld :=
 let sk:=(B k).sty
 let p:=Ai sk (B up.id).sty ww wh up.s0 up.s1
 let ly:=Fw.lay B f k p.r0 p.r1 (apS sk p.r0) (Vl sk 1 p.r1 p.r0)
 { ly with a0:=Fw.wr (p.q0+Ot sk 0 p.r0 p.r0 p.d0 ly.s0),a1:=Fw.wr (p.q1+Ot sk 1 p.r1 p.r0 p.d1 ly.s1) }
def edg(s:Re.St)(k:Fw.Ld):Fw.Ld:={ k with a0:=Fw.wr (k.a0+Fw.ed s 3),a1:=Fw.wr (k.a1+Fw.ed s 0) }
def tl(B:Int->Fw.Bx)(ww wh:Int):Nat->Fw.Ld->List Fw.Ld
 | 0,x=>[x]
 | f+1,x=>x::(((Fw.cont B (f+1) x.id x.i0 x.i1).1.flatMap λk=>tl B ww wh f (edg (B x.id).sty k))++((B x.id).ap.flatMap λk=>tl B ww wh f (Qx B ww wh f k x)))
def nJ(B:Int->Fw.Bx):Nat->Int->Nat
 | 0,_=>1
 | f+1,z=>Fw.cst B (f+1) z+((B z).fl.map (nJ B f)).sum+((B z).ap.map λk=>Fw.cst B f k+nJ B f k).sum
def rcv(x:Fw.Ld):Value:=.agg #[Fx.cut x.a0,Fx.cut x.a1,Fx.cut x.s0,Fx.cut x.s1]
noncomputable def jU(g:Lit->Option Value)(l:List Fw.Ld):Lit->Option Value:=l.foldl (λg x=>xO g (.int .i64 x.id) (rcv x)) g
theorem za(g:Lit->Option Value)(l m:List Fw.Ld):jU g (l++m)=jU (jU g l) m:=List.foldl_append
section
variable {Y:p9} {B:Int->Fw.Bx} {F:Int->Nat} {D:Int->Prop} {W W':World} {n n' nr Aj:Nat} {P P':Nat->Prop} {g g':Lit->Option Value}
theorem RO.Qy(hrb:Y.rm≠Y.bm)(EM:Y.rm≠Y.km)(hrm:∃es ck,At W Y.rm (.map es ck))(h:RO W Y B D nP)(k:Out (λb=>b=Y.pm\/b=Y.rm\/W.heap.size<=b) W W')(hp:∃es ck,At W' Y.pm (.map es ck)):RO W' Y B D nP:=by
 have hkm:=h.kinds.lt;obtain⟨es0,UJ,hpm⟩:=h.FJ;obtain⟨es1,ck1,hrm⟩:=hrm
 have cell:∀{b:Nat} {cs:Array Value} {T:TypeId},At W b (.cells cs T)->¬ (b=Y.pm\/b=Y.rm\/W.heap.size<=b):=λ{b cs T} ha q=>by
  rcases q with rfl|rfl|q
  . have:=At.uniq ha hpm;cases this
  . have:=At.uniq ha hrm;cases this
  . exact absurd ha.lt ak
 have ks:∀{v:Value} {l:List Int},KS W v l->KS W' v l:=λ{v l} hk=>hk.out (λg hg q=>by
  obtain⟨cur,ha⟩:=hk.rowAt hg
  exact cell ha q) k
 refine⟨h.lay.out (cell h.lay) k,?_,λz hz => ?_,?_,h.wf,hp,h.pmb,h.pmk,h.pmr⟩
 . obtain⟨n,g,h1,h2⟩:=h.boxes
   exact⟨n,g,h1.out (λq=>by
    rcases q with q|q|q
    . exact h.pmb q.symm
    . exact hrb q.symm
    . exact absurd h1.lt ak) k,h2⟩
 . obtain⟨h1,h2,h3⟩:=h.box z hz
   exact⟨At.out h1 (cell h1) k,ks h2,ks h3⟩
 . refine nP.out _ _ _ h.kinds ⟨k.1,λb hb hn => ?_⟩
   have hb':b=Y.km:=Classical.byContradiction hn;subst hb'
   exact k.2 _ hb (λq=>by
    rcases q with q|q|q
    . exact h.pmk q.symm
    . exact EM q.symm
    . omega)
structure TS(Y:p9)(B:Int->Fw.Bx)(F:Int->Nat)(D:Int->Prop)(w:World)(P:Nat->Prop)(n':Nat)(P':Nat->Prop)(Aj:Nat)(g':Lit->Option Value)(W:World):Prop where
 ro:RO W Y B D nP
 kp:Kp Y B F n' P' W
 lt:∀b,P' b->b<W.heap.size
 new:∀b,P' b->P b\/w.heap.size<=b
 nrm:¬ P' Y.rm
 gm:GM 3 W Y.rm Aj g'
 out:Out (λb=>b=Y.pm\/b=Y.rm\/w.heap.size<=b) w W
variable {w:World}
theorem TS.size(h:TS Y B F D w P n' P' Aj g' W):w.heap.size<=W.heap.size:=h.out.size
theorem TS.own{M:Nat->Prop}(h:TS Y B F D w P n' P' Aj g' W)(hrb:Y.rm≠Y.bm)(EM:Y.rm≠Y.km)(hR:RO w Y B D nP)(hrm:∃es ck,At w Y.rm (.map es ck))(k:Out M W W')(hm:∀b,b<W.heap.size->M b->¬ P' b/\w.heap.size<=b)(hr:Y.rm<w.heap.size):TS Y B F D w P n' P' Aj g' W':=by
 have hk':Kp Y B F n' P' W':=h.kp.out k λb hb q=>(hm b (h.lt b hb) q).1 hb;have ho:Out (λb=>b=Y.pm\/b=Y.rm\/w.heap.size<=b) w W':=Out.trans' h.out k λb hb q => .inr (.inr (hm b (aT hb h.size) q).2);exact⟨hR.Qy hrb EM hrm ho hk'.pm.2,hk',λb hb=>aT (h.lt b hb) k.size,h.new,h.nrm,h.gm.out (λq=>by have:=(hm _ (aT hr h.size) q).2;omega) k,ho⟩
theorem TS.after(h:TS Y B F D w P n' P' Aj g' W)(hrb:Y.rm≠Y.bm)(EM:Y.rm≠Y.km)(hR:RO w Y B D nP)(hrm:∃es ck,At w Y.rm (.map es ck))(hr:Y.rm<w.heap.size)(k:Below W W W'):TS Y B F D w P n' P' Aj g' W':=h.own hrb EM hR hrm (M:=λ_=>False) (Out.of_below k) (λ_ _ q=>q.elim) hr
theorem TS.laid{n2:Nat}{P2:Nat->Prop}(h:TS Y B F D w P n' P' Aj g' W)(hrb:Y.rm≠Y.bm)(EM:Y.rm≠Y.km)(hR:RO w Y B D nP)(hrm:∃es ck,At w Y.rm (.map es ck))(hr:Y.rm<w.heap.size)(hK:Kp Y B F n2 P2 W')(hP:∀b,P2 b->P' b\/W.heap.size<=b)(k:Out (λb=>b=Y.pm) W W'):TS Y B F D w P n2 (λb=>P2 b/\b<W'.heap.size) Aj g' W':=by
 have ho:Out (λb=>b=Y.pm\/b=Y.rm\/w.heap.size<=b) w W':=Out.trans' h.out k λb hb q => .inl q;have hs:=h.size
 exact⟨hR.Qy hrb EM hrm ho hK.pm.2,hK.cut,λb hb=>hb.2,λb hb=>by
  rcases hP b hb.1 with q|q
  . exact h.new b q
  . exact .inr ak,λq=>by
  rcases hP _ q.1 with q|q
  . exact h.nrm q
  . omega,h.gm.out (λq=>hR.pmr q.symm) k,ho⟩
theorem TS.told{n2 nr2:Nat}{P2:Nat->Prop}{g2:Lit->Option Value}(h:TS Y B F D w P n' P' Aj g' W)(hrb:Y.rm≠Y.bm)(EM:Y.rm≠Y.km)(hR:RO w Y B D nP)(hrm:∃es ck,At w Y.rm (.map es ck))(hr:Y.rm<w.heap.size)(hK:Kp Y B F n2 P2 W')(hP:∀b,P2 b->P' b\/W.heap.size<=b)(hG:GM 3 W' Y.rm nr2 g2)(k:Out (λb=>b=Y.pm\/b=Y.rm) W W'):TS Y B F D w P n2 (λb=>P2 b/\b<W'.heap.size) nr2 g2 W':=by
 have ho:Out (λb=>b=Y.pm\/b=Y.rm\/w.heap.size<=b) w W':=Out.trans' h.out k λb hb q=>by
  rcases q with q|q
  . exact .inl q
  . exact .inr (.inl q)
 have hs:=h.size
 exact⟨hR.Qy hrb EM hrm ho hK.pm.2,hK.cut,λb hb=>hb.2,λb hb=>by
  rcases hP b hb.1 with q|q
  . exact h.new b q
  . exact .inr ak,λq=>by
  rcases hP _ q.1 with q|q
  . exact h.nrm q
  . omega,hG,ho⟩
end
def ldz:Array Value:=#[(),(),(),(),(),(),()]
theorem ZC(W:World):(Instr.alloc 101 true (.tuple #[])).run ja0 W=.ok (.pointer W) (W.alloc (.cells ldz 101)):=by kernel_rfl
section
variable {ops:Array Oper} {rest:List Oper} {o:Oper} {a:Act} {w:World} {Q:Exit->Act->World->Prop}
theorem Cj(hw:Region.wanted o (yielded ops a.tmps)=true)(ho:o.op=.alloc 101)(h:wpList ja0 ops Q rest (a.put o.dst (.pointer w)) (w.alloc (.cells ldz 101))):wpList ja0 ops Q (o::rest) a w :=
 dL hw (by unfold execOp;simp only[ho,Sem.run_bind,ZC,Result.andThen_ok,Sem.run_pure]) h
theorem Al(hw:Region.wanted o (yielded ops a.tmps)=true)(p y:Operand)(ho:o.op=.store 101 p y){b:Nat}(hp:a.eval p=.pointer b){x:Fw.Ld}(hy:a.eval y=.agg (dV x))(hs:At w b (.cells ldz 101))
  (h:wpList ja0 ops Q rest (a.put o.dst undef) (w.setRow b (dV x))):wpList ja0 ops Q (o::rest) a w :=
 fE (q:=0) mP hw p y ho hp hy hs (dB x) (by simp[ldz]) (ou x) (by rw[dZ (cs:=ldz) (vs:=dV x) rfl];exact h)
end
theorem EN(v:Value)(h:Int)(W:World):(Instr.field 167 (.agg #[v,h]) 0).run ja0 W=.ok v W:=by kernel_rfl
theorem acy{W:World}{v:Value}{l:List Int}{A:Option Addr}{m cp:Nat}(hv:v=.slice A m cp)(h:KS W v l):Ints W A l:=by
 obtain⟨A',c,e,hI,_⟩:=h.ints;rw[hv]at e;injection e with e1 e2 e3;rw[e1];exact hI
section
variable {Y:p9} {B:Int->Fw.Bx} {F:Int->Nat} {D:Int->Prop}
def EO(Y:p9)(B:Int->Fw.Bx)(F:Int->Nat)(D:Int->Prop)(f:Nat):Prop :=
 ∀(x:Fw.Ld) (w:World) (n:Nat) (P:Nat->Prop) (nr:Nat) (g:Lit->Option Value),D x.id->F x.id=f->Wf x.i0->Wf x.i1->RO w Y B D nP->Kp Y B F n P w->(∀b,P b->b<w.heap.size)->¬ P Y.rm->GM 3 w Y.rm nr g->n+nJ B f x.id<maxLen->nr+(tl B Y.ww Y.wh f x).length<maxLen ->
  Calls ja0 44 #[Y.lb,.agg (dV x)] w λe w'=>e=.returned (.tuple #[]) /\
   ∃n' P' Aj,n'<=n+nJ B f x.id/\Kp Y B F n' P' w'/\(∀b,P' b->P b\/w.heap.size<=b)/\Aj<=nr+(tl B Y.ww Y.wh f x).length/\GM 3 w' Y.rm Aj (jU g (tl B Y.ww Y.wh f x))/\Out (λb=>b=Y.pm\/b=Y.rm) w w'
theorem ahA(B:Int->Fw.Bx)(ww wh:Int)(f:Nat)(x:Fw.Ld)(h:f=0->(B x.id).ap=[]):tl B ww wh f x=x::(((Fw.cont B f x.id x.i0 x.i1).1.flatMap λk=>tl B ww wh (f-1) (edg (B x.id).sty k))++((B x.id).ap.flatMap λk=>tl B ww wh (f-1) (Qx B ww wh (f-1) k x))):=by
 cases f with
 | zero=>simp[tl,Fw.cont,h rfl]
 | succ f=>rfl
theorem acz(B:Int->Fw.Bx)(f:Nat)(z:Int)(h:f=0->(B z).ap=[])(h2:f=0->(B z).fl=[]):nJ B f z=Fw.cst B f z+((B z).fl.map (nJ B (f-1))).sum+((B z).ap.map λk=>Fw.cst B (f-1) k+nJ B (f-1) k).sum:=by
 cases f with
 | zero=>simp[nJ,Fw.cst,h rfl,h2 rfl]
 | succ f=>rfl
theorem xq{α:Type}(c:α->Nat){l:List α}{k:Nat}(h:k<l.length):((l.take (k+1)).map c).sum=((l.take k).map c).sum+c l[k]:=by
 rw[jc8 h];exact Z2a
theorem Bp{α:Type}(c:α->Nat)(l:List α)(k:Nat):((l.take k).map c).sum<=(l.map c).sum:=by
 conv=>rhs;rw[<-List.take_append_drop k l,List.map_append,List.sum_append]
 omega
theorem vT{α β:Type}(c:α->List β){l:List α}{k:Nat}(h:k<l.length):(l.take (k+1)).flatMap c=(l.take k).flatMap c++c l[k]:=by
 rw[jc8 h,List.flatMap_append];simp
theorem xu{α β:Type}(c:α->List β)(l:List α)(k:Nat):((l.take k).flatMap c).length<=(l.flatMap c).length:=by
 conv=>rhs;rw[<-List.take_append_drop k l,List.flatMap_append,ja7]
 omega
theorem Sv(W:Wk B F D)(ZE:∀z,D z->∀k∈(B z).ap,D k/\F z=F k+1)(acA:∀z,D z->(B z).ap.length<=10000)(hrb:Y.rm≠Y.bm)(EM:Y.rm≠Y.km)(f:Nat)(hT:∀f',f=f'+1->EO Y B F D f'):EO Y B F D f:=by
 intro x w n P nr g hz hf h0 h1 hR FK hP Sm hG hn hnr;have Nq:=hG.obj;have hrm:=hG.lt;obtain⟨es1,ck1,hrm1⟩:=hG.obj;obtain⟨es0,UJ,oz⟩:=hR.FJ;have hpl:=oz.lt
 have ae2:f=0->(B x.id).fl=[]:=λe=>by
  cases hq:(B x.id).fl with
  | nil=>rfl
  | cons k l =>
    have:=(W.down x.id hz k (by rw[hq];simp)).2;omega
 have ae3:f=0->(B x.id).ap=[]:=λe=>by
  cases hq:(B x.id).ap with
  | nil=>rfl
  | cons k l =>
    have:=(ZE x.id hz k (by rw[hq];simp)).2;omega
 rw[ahA B Y.ww Y.wh f x ae3]at hnr ⊢;rw[acz B f x.id ae3 ae2]at hn ⊢;obtain⟨f1,hf1⟩:=aA (f-1);rw[hf1]at hnr hn ⊢;obtain⟨kids,Nr⟩:=aA ((Fw.cont B f x.id x.i0 x.i1).1);rw[Nr]at hnr ⊢;have hki:kids.map (·.id)=(B x.id).fl:=by rw[<-Nr];exact Fw.Np B f x.id x.i0 x.i1 ae2
 obtain⟨s,hs⟩:=aA ((B x.id).sty);obtain⟨fl,hfl⟩:=aA ((B x.id).fl);obtain⟨ap,hap⟩:=aA ((B x.id).ap);rw[hs,hap]at hnr ⊢;rw[hfl,hap]at hn;rw[hfl];rw[hfl]at hki;obtain⟨T1,hT1⟩:∃T:Fw.Ld->List Fw.Ld,(λk=>tl B Y.ww Y.wh f1 (edg s k))=T:=⟨_,rfl⟩;obtain⟨T2,hT2⟩:∃T:Int->List Fw.Ld,(λk=>tl B Y.ww Y.wh f1 (Qx B Y.ww Y.wh f1 k x))=T:=⟨_,rfl⟩;obtain⟨c1,hc1⟩:∃c:Int->Nat,nJ B f1=c:=⟨_,rfl⟩;obtain⟨c2,hc2⟩:∃c:Int->Nat,(λk=>Fw.cst B f1 k+nJ B f1 k)=c:=⟨_,rfl⟩;obtain⟨cz,hcz⟩:=aA (Fw.cst B f x.id);rw[hT1,hT2]at hnr ⊢;rw[hcz,hc2]at hn ⊢;rw[hc1]at hn ⊢;have HT1:=ah hT1;have HT2:=ah hT2;have Ww:=ah hc1;have HC2:=ah hc2
 have HKD:Hid (∀k∈kids,D k.id/\F k.id=f1/\EO Y B F D f1/\Wf k.i0/\Wf k.i1):=ah λk hk=>by
  have hm:k.id∈fl:=by rw[<-hki];exact List.mem_map_of_mem hk
  have h:=W.down x.id hz k.id (by rw[hfl];exact hm);have e:f=f1+1:=by omega
  rw[<-Nr,e]at hk;have hb:=Fw.Sr (Fw.Vq B f1 x.id x.i0 x.i1 k hk);exact⟨h.1,by omega,hT f1 e,by rw[iQ];omega,by rw[iQ];omega⟩
 have HAD:Hid (∀k∈ap,D k/\F k=f1/\EO Y B F D f1/\vO Y B F D nP f1):=ah λk hk=>by
  have h:=ZE x.id hz k (by rw[hap];exact hk);have e:f=f1+1:=by omega
  exact⟨h.1,by omega,hT f1 e,(J4 Y W f1).2⟩
 have ahB:kids.length<=10000:=by
  have h:=W.len x.id hz;rw[hfl,<-hki,jb7]at h;omega
 have hla:ap.length<=10000:=by
  have h:=acA x.id hz;rw[hap]at h;exact h
 have HKI:=ah hki;have HS:=ah hs;have HAP:=ah hap;have HN:=ah hn;have HNR:=ah hnr;have HR:=ah hR;have ahC:=ah Nr;have HIN:=ah ((J4 Y W f).1);have HCZ:=ah hcz;obtain⟨b0,hb0⟩:=aA (Y.bl x.id);obtain⟨hbx,_,ahD⟩:=hR.box x.id hz;obtain⟨Aa,cpa,hva,hIa,_,_,_⟩:=ahD.ints;rw[hap]at hva;have HVA:=ah hva;rw[hb0,hs,hva]at hbx;generalize Y.vf x.id=zvf at hbx;generalize (B x.id).ib=Oo at hbx
 have n0p:b0≠Y.pm:=λe=>by
  rw[e]at hbx;exact absurd (At.uniq hbx oz) aW
 have n0r:b0≠Y.rm:=λe=>by
  rw[e]at hbx;exact absurd (At.uniq hbx hrm1) aW
 have nlr:Y.lb≠Y.rm:=λe=>by
  have h1:=hR.lay;rw[e]at h1;exact absurd (At.uniq h1 hrm1) aW
 have U4:=hbx.lt;have hTS:TS Y B F D w P n P nr g w:=⟨hR,FK,hP,λb h => .inl h,Sm,hG,Out.refl _ _⟩;have b01:Below w w (w.alloc (.cells (dV x) 101)):=aB aD _;have A0:At (w.alloc (.cells (dV x) 101)) w.heap.size (.cells (dV x) 101):=At.new _ _;have ZF:=hTS.after hrb EM hR Nq hrm b01;have YN:=ah (aL.keep hbx b01);have KA:=hR.wf x.id hz;clear hT1 hT2 hc1 hc2 hki hfl hap hs hn hnr Nr hbx ahD hva hIa hTS FK hcz hR oz hrm1 ae2 ae3;have HZ:=ah hz;go_enter Tryz.func44,Tryz.ntmps44
 go_upto_region 1 with(fail)
 generalize hW:ja4 _ _=w1;have e1:w.alloc (.cells (dV x) 101)=w1:=hW;rw[e1]at b01 A0 ZF YN;clear hW e1;have hsz:=b01.size;have hlk:=λX (h:Below w1 w1 X)=>(ZF.ro.keep nP.keep h).look hz;simp only[hb0]at hlk;obtain⟨lY,xC,xD,zy,zA,zB,zC⟩:=At.six ZF.ro.lay;obtain⟨lN,d0,d1,d2,d3,d4,d5,d6⟩:=At.seven (b:=w.heap.size) A0;have hSd:Below w1 w1 w1.drew:=Below.drew aD;refine iC (S:=λX=>Below w1 w1 X) 9 ?_ ?_
 . exact hSd
 intro hx;clear hSd;refine aF 0 ?_;refine aF 1 ?_;refine aF 2 ?_;refine aF 3 ?_;refine aF 4 ?_;refine aF 5 ?_;refine aF 6 ?_;refine jh 7 rfl (aZ aR rfl rfl rfl (λX h=>hlk X h)) ?_;refine aF 8 ?_;refine gZ ?_;have hx2:Below w1 w1 w1.drew:=hx;generalize w1.drew=w3 at *;have EP:=ZF.after hrb EM HR.out Nq hrm hx2;have B3:=A0.keep hx2;have Ah:=ah (aL.keep YN.out hx2);have abU:=hx2.size;clear hx hx2 hlk xC xD zy zA zB zC lY lN d0 d1 d2 d3 d4 d5 d6 A0 ZF YN b01 hb0;obtain⟨lY,xC,xD,zy,zA,zB,zC⟩:=At.six EP.ro.lay;obtain⟨lN,d0,d1,d2,d3,d4,d5,d6⟩:=At.seven (b:=w.heap.size) B3;obtain⟨W5,nr5,ahE,hrun,hG5,BI⟩:=(show GM 3 w3.drew Y.rm nr g from EP.gm.out (M:=λ_=>False) (λq=>q) ((Out.refl _ _).drew)).put (v:=rcv x) iT Tryz.underlying28 (by have:=HNR.out;simp only[ja9]at this;omega) (iA KA);have zF:=ah hrun;have n1r:w.heap.size≠Y.rm:=by omega
 have hbr:∀X,(Instr.build 40 #[(0,.int .i64 (Fx.cut x.a0)),(1,.int .i64 (Fx.cut x.a1)),(2,.int .i64 (Fx.cut x.s0)),(3,.int .i64 (Fx.cut x.s1))]).run ja0 X=.ok (rcv x) X:=λX=>by kernel_rfl
 clear hrun
 go_upto_region 2 with(fail)
 have hSd:Out (λb=>b=Y.rm) w3 w3.drew:=(Out.refl _ _).drew;refine iC (S:=λX=>Out (λb=>b=Y.rm) w3 X) 25 ?_ ?_
 . exact hSd
 intro hx;clear hSd
 (refine aj.aN (i:=0) rfl aV aV aV aV ak (by assumption) qm ?_;(try simp only[Act.put,ja1,ja2,ja3]))
 (refine aj.aN (i:=1) rfl aV aV aV aV ak (by assumption) qm ?_;(try simp only[Act.put,ja1,ja2,ja3]))
 (refine aj.aN (i:=2) rfl aV aV aV aV ak (by assumption) qm ?_;(try simp only[Act.put,ja1,ja2,ja3]))
 (refine aj.aN (i:=3) rfl aV aV aV aV ak (by assumption) qm ?_;(try simp only[Act.put,ja1,ja2,ja3]))
 (refine aj.aN (i:=4) rfl aV aV aV aV ak (by assumption) qm ?_;(try simp only[Act.put,ja1,ja2,ja3]))
 (refine aj.aN (i:=5) rfl aV aV aV aV ak (by assumption) qm ?_;(try simp only[Act.put,ja1,ja2,ja3]))
 (refine aj.aN (i:=6) rfl aV aV aV aV ak (by assumption) qm ?_;(try simp only[Act.put,ja1,ja2,ja3]))
 (refine aj.aN (i:=7) rfl aV aV aV aV ak (by assumption) qm ?_;(try simp only[Act.put,ja1,ja2,ja3]))
 (refine aj.aN (i:=8) rfl aV aV aV aV ak (by assumption) qm ?_;(try simp only[Act.put,ja1,ja2,ja3]))
 (refine aj.aN (i:=9) rfl aV aV aV aV ak (by assumption) qm ?_;(try simp only[Act.put,ja1,ja2,ja3]))
 (refine aj.aN (i:=11) rfl aV aV aV aV ak (by assumption) qm ?_;(try simp only[Act.put,ja1,ja2,ja3]))
 (refine aj.aN (i:=12) rfl aV aV aV aV ak (by assumption) qm ?_;(try simp only[Act.put,ja1,ja2,ja3]))
 (refine aj.aN (i:=13) rfl aV aV aV aV ak (by assumption) qm ?_;(try simp only[Act.put,ja1,ja2,ja3]))
 (refine aj.aN (i:=15) rfl aV aV aV aV ak (by assumption) qm ?_;(try simp only[Act.put,ja1,ja2,ja3]))
 (refine aj.aN (i:=16) rfl aV aV aV aV ak (by assumption) qm ?_;(try simp only[Act.put,ja1,ja2,ja3]))
 (refine aj.aN (i:=17) rfl aV aV aV aV ak (by assumption) qm ?_;(try simp only[Act.put,ja1,ja2,ja3]))
 (refine aj.aN (i:=19) rfl aV aV aV aV ak (by assumption) qm ?_;(try simp only[Act.put,ja1,ja2,ja3]))
 (refine aj.aN (i:=20) rfl aV aV aV aV ak (by assumption) qm ?_;(try simp only[Act.put,ja1,ja2,ja3]))
 (refine aj.aN (i:=21) rfl aV aV aV aV ak (by assumption) qm ?_;(try simp only[Act.put,ja1,ja2,ja3]))
 refine tk1 10 ?_;refine aj.Step.call eD (eu _ _) ?_;rintro e' w9 ⟨rfl,rfl⟩;refine⟨_,rfl,λ_=>hx,?_⟩
 (try simp only[bM,bN,bO,tks])
 refine tk1 14 ?_;refine aj.Step.call eD (eu _ _) ?_;rintro e' w9 ⟨rfl,rfl⟩;refine⟨_,rfl,λ_=>hx,?_⟩
 (try simp only[bM,bN,bO,tks])
 refine tk1 18 ?_;refine aj.Step.call eD (eu _ _) ?_;rintro e' w9 ⟨rfl,rfl⟩;refine⟨_,rfl,λ_=>hx,?_⟩
 (try simp only[bM,bN,bO,tks])
 refine tk1 22 ?_;refine aj.Step.call eD (eu _ _) ?_;rintro e' w9 ⟨rfl,rfl⟩;refine⟨_,rfl,λ_=>hx,?_⟩
 (try simp only[bM,bN,bO,tks])
 (refine aj.aN (i:=23) rfl aV aV aV aV ak (by assumption) qm ?_;(try simp only[Act.put,ja1,ja2,ja3]))
 refine tk1 24 ?_;refine aj.Step.skip (nI (.tmp 21) (.tmp 24) (.tmp 41) rfl rfl rfl rfl zF.out) ?_;have J6:Out (λb=>b=Y.rm) w3 W5:=((Out.refl _ w3).drew).trans BI;refine⟨λ_=>J6,?_⟩
 (try simp only[bM,bN,bO,tks])
 refine gZ ?_;clear hx hbr zF;have B5:=B3.out (M:=λb=>b=Y.rm) n1r J6;have Gq:=ah (At.out (M:=λb=>b=Y.rm) Ah.out n0r J6)
 have ZG:TS Y B F D w P n P nr5 (xO g (.int .i64 x.id) (rcv x)) W5 :=
  EP.told hrb EM HR.out Nq hrm (EP.kp.out J6 λb hb e=>EP.nrm (e▸hb)) (λb h => .inl h) hG5 (J6.mono λb _ h => .inr h) |> λh=>⟨h.ro,EP.kp.out J6 λb hb e=>EP.nrm (e▸hb),λb hb=>aT (EP.lt b hb) J6.size,EP.new,EP.nrm,hG5,h.out⟩
 have hsz5:=J6.size;clear EP B3 Ah J6 BI hG5 xC xD zy zA zB zC lY lN d0 d1 d2 d3 d4 d5 d6;obtain⟨lN,d0,d1,d2,d3,d4,d5,d6⟩:=At.seven (b:=w.heap.size) B5;have nT:=HIN.out x.id x.i0 x.i1 W5 n P HZ.out hf h0 h1 ZG.ro ZG.kp ZG.lt (by have:=HN.out;have:=HCZ.out;omega);rw[HCZ.out]at nT;have hfc:=λ(v:Value) (h:Int) (X:World)=>EN v h X;have ahF:=ah ZG;clear ZG
 go_upto_region 4 with(go_at_call 83;(with_reducible refine nT.mono ?_);rintro e' w6 ⟨v,n2,P2,rfl,hcv,hn2,hK2,hP2,iV⟩;obtain⟨Ak,cpk,rfl,hld⟩:=hcv;rw[ahC.out]at hld ⊢)
 obtain⟨kl,hkl⟩:=aA kids.length;rw[hkl]at ahB;rw[hkl];have HKL:=ah hkl;have Ns:fl.length=kl:=by rw[<-HKI.out,jb7,hkl]
 have Vr:=ah Ns;have hs6:=iV.size;have acB:=ahF.out.laid hrb EM HR.out Nq hrm hK2 hP2 iV;have B6:=B5.out (M:=λb=>b=Y.pm) ak iV;have M6:=ah (At.out (M:=λb=>b=Y.pm) Gq.out n0p iV);obtain⟨bK,csK,hrow⟩:∃bK csK,kids=[]\/(Ak=some ⟨bK,0,none⟩/\At w6 bK (.cells csK 101)/\∀i (h:i<kids.length) j,j<7->csK[i*7+j]? = (dV kids[i])[j]?):=by
  rcases hld with h|⟨b,cs,e1,_,e2,e3⟩
  . exact⟨0,#[],.inl h⟩
  . exact⟨b,cs,.inr ⟨e1,e2,e3⟩⟩
 obtain⟨N6,hN6⟩:=aA w6.heap.size;have HN6:=ah hN6
 have BJ:Hid (kids≠[]->Ak=some ⟨bK,0,none⟩/\bK<N6/\bK≠Y.pm/\bK≠Y.rm/\∀i (h:i<kids.length) j,j<7->csK[i*7+j]? = (dV kids[i])[j]?):=ah λhne=>by
  rcases hrow with h|⟨e1,e2,e3⟩
  . exact absurd h hne
  . refine⟨e1,by rw[<-hN6];exact e2.lt,λe => ?_,λe => ?_,e3⟩
    . obtain⟨es,ck,hp⟩:=acB.ro.FJ
      rw[e]at e2;exact absurd (At.uniq e2 hp) aW
    . obtain⟨es,ck,hp⟩:=acB.gm.obj
      rw[e]at e2;exact absurd (At.uniq e2 hp) aW
 have ahG:Hid (kids≠[]->At w6 bK (.cells csK 101)):=ah λhne=>by
  rcases hrow with h|⟨e1,e2,e3⟩
  . exact absurd h hne
  . exact e2
 have HC6:Hid (xO g (.int .i64 x.id) (rcv x)=jU (xO g (.int .i64 x.id) (rcv x)) ((kids.take 0).flatMap T1)):=ah (by simp[jU]);have hNw:w.heap.size<N6:=by have:=B6.lt;omega
 clear hkl Ns hld hrow hK2 hP2 iV B5 Gq ahF nT lN d0 d1 d2 d3 d4 d5 d6 hfc hN6
 go_loopw [48] (λiv wr=>∃(i n':Nat) (P':Nat->Prop) (Aj:Nat) (g':Lit->Option Value),i<=kl/\iv=.int .i64 i/\n'<=n+cz+((fl.take i).map c1).sum/\Aj<=nr+1+((kids.take i).flatMap T1).length/\TS Y B F D w P n' P' Aj g' wr/\Hid (g'=jU (xO g (.int .i64 x.id) (rcv x)) ((kids.take i).flatMap T1))/\At wr w (.cells (dV x) 101)/\Hid (aL wr b0 s zvf (.slice Aa ap.length cpa) Oo)/\Hid (kids≠[]->At wr bK (.cells csK 101))/\N6<=wr.heap.size) (λiv _=>kl-(intOf iv).toNat)
 case atStart=>exact⟨0,n2,_,nr5,_,eX _,rfl,by simpa using hn2,by simpa using ahE,acB,HC6,B6,M6,ahG,by rw[HN6.out];exact aH _⟩
 case round =>
  clear acB HC6 B6 M6 ahG hn2 ahE;obtain⟨i,n',P',Aj,g',hi,rfl,hn',ZH,Gx,hgg,A0,wH,hAK,FL⟩:=hrel;by_cases hlt:i<kl
  . have hltz:(i:Int)<(kl:Int):=by omega
    have hik:i<kids.length:=by rw[HKL.out];exact hlt
    have ajC:i<fl.length:=by rw[Vr.out];exact hlt
    have hne:kids≠[]:=λe=>by rw[e]at hik;simp at hik
    obtain⟨rfl,lK5,nKp,nKr,ahH⟩:=BJ.out hne;obtain⟨k0,hk0⟩:=aA (kids[i]);have hkd:=ah (HKD.out k0 (hk0▸jc3 _))
    have HKC:Hid (∀j,j<7->wr.cell? ⟨bK,i*7+j,none⟩=(dV k0)[j]?):=ah λj hj=>by
     rw[(hAK.out hne).cell,<-hk0];exact ahH i hik j hj
    have ae4:fl[i]=k0.id:=by
     have e:=HKI.out;rw[<-hk0];simp only[<-e,List.getElem_map]
    have HID:=ah ae4;have HK0:=ah hk0;have vU:=ah Gx;have lKr:=(hAK.out hne).lt;have ab8:((fl.take (i+1)).map c1).sum=((fl.take i).map c1).sum+c1 k0.id:=by rw[xq c1 ajC,ae4]
    have agA:=Bp c1 fl (i+1);have Qz:(kids.take (i+1)).flatMap T1=(kids.take i).flatMap T1++T1 k0:=by rw[vT T1 hik,hk0]
    have ae5:=xu T1 kids (i+1);rw[Qz,ja7]at ae5;have ZI:=ah Qz;have hnn:=HN.out;have ae6:=HNR.out;rw[ja9,ja7]at ae6;clear hk0 ae4 Gx ahH Qz
    go_upto_region 6 with(first|(refine eB zZ mP aR _ rfl rfl (dB k0) HKC.out ?_)|(refine Cj aR rfl ?_)|(refine Al aR _ _ rfl rfl rfl Z4m ?_))
    generalize hW:World.setRow _ _ _=W7;obtain⟨K,hKq⟩:=aA wr.heap.size;have AK:At W7 K (.cells (dV k0) 101):=hW▸hKq▸At.setRow (At.new _ _) _;have nW:Below wr wr W7:=hW▸aM (aB aD _) aC _;have gK:wr.heap.size<=K:=Nat.le_of_eq hKq;rw[hKq];clear hW hKq lKr;have ae7:=ah (aL.keep wH.out nW);have n0K:b0≠K:=by omega
    go_wp2;refine wp_loop_rounds 3 ?_;rw[rounds_succ];obtain⟨lb7,q55,q56,q57,q58,q59,q60,c67,c68⟩:=At.bx0 ae7.out;obtain⟨lK,QA,QB,QC,QD,QE,QF,QG⟩:=At.seven (b:=K) AK;have zK5:=AK.thaw 5;clear q55 q56 q57 q58 q59 q60 c68
    go_upto_region 9 with(fail)
    refine xA 14 1 ?_
    (repeat (first|refine jc ?_ | refine jd ?_ (hc:=by intro w2 hS;first|with_reducible exact iq hS (iO _))|refine je ?_))
    refine aj.bL ?_;intro w2 hS;clear lb7 c67 lK QA QB QC QD QE QF QG zK5;replace AK:=At.keep AK hS;have ahI:=ah (aL.keep ae7.out hS);have oq:=Below.ay nW aC hS;obtain⟨lK,QA,QB,QC,QD,QE,QF,QG⟩:=At.seven (b:=K) AK;have zK5:=AK.thaw 5;clear hS ae7 nW;refine wz ?_;intro K hK;go_simp;refine hK _ _ (aj.bC ?_);clear hK K;generalize hW:ja5 _ _ _=W9;obtain⟨p0,hp0⟩:=aA (IntKind.i64.wrap (k0.a0+Fw.ed s 3));have AK9:At W9 K (.cells (dV { k0 with a0:=p0 }) 101):=by
     rw[<-hW,<-hp0];exact At.set AK 5 _
    have fK:Below wr wr W9:=by
     rw[<-hW];exact Below.setCell oq gK _
    have Nb:=ah (show aL W9 b0 s zvf (.slice Aa ap.length cpa) Oo from hW▸At.off ahI.out n0K 5 _);clear hW lK QA QB QC QD QE QF QG zK5 AK ahI oq;go_wp2;rw[rounds_succ];obtain⟨lb7,q61,q62,q63,q64,q65,q66,c69,c70⟩:=At.bx1 Nb.out;obtain⟨lK,QA,QB,QC,QD,QE,QF,QG⟩:=At.seven (b:=K) AK9;have zK6:=AK9.thaw 6;clear q61 q62 q63 q64 q65 q66 c70
    go_upto_region 9 with(fail)
    refine xA 14 1 ?_
    (repeat (first|refine jc ?_ | refine jd ?_ (hc:=by intro w2 hS;first|with_reducible exact iq hS (iO _))|refine je ?_))
    refine aj.bL ?_;intro w2 hS;clear lb7 c69 lK QA QB QC QD QE QF QG zK6;replace AK9:=At.keep AK9 hS;have gY:=Below.ay fK aC hS;obtain⟨lK,QA,QB,QC,QD,QE,QF,QG⟩:=At.seven (b:=K) AK9;have zK6:=AK9.thaw 6;clear hS Nb fK;refine wz ?_;intro K hK;go_simp;refine hK _ _ (aj.bC ?_);clear hK K;generalize hW:ja5 _ _ _=Ch;obtain⟨p1,hp1⟩:=aA (IntKind.i64.wrap (k0.a1+Fw.ed s 0));obtain⟨k1,hk1⟩:∃k:Fw.Ld,{ k0 with a0:=p0,a1:=p1 }=k:=⟨_,rfl⟩;have ahJ:At Ch K (.cells (dV k1) 101):=by
     rw[<-hW,<-hk1,<-hp1];exact At.set AK9 6 _
    have fF:Below wr wr Ch:=by
     rw[<-hW];exact Below.setCell gY gK _
    have HED:Hid (edg s k0=k1):=ah (by unfold edg;rw[<-qK (k0.a0+_),<-qK (k0.a1+_),hp0,hp1,hk1]);have ahK:k1.id=k0.id/\k1.i0=k0.i0/\k1.i1=k0.i1:=by rw[<-hk1];exact⟨rfl,rfl,rfl⟩
    have Vs:=ah ahK;clear hW lK QA QB QC QD QE QF QG zK6 AK9 gY hp0 hp1 hk1 ahK;go_wp2;rw[rounds_succ];have ER:=ah (vU.out.after hrb EM HR.out Nq hrm fF);have A11:=A0.keep fF;have vS:=ah (aL.keep wH.out fF);have adr:Hid (kids≠[]->At Ch bK (.cells csK 101)):=ah λh=>(hAK.out h).keep fF;have ak3:=fF.size;have ads:Hid (∀j,j<7->Ch.cell? ⟨K,0+j,none⟩=(dV k1)[j]?):=ah λj hj=>by rw[Nat.zero_add];exact ahJ.cell j
    have ae8:T1 k0=tl B Y.ww Y.wh f1 k1:=by rw[<-HT1.out,<-HED.out]
    have acC:=hkd.out.2.2;have mQ:=acC.1 k1 Ch n' P' Aj g' (by rw[Vs.out.1];exact hkd.out.1) (by rw[Vs.out.1];exact hkd.out.2.1) (by rw[Vs.out.2.1];exact acC.2.1) (by rw[Vs.out.2.2];exact acC.2.2) ER.out.ro ER.out.kp ER.out.lt ER.out.nrm ER.out.gm (by rw[Vs.out.1,Ww.out];omega) (by rw[<-ae8];omega);rw[Vs.out.1,Ww.out,<-ae8]at mQ;clear ae8 acC;clear vU hAK wH A0 fF
    go_upto_region 12 with(first|(refine eB zZ mP aR _ rfl rfl (dB k1) ads.out ?_)|(go_at_call 44;(with_reducible refine mQ.mono ?_);rintro e' wO ⟨rfl,n3,P3,nr3,hn3,hK3,hP3,ahL,hG3,hO3⟩))
    have ZJ:=ER.out.told hrb EM HR.out Nq hrm hK3 hP3 hG3 hO3;have ak4:=hO3.size;have A12:=A11.out (M:=λb=>b=Y.pm\/b=Y.rm) ak hO3;have Ig:=ah (At.out (M:=λb=>b=Y.pm\/b=Y.rm) vS.out ak hO3);have ahM:Hid (kids≠[]->At wO bK (.cells csK 101)):=ah λh=>(adr.out h).out (M:=λb=>b=Y.pm\/b=Y.rm) ak hO3;have ZK:Hid (jU g' (T1 k0)=jU (xO g (.int .i64 x.id) (rcv x)) ((kids.take (i+1)).flatMap T1)):=ah (by rw[ZI.out,za,<-hgg.out]);have hlen:((kids.take (i+1)).flatMap T1).length=((kids.take i).flatMap T1).length+(T1 k0).length:=by rw[ZI.out,ja7]
    clear ER hK3 hP3 hG3 hO3 A11 vS adr mQ ahJ HKC ads hgg;go_wp2
    go_roundw
    case rel=>exact⟨i+1,n3,_,nr3,_,by omega,by go_num,by omega,by omega,ZJ,ZK,A12,Ig,ahM,by omega⟩
    case measure=>simp[intOf];omega
  . obtain rfl:i=kl:=by omega
    have htk:kids.take i=kids:=jb6 (by rw[HKL.out];exact aH _);have htf:fl.take i=fl:=jb6 (by rw[Vr.out];exact aH _);rw[htk]at ZH hgg;rw[htf]at hn';have vU:=ah Gx;obtain⟨al,hal⟩:=aA ap.length;rw[hal]at hla;have HAL:=ah hal;have Kt:=aL.lt wH.out;have c72:wr.cell? ⟨b0,72,none⟩=some (.slice Aa ap.length cpa):=aL.ext wH.out 17;rw[hal]at c72;clear hal Gx hAK htk htf hlt
    go_upto_region 14 with(fail)
    clear c72 Kt;have ahN:Hid (g'=jU (xO g (.int .i64 x.id) (rcv x)) (kids.flatMap T1++(ap.take 0).flatMap T2)):=ah (by simpa using hgg.out);have hn0:=hn';have ahO:=ZH;have ahP:=vU.out
    go_loopw [79] (λiv wr=>∃(i n':Nat) (P':Nat->Prop) (Aj:Nat) (g':Lit->Option Value),i<=al/\iv=.int .i64 i/\n'<=n+cz+(fl.map c1).sum+((ap.take i).map c2).sum/\Aj<=nr+1+(kids.flatMap T1).length+((ap.take i).flatMap T2).length/\TS Y B F D w P n' P' Aj g' wr/\Hid (g'=jU (xO g (.int .i64 x.id) (rcv x)) (kids.flatMap T1++(ap.take i).flatMap T2))/\At wr w (.cells (dV x) 101)) (λiv _=>al-(intOf iv).toNat)
    case atStart=>exact⟨0,n',P',Aj,g',eX _,rfl,by simpa using hn0,by simpa using ahO,ahP,ahN,A0⟩
    case round =>
     clear ahP ahN A0 hn0 ahO vU hgg wH hn' ZH;obtain⟨j,n',P',Aj,g',hj,rfl,hn',ZH,Gx,hgg,A0⟩:=hrel;by_cases hlt:j<al
     . have hltz:(j:Int)<(al:Int):=by omega
       have hja:j<ap.length:=by rw[HAL.out];exact hlt
       have hIa:=acy HVA.out (Gx.ro.box x.id HZ.out).2.2;rw[HAP.out]at hIa;obtain⟨b2,o2,rfl,lb2,cb2⟩:=hIa.at_ hja;obtain⟨kid,qJ⟩:=aA (ap[j]);rw[show ap.getD j 0=kid by rw[<-qJ,List.getD,List.getElem?_eq_getElem hja];rfl]at cb2;have had:=ah (HAD.out kid (qJ▸jc3 _));have vU:=ah Gx;have ab8:((ap.take (j+1)).map c2).sum=((ap.take j).map c2).sum+c2 kid:=by rw[xq c2 hja,qJ]
       have agA:=Bp c2 ap (j+1);have Qz:(ap.take (j+1)).flatMap T2=(ap.take j).flatMap T2++T2 kid:=by rw[vT T2 hja,qJ]
       have ae5:=xu T2 ap (j+1);rw[Qz,ja7]at ae5;have ZI:=ah Qz;have hnn:=HN.out;have ae6:=HNR.out;rw[ja9,ja7]at ae6;have ak5:c2 kid=Fw.cst B f1 kid+nJ B f1 kid:=by rw[<-HC2.out]
       have ae9:T2 kid=tl B Y.ww Y.wh f1 (Qx B Y.ww Y.wh f1 kid x):=by rw[<-HT2.out]
       clear hIa qJ Gx Qz
       go_upto_region 16 with(fail)
       clear cb2 lb2;have HXC:Hid (∀j,j<7->wr.cell? ⟨w,0+j,none⟩=(dV x)[j]?):=ah λj hj=>by rw[Nat.zero_add];exact A0.cell j
       have lNr:=A0.lt;obtain⟨y,hy⟩:=aA (Qx B Y.ww Y.wh f1 kid x);have ahQ:y.id=kid/\Wf y.i0/\Wf y.i1:=by
        rw[<-hy];have hb:=Fw.Sr ((Fw.rQ B f1 kid (Ai (B kid).sty (B x.id).sty Y.ww Y.wh x.s0 x.s1).r0 (Ai (B kid).sty (B x.id).sty Y.ww Y.wh x.s0 x.s1).r1 (apS (B kid).sty (Ai (B kid).sty (B x.id).sty Y.ww Y.wh x.s0 x.s1).r0) (Vl (B kid).sty 1 (Ai (B kid).sty (B x.id).sty Y.ww Y.wh x.s0 x.s1).r1 (Ai (B kid).sty (B x.id).sty Y.ww Y.wh x.s0 x.s1).r0)));exact⟨rfl,by rw[iQ];unfold Qx;simp only[];omega,by rw[iQ];unfold Qx;simp only[];omega⟩
       have HYI:=ah ahQ;have uI:Calls ja0 84 #[Y.lb,kid,.agg (dV x)] wr λe w'=>e=.returned (.agg (dV y))/\∃n2 P2,n2<=n'+Fw.cst B f1 kid/\Kp Y B F n2 P2 w'/\(∀b,P2 b->P' b\/wr.heap.size<=b)/\Out (λb=>b=Y.pm) wr w':=by
        rw[<-hy]
        exact(acv had.out.2.2.2 nP.keep nP.out vU.out.ro vU.out.ro.kinds.lt kid x HZ.out had.out.1 had.out.2.1 wr n' P' (pJ.start vU.out.kp vU.out.lt) ak (B kid).sty (B x.id).sty rfl rfl _ _ _ _ _ _ (ae1 (B kid).sty (B x.id).sty Y.ww Y.wh x.s0 x.s1) _ rfl).mono λe w' ⟨he,n2,P2,h1,h2,h3,h4⟩=>⟨he,n2,P2,h1,h2.kp,λb hb=>by
         by_cases hq:b<wr.heap.size
         . exact .inl (h3 b hq hb)
         . exact .inr ak,h4⟩
       have mQ:∀X n2 P2,TS Y B F D w P n2 P2 Aj g' X->n2<=n'+Fw.cst B f1 kid->Calls ja0 44 #[Y.lb,.agg (dV y)] X λe w'=>e=.returned (.tuple #[])/\∃n3 P3 nr3,n3<=n2+nJ B f1 kid/\Kp Y B F n3 P3 w'/\(∀b,P3 b->P2 b\/X.heap.size<=b)/\nr3<=Aj+(T2 kid).length/\GM 3 w' Y.rm nr3 (jU g' (T2 kid))/\Out (λb=>b=Y.pm\/b=Y.rm) X w':=λX n2 P2 h h2=>by
        have hq:=had.out.2.2.1 y X n2 P2 Aj g' (by rw[HYI.out.1];exact had.out.1) (by rw[HYI.out.1];exact had.out.2.1) HYI.out.2.1 HYI.out.2.2 h.ro h.kp h.lt h.nrm h.gm (by rw[HYI.out.1];omega) (by rw[<-hy,<-ae9];omega);rw[HYI.out.1,<-hy,<-ae9,hy]at hq;exact hq
       clear ae9 hy ahQ
       go_upto_region 17 with(first|(refine eB zZ mP aR _ rfl rfl (dB x) HXC.out ?_)|(go_at_call 84;(with_reducible refine uI.mono ?_);rintro e' w8 ⟨rfl,n2,P2,hn2,hK2,hP2,hO2⟩;have ae':=vU.out.laid hrb EM HR.out Nq hrm hK2 hP2 hO2;have adt:=mQ w8 n2 _ ae' hn2;have ahR:=ah ae';clear ae')|(go_at_call 44;(with_reducible refine adt.mono ?_);rintro e' wO ⟨rfl,n3,P3,nr3,hn3,hK3,hP3,ahL,hG3,hO3⟩))
       have ZJ:=ahR.out.told hrb EM HR.out Nq hrm hK3 hP3 hG3 hO3;have hs8:=hO2.size;have A12:=(A0.out (M:=λb=>b=Y.pm) ak hO2).out (M:=λb=>b=Y.pm\/b=Y.rm) ak hO3;have ZK:Hid (jU g' (T2 kid)=jU (xO g (.int .i64 x.id) (rcv x)) (kids.flatMap T1++(ap.take (j+1)).flatMap T2)):=ah (by rw[ZI.out,<-List.append_assoc,za,<-hgg.out]);have hlen:((ap.take (j+1)).flatMap T2).length=((ap.take j).flatMap T2).length+(T2 kid).length:=by rw[ZI.out,ja7]
       clear ahR hK3 hP3 hG3 hO3 hK2 hP2 hO2 uI mQ adt HXC hgg A0 vU;go_wp2
       go_roundw
       case rel=>exact⟨j+1,n3,_,nr3,_,by omega,by go_num,by omega,by omega,ZJ,ZK,A12⟩
       case measure=>simp[intOf];omega
     . obtain rfl:j=al:=by omega
       have hta:ap.take j=ap:=jb6 (by rw[HAL.out];exact aH _);rw[hta]at hn' ZH hgg;have vU:=ah Gx;have HGG:=ah hgg.out;clear Gx hta hlt hgg A0;go_wp2;refine bodyPost_end (results_none rfl _ _ _) rfl ⟨rfl,n',P',Aj,by omega,vU.out.kp,vU.out.new,by simp only[ja9,ja7];omega,?_,vU.out.out.mono λb hb q => ?_⟩
       . have h1:=vU.out.gm
         rw[HGG.out]at h1;exact h1
       . rcases q with q|q|q
         . exact .inl q
         . exact .inr q
         . omega
theorem ZL(Y:p9)(W:Wk B F D)(ZE:∀z,D z->∀k∈(B z).ap,D k/\F z=F k+1)(acA:∀z,D z->(B z).ap.length<=10000)(hrb:Y.rm≠Y.bm)(EM:Y.rm≠Y.km):∀f,EO Y B F D f:=by
 intro f
 induction f with
 | zero=>exact Sv W ZE acA hrb EM 0 λf' e=>by omega
 | succ f ih=>exact Sv W ZE acA hrb EM (f+1) λf' e=>by obtain rfl:f=f':=ak;exact ih
end
end Go.Proofs.YtdnggaapcgomhaaGreat.Fix
