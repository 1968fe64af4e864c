/- Steps of the program (15); no conditions. -/
import Derived.Test.YtdnggaapcgomhaaGreatM14
set_option linter.all false
set_option maxRecDepth 100000
set_option maxHeartbeats 16000000
namespace Go.Proofs.YtdnggaapcgomhaaGreat.Fix
open Go.ChangeShapes Go.WideShapes Go.ChangeAt Go.RowKit
open Go.Proofs.Tryz renaming prog → ja0
section
open Go.Deep
open World renaming alloc → ja4,setCell → ja5,setRow → jb9
def Pr.mt(p q:Pr):Pr:=⟨Fx.WG p.x p.y p.w p.h q.x q.y q.w q.h (Fx.mLo p.x p.w q.x q.w),Fx.WG p.x p.y p.w p.h q.x q.y q.w q.h (Fx.mLo p.y p.h q.y q.h),Fx.WG p.x p.y p.w p.h q.x q.y q.w q.h (Fx.Le p.x p.w q.x q.w),Fx.WG p.x p.y p.w p.h q.x q.y q.w q.h (Fx.Le p.y p.h q.y q.h)⟩
def Pr.ins(p:Pr)(s:Re.St):Pr:=⟨Fx.add p.x (Fw.ed s 3),Fx.add p.y (Fw.ed s 0),Fx.less p.w (Fx.add (Fx.add 0 (Fw.ed s 1)) (Fw.ed s 3)),Fx.less p.h (Fx.add (Fx.add 0 (Fw.ed s 0)) (Fw.ed s 2))⟩
def inA(bx pE kx ky:Int)(c h:Pr):Array Value:=#[pt bx pE,ng kx ky,c.x,c.y,c.w,c.h,h.x,h.y,h.w,h.h]
theorem Ny(a b:Value)(c0 c1 c2 c3 h0 h1 h2 h3 bx pE kx ky:Int)(W:World):(Instr.build 176 #[(0,pt bx pE),(1,ng kx ky),(2,.agg #[c0,c1,c2,c3]),(3,.agg #[h0,h1,h2,h3])]).run ja0 W=.ok (.agg #[pt bx pE,ng kx ky,c0,c1,c2,c3,h0,h1,h2,h3]) W:=by kernel_rfl
theorem acJ(p q:Pr)(w:World):Calls ja0 127 #[.agg #[p.x,p.y,p.w,p.h],.agg #[q.x,q.y,q.w,q.h]] w λe w'=>e=.returned (p.mt q).ag/\Below w w w':=UA p.x p.y p.w p.h q.x q.y q.w q.h w
theorem afo(p:Pr)(s:Re.St)(w:World):Calls ja0 30 #[.agg #[p.x,p.y,p.w,p.h],.agg #[Fw.ed s 0,Fw.ed s 1,Fw.ed s 2,Fw.ed s 3]] w λe w'=>e=.returned (p.ins s).ag/\Below w w w':=Ei p.x p.y p.w p.h (Fw.ed s 0) (Fw.ed s 1) (Fw.ed s 2) (Fw.ed s 3) w
theorem E5(p:Pr)(a b:Int)(w:World):Calls ja0 18 #[.agg #[p.x,p.y,p.w,p.h],ng a b] w λe w'=>e=.returned (p.mv (-a) (-b)).ag/\Below w w w':=VD p.x p.y p.w p.h a b w
theorem Kg(p:Pr)(a b:Int)(w:World):Calls ja0 18 #[.agg #[p.x,p.y,p.w,p.h],pt a b] w λe w'=>e=.returned (p.mv a b).ag/\Below w w w':=Hu p.x p.y p.w p.h a b w
theorem afp(W:World):(sizeOf 42).run ja0 W=.ok 8 W:=by kernel_rfl
theorem afq(x y u v x' y' u' v':Int):∀z∈(#[x,y,u,v,x',y',u',v']:Array Value).toList,z.oneCell'=true:=by
 intro z hz;simp at hz;rcases hz with rfl|rfl|rfl|rfl|rfl|rfl|rfl|rfl<;>rfl
theorem QJ{o:Oper}{a:Act}{w w':World}(ps:Array (Nat×Operand))(ho:o.op=.build 176 ps){v:Value}(qs:Array (Nat×Value))(hq:(ps.map λp=>(p.1,a.eval p.2))=qs)(hrun:(Instr.build 176 qs).run ja0 w=.ok v w'):(execOp a.eval o).run ja0 w=.ok (.value v) w':=by
 unfold execOp;simp only[ho,hq,Sem.run_bind,hrun,Result.andThen_ok,Sem.run_pure]
theorem QK(W:World):(sizeOf 176).run ja0 W=.ok 10 W:=by kernel_rfl
theorem aac(x y u v x' y' u' v' a b c d:Int):∀z∈(#[pt a b,ng c d,x,y,u,v,x',y',u',v']:Array Value).toList,z.oneCell'=true:=by
 intro z hz;simp at hz;rcases hz with rfl|rfl|rfl|rfl|rfl|rfl|rfl|rfl|rfl|rfl<;>rfl
theorem wN{ops:Array Oper}{S:World->Prop}{o:Oper}{a:Act}(p:Operand){T i:Nat}{x0 x1 x2 x3:Int}(hw:Region.wanted o (yielded ops a.tmps)=true)(ho:o.op=.load 40 p)(hp:a.eval p=.pointer (some ⟨T,i,none⟩))(h:∀X,S X->X.cell? ⟨T,i,none⟩=some (.int .i64 x0)/\X.cell? ⟨T,i+1,none⟩=some (.int .i64 x1)/\X.cell? ⟨T,i+2,none⟩=some (.int .i64 x2)/\X.cell? ⟨T,i+3,none⟩=some (.int .i64 x3)):aj.Reads ja0 ops S o (.agg #[x0,x1,x2,x3]) a :=
 .inl ⟨hw,λX hX=>fM ZW sD p ho hp rfl λj hj=>by
  obtain⟨c0,c1,c2,c3⟩:=h X hX
  match j,hj with
  | 0,_=>exact c0
  | 1,_=>exact c1
  | 2,_=>exact c2
  | 3,_=>exact c3⟩
section
variable {w:World} {t n:Nat} {L:Lay} {T:Tr.T} {m:Nat} {S:Int->Option (Pr×Pr)}
def clO(s:Re.St)(a b:Pr):Pr:=if s.c 2=0 then b else b.mt (a.prt s)
theorem Nz(h:dQ w t L T n)(mo ms:Nat)(hsm:SM w ms S)(z:Int)(hz:Wf z)(q:Pr)(a b:Pr)(hab:(S z).getD (p0,p0)=(a,b))(s:Re.St)(hs:bQ T z=s)(kx ky:Int)(ah5:∀X,Below w w X->Calls ja0 126 #[.agg (vw t m mo q ms),z] X λe w'=>e=.returned (pt kx ky)/\Below X.heap.size X w'):Calls ja0 92 #[.agg (vw t m mo q ms),z] w λe w'=>e=.returned (.agg (inA a.x a.y kx ky (clO s a b) ((a.ins s).mv (-kx) (-ky))))/\Below w w w':=by
 have hlk:=λX (hb:Below w w X)=>(hsm.keep hb).look hz hab;have kS:=λX (hb:Below w w X)=>dH (h.after hb) hz;simp only[show(T z).elim Re.zero (·.sty)=s from hs]at kS;have zu:=ah hlk;have Uo:=ah kS;have HSC:=ah ah5;obtain⟨c,hc⟩:=aA (clO s a b);have Rz:=ah hc;obtain⟨hd,hhd⟩:=aA ((a.ins s).mv (-kx) (-ky));have HHD:=ah hhd;rw[hc,hhd];obtain⟨q0,q1,q2,q3⟩:=q;simp only[vw]at *;clear h hsm hab hlk kS hs ah5 hc hhd;go_enter Tryz.func92,Tryz.ntmps92
 go_upto_region 1 with(fail)
 generalize hW:ja4 _ _=W0;have A0:At W0 w (.cells #[t,.map (some m),.map (some mo),q0,q1,q2,q3,.map (some ms)] 119):=hW▸At.alloc (At.new _ _) _;have A1:At W0 (w.heap.size+1) (.cells #[.complex .f64 0 0,.complex .f64 0 0,(),(),(),(),(),(),(),()] 176):=hW▸At.new' _ aW;have hB:Below w w W0:=hW▸aB (aB aD _) _;clear hW;refine aj.fQ (λa0 a' W5=>∃(Tp Tq:Nat) (u9 u10 u11 u12 u13 u14 u15 u16:Value),a'={ a0 with tmps:=((((((((((a0.tmps.setIfInBounds 9 u9).setIfInBounds 10 u10).setIfInBounds 11 u11).setIfInBounds 12 u12).setIfInBounds 13 u13).setIfInBounds 14 u14).setIfInBounds 15 u15).setIfInBounds 16 u16).setIfInBounds 5 (.pointer Tp)).setIfInBounds 6 (.pointer Tq)) }/\W0.heap.size<=Tp/\W0.heap.size<=Tq/\Tp≠Tq/\At W5 Tp (.cells (cells s) 68)/\At W5 Tq (.cells #[a.x,a.y,a.w,a.h,b.x,b.y,b.w,b.h] 42)/\Below W0 W0 W5) ?_ ?_
 . have hlk:=λX (h:Below W0 W0 X)=>zu.out X (hB.trans (h.mono hB.size))
   have kS:=λX (h:Below W0 W0 X)=>Uo.out X (hB.trans (h.mono hB.size));clear zu Uo HSC Rz HHD;have HC:∀X,Below W0 W0 X->(X.cell? ⟨w,0,none⟩=some (.pointer t)/\X.cell? ⟨w,7,none⟩=some (.map (some ms))/\Below W0 W0 X):=λX h=>⟨(A0.keep h).cell 0,(A0.keep h).cell 7,h⟩;have hSd:=HC _ (Below.drew aD);clear hB;refine iC (S:=(λX=>X.cell? ⟨w,0,none⟩=some (.pointer t)/\X.cell? ⟨w,7,none⟩=some (.map (some ms))/\Below W0 W0 X)) 11 ?_ ?_
   . exact hSd
   intro hS0;have hx:Below W0 W0 W0.drew:=Below.drew aD;clear hSd;refine aO 0 ?_;refine aO 1 ?_;refine aO 2 ?_;refine aO 4 ?_;refine aO 5 ?_;refine aO 6 ?_;refine jh 7 rfl (aZ aR rfl rfl rfl (λX h=>hlk X h.2.2)) ?_;clear hlk hS0;generalize W0.drew=W1 at *;refine aj.tN 3 [3,8,9] [12,5,6] (λ_=>[]) (λi=>if i=3 then aj.Rv (.agg (cells s))else if i=8 then aj.Ra (.cells (cells Re.zero) 68)else aj.Ra (.cells #[(),(),(),(),(),(),(),()] 42)) ⟨⟨λ_ _ _ _ _ h _=>h,_,rfl,rfl,λW hb=>aj.Step.call eD (kS W (Below.ay hx aC hb)) λ_ _ h=>⟨_,h.1,h.2,rfl⟩⟩,⟨λ_ _ _ _ _ h hb=>aj.Ra.keep h hb,_,rfl,rfl,λW hb=>aj.Ra.made (jA rfl)⟩,⟨λ_ _ _ _ _ h hb=>aj.Ra.keep h hb,_,rfl,rfl,λW hb=>aj.Ra.made eD⟩,trivial⟩ (λX h=>HC _ (Below.ay hx aC h)) ?_;intro vs s0 e0 W hb hI hp;have e3:vs 3=_:=(hI 3 aW).2.2;obtain⟨gp,-, e8,lp,Ap⟩:=hI 8 aW;obtain⟨gq,-, e9,lq,Aq⟩:=hI 9 aW;have ED:=hp 8 aW 9 aW aG
   (try simp only[aj.mU,aj.oG,aj.jC,aj.mR,List.map_cons,List.map_nil,e3,e8,e9]);(try simp only[bM,bN,bO,tks])
   generalize s0 8=Tp at *;generalize s0 9=Tq at *;replace ED:Tp≠Tq:=by omega
   replace gp:=aJ hx.size gp;replace gq:=aJ hx.size gq;replace hx:=Below.ay hx aC hb;clear hI hp hb e3 e8 e9 lp lq;refine tk1 10 ?_;refine aj.Step.skip (jB (.tmp 5) (.tmp 12) rfl rfl rfl Ap) ?_;have V4:At (W.setRow Tp (cells s)) Tp (.cells (cells s) 68):=At.setRow Ap _;have Wt:=At.gF Aq ED.symm (cells s);have hx1:=aM hx gp (cells s);generalize W.setRow Tp (cells s)=x1 at *;refine⟨λ_=>HC _ hx1,?_⟩
   (try simp only[bM,bN,bO,tks])
   refine tk1 11 ?_;refine aj.Step.skip (aY (q:=0) afp (.tmp 6) (.tmp 16) rfl rfl rfl Wt rfl aW (afq _ _ _ _ _ _ _ _)) ?_;rw[dZ (cs:=#[(),(),(),(),(),(),(),()]) (vs:=#[a.x,a.y,a.w,a.h,b.x,b.y,b.w,b.h]) rfl];have Aq3:=At.setRow Wt #[a.x,a.y,a.w,a.h,b.x,b.y,b.w,b.h];have Ap3:=At.gF V4 ED #[a.x,a.y,a.w,a.h,b.x,b.y,b.w,b.h];have hx2:=aM hx1 gq #[a.x,a.y,a.w,a.h,b.x,b.y,b.w,b.h];generalize x1.setRow Tq #[.int .i64 a.x,.int .i64 a.y,.int .i64 a.w,.int .i64 a.h,.int .i64 b.x,.int .i64 b.y,.int .i64 b.w,.int .i64 b.h]=x2 at *;refine⟨λhlt=>absurd hlt aG,?_⟩
   (try simp only[bM,bN,bO,tks])
   refine gZ ?_;exact⟨rfl,Tp,Tq,_,_,_,_,_,_,_,_,rfl,gp,gq,ED,Ap3,Aq3,hx2⟩
 rintro a' W5 ⟨Tp,Tq,u9,u10,u11,u12,u13,u14,u15,u16,rfl,gp,gq,ED,Ap,Aq,hb5⟩;have kr:=hB.trans (hb5.mono hB.size);have A05:=A0.keep hb5;have A15:=A1.keep hb5;have l1:=A1.lt;have kC:=HSC.out W5 kr;have hng:=QI kx ky;clear A0 A1 hB hb5 HSC zu Uo;obtain⟨l0,c0,c1,c2,c3,c4,c5,c6,c7⟩:=A05.eight
 go_upto_region 3 with(go_at_call 126;(with_reducible refine kC.mono ?_);rintro e w6 ⟨rfl,hb6⟩)
 have zm:=kr.trans (hb6.mono kr.size);replace A15:=A15.keep hb6;replace Ap:=Ap.keep hb6;replace Aq:=Aq.keep hb6;clear l0 c0 c1 c2 c3 c4 c5 c6 c7 kC hng A05 kr hb6;obtain⟨l0,c0,c1,c2,c3,c4,c5,c6,c7⟩:=Aq.eight
 go_upto_region 4 with(fail)
 have ltp:=Ap.lt;have ltq:=Aq.lt;obtain⟨b8,oq⟩:=aA w6.heap.size;generalize hW:ja4 _ _=W7;rw[oq];have A8:At W7 b8 (.cells #[b.x,b.y,b.w,b.h] 40):=hW▸oq▸At.new _ _;have nW:Below w6 w6 W7:=hW▸aB aD _;have CG:=zm.trans (nW.mono zm.size);have A14:=A15.keep nW;replace Ap:=Ap.keep nW;replace Aq:=Aq.keep nW;have n18:w.heap.size+1<b8:=by have:=A15.lt;omega
 have np8:Tp<b8:=by have:=ltp;omega
 have nq8:Tq<b8:=by have:=ltq;omega
 clear l0 c0 c1 c2 c3 c4 c5 c6 c7 hW nW A15 zm oq ltp ltq;have HTQ:=λX (h:Below W7 W7 X)=>(⟨(Aq.keep h).cell 0,(Aq.keep h).cell 1,(Aq.keep h).cell 2,(Aq.keep h).cell 3⟩:X.cell? ⟨Tq,0,none⟩=some (.int .i64 a.x)/\X.cell? ⟨Tq,0+1,none⟩=some (.int .i64 a.y)/\X.cell? ⟨Tq,0+2,none⟩=some (.int .i64 a.w)/\X.cell? ⟨Tq,0+3,none⟩=some (.int .i64 a.h));have kMV:=λX=>E5 (a.ins s) kx ky X;simp only[HHD.out,Pr.ag]at kMV;have f2:=Ap.st 2 aG rfl;have lp:=Ap.lt
 go_upto_if 25 with(fail)
 go_cut []from 26 to 31 (λW=>At W b8 (.cells #[c.x,c.y,c.w,c.h] 40)/\Out (λx=>x=b8) W7 W)
 case first =>
  by_cases c2:s.c 2=0
  . have Wv:(s.c 2 != 0)=false:=by simp[c2]
    have e:=Rz.out;unfold clO at e;rw[if_pos c2]at e;subst e;have HA8:=ah A8;clear f2 lp A8;go_wp2
    go_meet
    case rel=>exact⟨HA8.out,Out.refl _ _⟩
  . have Wv:(s.c 2 != 0)=true:=by simp[c2]
    have e:=Rz.out;unfold clO at e;rw[if_neg c2]at e;obtain⟨v,hv⟩:=aA (a.prt s);rw[hv]at e;have kP:=λX=>tO a s X;simp only[hv,Pr.ag]at kP;have kMt:=λX=>acJ b v X;simp only[e,Pr.ag]at kMt;clear e hv Rz
    go_upto_region 5 with(fail)
    clear f2 lp Wv;have hSd:Below W7 W7 W7.drew:=Below.drew aD;refine iC (S:=λX=>Below W7 W7 X) 6 ?_ ?_
    . exact hSd
    intro hx;clear hSd;refine jh 0 rfl (nK (.tmp 8) aR rfl rfl (λX h=>A8.keep h)) ?_;refine aF 1 ?_;refine jh 2 rfl (wN (.tmp 27) aR rfl rfl (λX h=>HTQ X h)) ?_;refine jh 3 rfl (eP aR (.tmp 5) rfl rfl (λX h=>Ap.keep h)) ?_;refine tk1 4 ?_;refine BH (kP _) hx ?_;clear hx;intro y4 hx;refine tk1 5 ?_;refine BH (kMt _) hx ?_;clear hx;intro y5 hx;refine tk1 6 ?_;refine aj.Step.skip (aY (q:=0) sD (.tmp 8) (.tmp 31) rfl rfl rfl (A8.keep hx) rfl aW (sF _ _ _ _)) ?_;rw[dZ (cs:=#[b.x,b.y,b.w,b.h]) (vs:=#[c.x,c.y,c.w,c.h]) rfl];have HA9:=ah (At.setRow (A8.keep hx) #[c.x,c.y,c.w,c.h]);have Hz:Out (λx=>x=b8) W7 (y5.setRow b8 #[c.x,c.y,c.w,c.h]):=Out.setRow (M:=λx=>x=b8) (Out.of_below hx) rfl _;refine⟨λhlt=>absurd hlt aG,?_⟩
    (try simp only[bM,bN,bO,tks])
    refine gZ ?_;go_wp2
    go_meet
    case rel=>exact⟨HA9.out,Hz⟩
 case rest =>
  obtain⟨A8,hO⟩:=hcut;have X4:Below w w wc:=CG.trans (hO.below CG.size λx hx e=>by omega);replace Ap:=Ap.out (M:=λx=>x=b8) ak hO;replace Aq:=Aq.out (M:=λx=>x=b8) ak hO;replace A14:=A14.out (M:=λx=>x=b8) ak hO;clear f2 lp HTQ hO CG;have HTQ:=λX (h:Below wc wc X)=>(⟨(Aq.keep h).cell 0,(Aq.keep h).cell 1,(Aq.keep h).cell 2,(Aq.keep h).cell 3⟩:X.cell? ⟨Tq,0,none⟩=some (.int .i64 a.x)/\X.cell? ⟨Tq,0+1,none⟩=some (.int .i64 a.y)/\X.cell? ⟨Tq,0+2,none⟩=some (.int .i64 a.w)/\X.cell? ⟨Tq,0+3,none⟩=some (.int .i64 a.h))
  go_upto_region 6 with(fail)
  have hSd:Below wc wc wc.drew:=Below.drew aD;refine iC (S:=λX=>Below wc wc X) 13 ?_ ?_
  . exact hSd
  intro hx;clear hSd;refine aF 0 ?_;refine jh 1 rfl (wN (.tmp 32) aR rfl rfl (λX h=>HTQ X h)) ?_;refine aF 3 ?_;refine jh 4 rfl (nK (.tmp 8) aR rfl rfl (λX h=>A8.keep h)) ?_;refine aF 5 ?_;refine jh 6 rfl (wN (.tmp 37) aR rfl rfl (λX h=>HTQ X h)) ?_;refine jh 7 rfl (eP aR (.tmp 5) rfl rfl (λX h=>Ap.keep h)) ?_;refine aF 10 ?_;refine tk1 2 ?_;refine BH (Bb a.x a.y a.w a.h _) hx ?_;clear hx;intro y2 hx;refine tk1 8 ?_;refine BH (Ec s _) hx ?_;clear hx;intro y8 hx;refine tk1 9 ?_;refine BH (afo a s _) hx ?_;clear hx;intro y9 hx;refine tk1 11 ?_;refine BH (kMV _) hx ?_;clear hx;intro y11 hx;refine tk1 12 ?_;refine aj.Step.value (QJ _ rfl #[(0,pt a.x a.y),(1,ng kx ky),(2,.agg #[c.x,c.y,c.w,c.h]),(3,.agg #[hd.x,hd.y,hd.w,hd.h])] Wy (Ny (.bool true) (.bool true) c.x c.y c.w c.h hd.x hd.y hd.w hd.h a.x a.y kx ky y11)) ?_;refine⟨λ_=>hx,?_⟩
  (try simp only[bM,bN,bO,tks])
  refine tk1 13 ?_;have A4:=A14.keep hx;refine aj.Step.skip (aY (q:=0) QK (.tmp 4) (.tmp 44) rfl rfl rfl A4 rfl aW (aac _ _ _ _ _ _ _ _ _ _ _ _)) ?_;rw[dZ (cs:=#[.complex .f64 0 0,.complex .f64 0 0,(),(),(),(),(),(),(),()]) (vs:=#[pt a.x a.y,ng kx ky,c.x,c.y,c.w,c.h,hd.x,hd.y,hd.w,hd.h]) rfl];have A9:=At.setRow A4 #[pt a.x a.y,ng kx ky,c.x,c.y,c.w,c.h,hd.x,hd.y,hd.w,hd.h];have GI:=aM (X4.trans (hx.mono X4.size)) (Nat.le_succ w.heap.size) #[pt a.x a.y,ng kx ky,c.x,c.y,c.w,c.h,hd.x,hd.y,hd.w,hd.h];refine⟨λhlt=>absurd hlt aG,?_⟩
  (try simp only[bM,bN,bO,tks])
  refine gZ ?_;go_wp2;have l9:=A9.lt;obtain⟨e0,e1,e2,e3,e4,e5,e6,e7,e8,e9⟩:_/\_/\_/\_/\_/\_/\_/\_/\_/\_:=⟨A9.cell 0,A9.cell 1,A9.cell 2,A9.cell 3,A9.cell 4,A9.cell 5,A9.cell 6,A9.cell 7,A9.cell 8,A9.cell 9⟩;refine bodyPost_ret (v:=.agg #[pt a.x a.y,ng kx ky,_,_,_,_,_,_,_,_]) (by simp[results,Tryz.results92,go_sem, *];first|done|exact⟨rfl,rfl⟩|exact⟨rfl,rfl,rfl,rfl,rfl,rfl,rfl,rfl⟩|rfl) rfl ⟨rfl,GI⟩
end
section
variable {w:World} {t n:Nat} {L:Lay} {T:Tr.T} {m:Nat} {R:Int->Option Pr}
theorem Kh(h:dQ w t L T n)(hmm:RM w m R)(mo ms:Nat)(z:Int)(hz:Wf z)(q:Pr)(s:Re.St)(hs:bQ T z=s)(hp3:s.c 1=3)(bx pE kx ky:Int)(cl hd:Pr):Calls ja0 93 #[.agg (vw t m mo q ms),z,.agg (inA bx pE kx ky cl hd)] w λe w'=>e=.returned (.agg (Ao ((R z).getD p0) q))/\Below w w w':=by
 have kS:=λX (hb:Below w w X)=>dH (h.after hb) hz;simp only[show(T z).elim Re.zero (·.sty)=s from hs]at kS;have kU:=λX (hb:Below w w X)=>xw (t:=t) (hmm.keep hb) hz q mo ms;obtain⟨p,hp⟩:=aA ((R z).getD p0);simp only[hp]at kU;rw[hp];obtain⟨q0,q1,q2,q3⟩:=q;simp only[vw,inA,Ao]at *;clear h hmm hs hp;go_enter Tryz.func93,Tryz.ntmps93
 go_upto_region 1 with(fail)
 generalize hW:ja4 _ _=W0;have A0:At W0 w (.cells #[t,.map (some m),.map (some mo),q0,q1,q2,q3,.map (some ms)] 119):=hW▸At.alloc (At.alloc (At.new _ _) _) _;have A2:At W0 (w.heap.size+1+1) (.cells #[(),(),(),(),(),(),(),()] 42):=hW▸At.new' _ aW;have hB:Below w w W0:=hW▸aB (aB (aB aD _) _) _;clear hW;obtain⟨l0,c0,c1,c2,c3,c4,c5,c6,c7⟩:=A0.eight;have kS0:=kS W0 hB
 go_upto_region 2 with(first|(refine aS aR rfl ?_)|(refine bE aR rfl ?_)|(refine aQ aR _ rfl rfl oC ?_)|(refine bF aR _ _ rfl rfl rfl oC ?_)|(refine aU aR _ _ rfl rfl rfl oC ?_)|(go_at_call 22;(with_reducible refine kS0.mono ?_);rintro e w3 ⟨rfl,hb3⟩))
 obtain⟨bs,hbs⟩:=aA w3.heap.size;generalize hW:jb9 _ _ _=w4;have A4:At w4 bs (.cells (cells s) 68):=hW▸hbs▸At.setRow (At.new _ _) _;have hb4:Below W0 W0 w4:=hW▸aM (aB hb3 _) hb3.size _;rw[hbs];have KN:=A4.lt;have f1:=A4.st 1 aG rfl;have hB4:=hB.trans (hb4.mono hB.size);replace A0:=A0.keep hb4;replace A2:=A2.keep hb4;have p3b:(s.c 1==3)=true:=by simp[hp3]
 have kU4:=kU w4 hB4;clear hW kS kS0 hb3 hbs A4 hb4 hB kU l0 c0 c1 c2 c3 c4 c5 c6 c7;obtain⟨l0,c0,c1,c2,c3,c4,c5,c6,c7⟩:=A0.eight
 go_wp2_with (go_at_call 55;(with_reducible refine kU4.mono ?_);rintro e w5 ⟨rfl,hb5⟩;have A5:=A2.keep hb5;obtain⟨l2,d0,d1,d2,d3,d4,d5,d6,d7⟩:=A5.eight;have z0:=A5.thaw 0;have z1:=A5.thaw 1;have z2:=A5.thaw 2;have z3:=A5.thaw 3;have z4:=A5.thaw 4;have z5:=A5.thaw 5;have z6:=A5.thaw 6;have z7:=A5.thaw 7;have kr:=hB4.trans (hb5.mono hB4.size))
 generalize hW:ja5 _ _ _=W2;have A9:At W2 (w.heap.size+1+1) (.cells #[p.x,p.y,p.w,p.h,q0,q1,q2,q3] 42):=hW▸At.set (At.set (At.set (At.set (At.set (At.set (At.set (At.set A5 0 _) 1 _) 2 _) 3 _) 4 _) 5 _) 6 _) 7 _;exact Z1d
end
section
variable {w:World} {t n:Nat} {L:Lay} {T:Tr.T} {m:Nat} {R:Int->Option Pr}
theorem Ki(h:dQ w t L T n)(hmm:RM w m R)(mo ms:Nat)(z:Int)(hz:Wf z)(q:Pr)(s:Re.St)(hs:bQ T z=s)(hp3:s.c 1≠3)(hp4:s.c 1≠4)(bx pE kx ky:Int)(cl hd:Pr):Calls ja0 93 #[.agg (vw t m mo q ms),z,.agg (inA bx pE kx ky cl hd)] w λe w'=>e=.returned (.agg (Ao ((((R z).getD p0).mv bx pE).mv (-kx) (-ky)) cl))/\Below w w w':=by
 have kS:=λX (hb:Below w w X)=>dH (h.after hb) hz;simp only[show(T z).elim Re.zero (·.sty)=s from hs]at kS;obtain⟨p,hp⟩:=aA ((R z).getD p0);have hlk:=λX (hb:Below w w X)=>(hmm.keep hb).look hz;simp only[hp]at hlk;rw[hp];obtain⟨u,hu⟩:=aA (p.mv bx pE);have kM1:=λX=>Kg p bx pE X;simp only[hu,Pr.ag]at kM1;rw[hu];obtain⟨v,hv⟩:=aA (u.mv (-kx) (-ky));have kM2:=λX=>E5 u kx ky X;simp only[hv,Pr.ag]at kM2;rw[hv];have zu:=ah hlk;have hbd:=xW;obtain⟨q0,q1,q2,q3⟩:=q;simp only[vw,inA,Ao]at *;clear h hmm hs hp hu hv hlk;go_enter Tryz.func93,Tryz.ntmps93
 go_upto_region 1 with(fail)
 generalize hW:ja4 _ _=W0;have A0:At W0 w (.cells #[t,.map (some m),.map (some mo),q0,q1,q2,q3,.map (some ms)] 119):=hW▸At.alloc (At.alloc (At.new _ _) _) _;have A1:At W0 (w.heap.size+1) (.cells #[pt bx pE,ng kx ky,cl.x,cl.y,cl.w,cl.h,hd.x,hd.y,hd.w,hd.h] 176):=hW▸At.alloc (At.new' _ aW) _;have A2:At W0 (w.heap.size+1+1) (.cells #[(),(),(),(),(),(),(),()] 42):=hW▸At.new' _ aW;have hB:Below w w W0:=hW▸aB (aB (aB aD _) _) _;clear hW;obtain⟨l0,c0,c1,c2,c3,c4,c5,c6,c7⟩:=A0.eight;have kS0:=kS W0 hB
 go_upto_region 2 with(first|(refine aS aR rfl ?_)|(refine bE aR rfl ?_)|(refine aQ aR _ rfl rfl oC ?_)|(refine bF aR _ _ rfl rfl rfl oC ?_)|(refine aU aR _ _ rfl rfl rfl oC ?_)|(go_at_call 22;(with_reducible refine kS0.mono ?_);rintro e w3 ⟨rfl,hb3⟩))
 obtain⟨bs,hbs⟩:=aA w3.heap.size;generalize hW:jb9 _ _ _=w4;have A4:At w4 bs (.cells (cells s) 68):=hW▸hbs▸At.setRow (At.new _ _) _;have hb4:Below W0 W0 w4:=hW▸aM (aB hb3 _) hb3.size _;rw[hbs];have KN:=A4.lt;have f1:=A4.st 1 aG rfl;have hB4:=hB.trans (hb4.mono hB.size);replace A0:=A0.keep hb4;replace A1:=A1.keep hb4;replace A2:=A2.keep hb4;have p3b:(s.c 1==3)=false:=by simp[hp3]
 clear hW kS kS0 hb3 hbs hb4 hB l0 c0 c1 c2 c3 c4 c5 c6 c7
 go_upto_region 4 with(fail)
 refine aj.fQ (λa0 a' W5=>∃(Tp:Nat) (u20 u21 u22 u23 u24 u25 u26 u27 u28 u29:Value),a'={ a0 with tmps:=(((((((((((a0.tmps.setIfInBounds 20 u20).setIfInBounds 21 u21).setIfInBounds 22 u22).setIfInBounds 23 u23).setIfInBounds 24 u24).setIfInBounds 25 u25).setIfInBounds 26 u26).setIfInBounds 27 u27).setIfInBounds 28 u28).setIfInBounds 29 u29).setIfInBounds 8 (.pointer Tp)) }/\w4.heap.size<=Tp/\At W5 Tp (.cells #[v.x,v.y,v.w,v.h] 40)/\Below w4 w4 W5) ?_ ?_
 . have hlk:=λX (h:Below w4 w4 X)=>zu.out X (hB4.trans (h.mono hB4.size))
   clear zu KN f1 p3b A4 hbd;exact Z3
 rintro a' W5 ⟨Tp,u20,u21,u22,u23,u24,u25,u26,u27,u28,u29,rfl,gp,Ap,hb5⟩;have kr:=hB4.trans (hb5.mono hB4.size);replace A1:=A1.keep hb5;replace A2:=A2.keep hb5;have f1':=(A4.keep hb5).st 1 aG rfl;have lb5:=(A4.keep hb5).lt;have p4b:(s.c 1==4)=false:=by simp[hp4]
 clear A0 hB4 A4 f1 KN p3b hb5 kM1 kM2 zu;obtain⟨lp,e0,e1,e2,e3⟩:=At.four Ap;have l1:=A1.lt;obtain⟨i2,i3,i4,i5⟩:_/\_/\_/\_:=⟨A1.cell 2,A1.cell 3,A1.cell 4,A1.cell 5⟩;obtain⟨l2,d0,d1,d2,d3,d4,d5,d6,d7⟩:=A2.eight;have z0:=A2.thaw 0;have z1:=A2.thaw 1;have z2:=A2.thaw 2;have z3:=A2.thaw 3;have z4:=A2.thaw 4;have z5:=A2.thaw 5;have z6:=A2.thaw 6;have z7:=A2.thaw 7;go_wp2;generalize hW:ja5 _ _ _=W2;have A9:At W2 (w.heap.size+1+1) (.cells #[v.x,v.y,v.w,v.h,cl.x,cl.y,cl.w,cl.h] 42):=hW▸At.set (At.set (At.set (At.set (At.set (At.set (At.set (At.set A2 0 _) 1 _) 2 _) 3 _) 4 _) 5 _) 6 _) 7 _;exact Z1d
end
end
section
open World renaming alloc → ja4
theorem aad(a b:Int):St.over a b=max (Fx.sub a b) 0:=by unfold St.over;split<;>omega
theorem Aw(a b:Int):St.least a b=min a b:=by unfold St.least;split<;>omega
theorem mV(a b:Int)(w:World):Calls ja0 197 #[a,b] w λe w'=>e=.returned (.int .i64 (St.over a b))/\w=w':=by
 go_enter Tryz.func197,Tryz.ntmps197
 go_wp2_with (first|(go_at_call 52;with_reducible refine mI (kD _ _ _) ?_))
 go_ret
 exact⟨bA (aad a b).symm,rfl⟩
theorem Ip(pU phi:Int)(qZ:Bool)(pV:Int)(w:World):Calls ja0 217 #[.agg #[pU,phi],.agg #[qZ,pV]] w λe w'=>e=.returned (.int .i64 (Fx.add pU pV))/\Below w w w':=by
 go_enter Tryz.func217,Tryz.ntmps217
 go_wp2_with (first|(go_at_call 67;with_reducible refine mI (iR _ _ _) ?_))
 exact Z1y
theorem E8(oD uw pU phi:Int)(qZ:Bool)(pV:Int)(w:World):Calls ja0 196 #[.agg #[oD,uw],.agg #[pU,phi],.agg #[qZ,pV]] w λe w'=>e=.returned (.int .i64 (St.down oD pU qZ pV))/\Below w w w':=by
 cases qZ with
 | false =>
   go_enter Tryz.func196,Tryz.ntmps196
   go_wp2;exact Z1y
 | true =>
   go_enter Tryz.func196,Tryz.ntmps196
   go_upto_region 3 with(fail)
   refine rZ ?_ (h0:=by first|assumption|exact Below.refl _ _)
   (repeat (first|refine jc ?_ | refine jd ?_ (hc:=by intro w2 hS;first|with_reducible exact iq hS (Ip _ _ _ _ _)|with_reducible exact zn hS (mV _ _ _))|refine je ?_))
   refine aj.bD ?_;intro w2 hS;go_wp2;exact Z1y
theorem aae(oD uw pU phi:Int)(qZ:Bool)(pV:Int)(x9:Bool)(wE:Int)(w:World):Calls ja0 198 #[.agg #[oD,uw],.agg #[pU,phi],.agg #[qZ,pV],.agg #[x9,wE]] w λe w'=>e=.returned (.int .i64 (St.up oD uw pU phi qZ pV x9 wE))/\Below w w w':=by
 cases x9 with
 | false =>
   go_enter Tryz.func198,Tryz.ntmps198
   go_wp2;exact Z1y
 | true =>
   cases qZ with
   | false =>
     go_enter Tryz.func198,Tryz.ntmps198
     go_upto_region 1 with(fail)
     (generalize hW:ja4 (ja4 (ja4 (ja4 w _) _) _) _=W0;have A0:At W0 (w.heap.size) (.cells #[oD,uw] 114):=Z43;have A1:At W0 (w.heap.size+1) (.cells #[pU,phi] 114):=WE;have A2:At W0 (w.heap.size+1+1) (.cells #[false,pV] 210):=Tc;have A3:At W0 (w.heap.size+1+1+1) (.cells #[true,wE] 210):=Td;have hB:Below w w W0:=Z47;clear hW;have c0:=A0.lc;have c1:=A1.lc;have c2:=A2.lc;have c3:=A3.lc)
     go_upto_region 3 with(fail)
     refine rZ ?_
     (repeat (first|refine jc ?_ | refine jd ?_ (hc:=by intro w2 hS;first|with_reducible exact zn hS (kD _ _ _)|with_reducible exact zn hS (mV _ _ _))|refine je ?_))
     refine aj.bD ?_;intro w2 hS
     (clear c0 c1 c2 c3);(replace hB:=Below.ay qN aC hS);replace A0:=At.keep uL hS;replace A1:=At.keep sH hS;replace A2:=At.keep uh hS;replace A3:=At.keep zG hS;clear hS;have c0:=A0.lc;have c1:=A1.lc;have c2:=A2.lc;have c3:=A3.lc
     go_wp2
     go_ret
     exact⟨rfl,hB⟩
   | true =>
     go_enter Tryz.func198,Tryz.ntmps198
     go_upto_region 1 with(fail)
     (generalize hW:ja4 (ja4 (ja4 (ja4 w _) _) _) _=W0;have A0:At W0 (w.heap.size) (.cells #[oD,uw] 114):=Z43;have A1:At W0 (w.heap.size+1) (.cells #[pU,phi] 114):=WE;have A2:At W0 (w.heap.size+1+1) (.cells #[true,pV] 210):=Tc;have A3:At W0 (w.heap.size+1+1+1) (.cells #[true,wE] 210):=Td;have hB:Below w w W0:=Z47;clear hW;have c0:=A0.lc;have c1:=A1.lc;have c2:=A2.lc;have c3:=A3.lc)
     go_upto_region 3 with(fail)
     refine rZ ?_
     (repeat (first|refine jc ?_ | refine jd ?_ (hc:=by intro w2 hS;first|with_reducible exact zn hS (kD _ _ _)|with_reducible exact zn hS (mV _ _ _))|refine je ?_))
     refine aj.bD ?_;intro w2 hS
     (clear c0 c1 c2 c3);(replace hB:=Below.ay qN aC hS);replace A0:=At.keep uL hS;replace A1:=At.keep sH hS;replace A2:=At.keep uh hS;replace A3:=At.keep zG hS;clear hS;have c0:=A0.lc;have c1:=A1.lc;have c2:=A2.lc;have c3:=A3.lc
     go_upto_region 5 with(fail)
     refine rZ ?_
     (repeat (first|refine jc ?_ | refine jd ?_ (hc:=by intro w2 hS;first|with_reducible exact iq hS (Ip _ _ _ _ _)|with_reducible exact zn hS (mV _ _ _))|refine je ?_))
     refine aj.bD ?_;intro w2 hS
     (clear c0 c1 c2 c3);(replace hB:=Below.ay qN aC hS);replace A0:=At.keep uL hS;replace A1:=At.keep sH hS;replace A2:=At.keep uh hS;replace A3:=At.keep zG hS;clear hS;have c0:=A0.lc;have c1:=A1.lc;have c2:=A2.lc;have c3:=A3.lc
     go_wp2
     go_ret
     refine⟨bA ?_,hB⟩;simp only[St.up,if_true,Aw]
theorem QL{oD uw ilo ihi pU phi:Int}{qZ:Bool}{pV:Int}{x9:Bool}{wE:Int}(h:0<St.down oD pU qZ pV):St.shift oD uw ilo ihi pU phi qZ pV x9 wE=min (St.down oD pU qZ pV) (St.over ihi uw):=by unfold St.shift;rw[if_pos h,Aw]
theorem aaf{oD uw ilo ihi pU phi:Int}{qZ:Bool}{pV:Int}{x9:Bool}{wE:Int}(h:¬ 0<St.down oD pU qZ pV):St.shift oD uw ilo ihi pU phi qZ pV x9 wE = -min (St.up oD uw pU phi qZ pV x9 wE) (St.over oD ilo):=by
 have h1:=(St.ac2 oD uw pU phi qZ pV x9 wE).1;have h2:=St.Cy oD ilo;unfold St.shift;rw[if_neg h,Aw];split<;>omega
theorem Iq(oD uw ilo ihi pU phi:Int)(qZ:Bool)(pV:Int)(x9:Bool)(wE:Int)(w:World):Calls ja0 166 #[.agg #[oD,uw],.agg #[ilo,ihi],.agg #[pU,phi],.agg #[qZ,pV],.agg #[x9,wE]] w λe w'=>e=.returned (.int .i64 (St.shift oD uw ilo ihi pU phi qZ pV x9 wE))/\Below w w w':=by
 have h1:=St.ac2 oD uw pU phi qZ pV x9 wE;have h2:=St.Cy oD ilo;have h3:=St.Jk oD ilo;have hw:IntKind.i64.wrap (-min (St.up oD uw pU phi qZ pV x9 wE) (St.over oD ilo)) = -min (St.up oD uw pU phi qZ pV x9 wE) (St.over oD ilo):=IntWalk.i64_in _ ak;clear h1 h2 h3;by_cases hd:0<St.down oD pU qZ pV
 . have Hr:=ah (QL (uw:=uw) (ilo:=ilo) (ihi:=ihi) (phi:=phi) (x9:=x9) (wE:=wE) hd)
   go_enter Tryz.func166,Tryz.ntmps166
   go_upto_region 1 with(fail)
   (generalize hW:ja4 (ja4 (ja4 (ja4 (ja4 w _) _) _) _) _=W0;have A0:At W0 (w.heap.size) (.cells #[oD,uw] 114):=(by((rw[<-hW])<;>exact At.alloc (At.alloc (At.alloc (At.alloc (At.new' _ Ku) _) _) _) _));have A1:At W0 (w.heap.size+1) (.cells #[ilo,ihi] 114):=Z43;have A2:At W0 (w.heap.size+1+1) (.cells #[pU,phi] 114):=WE;have A3:At W0 (w.heap.size+1+1+1) (.cells #[qZ,pV] 210):=Tc;have A4:At W0 (w.heap.size+1+1+1+1) (.cells #[x9,wE] 210):=Td;have hB:Below w w W0:=(by((rw[<-hW])<;>exact aB (aB (aB (aB (aB aD _) _) _) _) _));clear hW;have c0:=A0.lc;have c1:=A1.lc;have c2:=A2.lc;have c3:=A3.lc;have c4:=A4.lc)
   go_wp2_with (first|(go_at_call 196;(with_reducible refine(E8 _ _ _ _ _ _ _).mono ?_);rintro e w' ⟨rfl,hb⟩;(clear c0 c1 c2 c3 c4);(replace hB:=Below.ay qN aC hb);replace A0:=At.keep uL hb;replace A1:=At.keep sH hb;replace A2:=At.keep uh hb;replace A3:=At.keep zG hb;replace A4:=At.keep Z3x hb;clear hb;have c0:=A0.lc;have c1:=A1.lc;have c2:=A2.lc;have c3:=A3.lc;have c4:=A4.lc)|(go_at_call 197;(with_reducible refine(mV _ _ _).mono ?_);rintro e w' ⟨rfl,rfl⟩))
   go_ret
   exact⟨bA Hr.out.symm,hB⟩
 . have Hr:=ah (aaf (uw:=uw) (ilo:=ilo) (ihi:=ihi) (phi:=phi) (x9:=x9) (wE:=wE) hd)
   have hd':decide (0<St.down oD pU qZ pV)=false:=by simpa using hd
   go_enter Tryz.func166,Tryz.ntmps166
   go_upto_region 1 with(fail)
   (generalize hW:ja4 (ja4 (ja4 (ja4 (ja4 w _) _) _) _) _=W0;have A0:At W0 (w.heap.size) (.cells #[oD,uw] 114):=(by((rw[<-hW])<;>exact At.alloc (At.alloc (At.alloc (At.alloc (At.new' _ Ku) _) _) _) _));have A1:At W0 (w.heap.size+1) (.cells #[ilo,ihi] 114):=Z43;have A2:At W0 (w.heap.size+1+1) (.cells #[pU,phi] 114):=WE;have A3:At W0 (w.heap.size+1+1+1) (.cells #[qZ,pV] 210):=Tc;have A4:At W0 (w.heap.size+1+1+1+1) (.cells #[x9,wE] 210):=Td;have hB:Below w w W0:=(by((rw[<-hW])<;>exact aB (aB (aB (aB (aB aD _) _) _) _) _));clear hW;have c0:=A0.lc;have c1:=A1.lc;have c2:=A2.lc;have c3:=A3.lc;have c4:=A4.lc)
   go_upto_region 4 with(first|(go_at_call 196;(with_reducible refine(E8 _ _ _ _ _ _ _).mono ?_);rintro e w' ⟨rfl,hb⟩;(clear c0 c1 c2 c3 c4);(replace hB:=Below.ay qN aC hb);replace A0:=At.keep uL hb;replace A1:=At.keep sH hb;replace A2:=At.keep uh hb;replace A3:=At.keep zG hb;replace A4:=At.keep Z3x hb;clear hb;have c0:=A0.lc;have c1:=A1.lc;have c2:=A2.lc;have c3:=A3.lc;have c4:=A4.lc)|(go_at_call 197;(with_reducible refine(mV _ _ _).mono ?_);rintro e w' ⟨rfl,rfl⟩))
   refine rZ ?_
   (repeat (first|refine jc ?_ | refine jd ?_ (hc:=by intro w2 hS;first|with_reducible exact iq hS (aae _ _ _ _ _ _ _ _ _)|with_reducible exact zn hS (mV _ _ _))|refine je ?_))
   refine aj.bD ?_;intro w2 hS
   (clear c0 c1 c2 c3 c4);(replace hB:=Below.ay qN aC hS);replace A0:=At.keep uL hS;replace A1:=At.keep sH hS;replace A2:=At.keep uh hS;replace A3:=At.keep zG hS;replace A4:=At.keep Z3x hS;clear hS;have c0:=A0.lc;have c1:=A1.lc;have c2:=A2.lc;have c3:=A3.lc;have c4:=A4.lc
   go_wp2
   go_ret
   exact⟨bA Hr.out.symm,hB⟩
end
section
open Fl
open World renaming alloc → ja4
section
variable {bx pE bw bh ix iy iw ih px py pw ph:Int} {o0 o1 o2 o3:Bool} {y0 y1 y2 y3:Int} {b0 b1 b2 b3:Nat} {w:World}
theorem QM(A0:At w b0 (.cells #[bx,pE,bw,bh] 40))(A1:At w b1 (.cells #[ix,iy,iw,ih] 40))(A2:At w b2 (.cells #[px,py,pw,ph] 40))(A3:At w b3 (.cells #[o0,y0,o1,y1,o2,y2,o3,y3] 211)) :
  Calls ja0 165 #[.func (.func 53) #[] #[],.int .i64 3,.int .i64 1,b0,b1,b2,b3] w λe w'=>e=.returned (.int .i64 (St.shift (Fx.cut bx) (Fx.hi bx bw) (Fx.cut ix) (Fx.hi ix iw) (Fx.cut px) (Fx.hi px pw) o3 y3 o1 y1))/\Below w w w':=by
 have c0:=A0.lc;have c1:=A1.lc;have c2:=A2.lc;have c3:=A3.lc;clear A0 A1 A2 A3;go_enter Tryz.func165,Tryz.ntmps165
 go_upto_region 1 with(fail)
 refine rZ ?_
 (repeat (first|refine jc ?_ | refine jd ?_ (hc:=by intro w2 hS;first|with_reducible exact iq hS (mO _ _ _ _ _)|with_reducible exact iq hS (Iq _ _ _ _ _ _ _ _ _ _ _))|refine je ?_))
 refine aj.bD ?_;intro w2 hS;go_wp2
 go_ret
 exact⟨rfl,hS⟩
theorem QN(A0:At w b0 (.cells #[bx,pE,bw,bh] 40))(A1:At w b1 (.cells #[ix,iy,iw,ih] 40))(A2:At w b2 (.cells #[px,py,pw,ph] 40))(A3:At w b3 (.cells #[o0,y0,o1,y1,o2,y2,o3,y3] 211)) :
  Calls ja0 165 #[.func (.func 54) #[] #[],(),.int .i64 2,b0,b1,b2,b3] w λe w'=>e=.returned (.int .i64 (St.shift (Fx.cut pE) (Fx.hi pE bh) (Fx.cut iy) (Fx.hi iy ih) (Fx.cut py) (Fx.hi py ph) o0 y0 o2 y2))/\Below w w w':=by
 have c0:=A0.lc;have c1:=A1.lc;have c2:=A2.lc;have c3:=A3.lc;clear A0 A1 A2 A3;go_enter Tryz.func165,Tryz.ntmps165
 go_upto_region 1 with(fail)
 refine rZ ?_
 (repeat (first|refine jc ?_ | refine jd ?_ (hc:=by intro w2 hS;first|with_reducible exact iq hS (rF _ _ _ _ _)|with_reducible exact iq hS (Iq _ _ _ _ _ _ _ _ _ _ _))|refine je ?_))
 refine aj.bD ?_;intro w2 hS;go_wp2
 go_ret
 exact⟨rfl,hS⟩
end
def adw(bx pE bw bh ix iy iw ih px py pw ph:Int)(o0:Bool)(y0:Int)(o1:Bool)(y1:Int)(o2:Bool)(y2:Int)(o3:Bool)(y3:Int):Value :=
 pt (St.shift (Fx.cut bx) (Fx.hi bx bw) (Fx.cut ix) (Fx.hi ix iw) (Fx.cut px) (Fx.hi px pw) o3 y3 o1 y1) (St.shift (Fx.cut pE) (Fx.hi pE bh) (Fx.cut iy) (Fx.hi iy ih) (Fx.cut py) (Fx.hi py ph) o0 y0 o2 y2)
theorem QO(bx pE bw bh ix iy iw ih px py pw ph:Int)(o0:Bool)(y0:Int)(o1:Bool)(y1:Int)(o2:Bool)(y2:Int)(o3:Bool)(y3:Int)(w:World):Calls ja0 129 #[.agg #[bx,pE,bw,bh],.agg #[ix,iy,iw,ih],.agg #[px,py,pw,ph],.agg #[o0,y0,o1,y1,o2,y2,o3,y3]] w λe w'=>e=.returned (adw bx pE bw bh ix iy iw ih px py pw ph o0 y0 o1 y1 o2 y2 o3 y3)/\Below w w w':=by
 have Jp:=@ru;go_enter Tryz.func129,Tryz.ntmps129
 go_upto_region 1 with(fail)
 (generalize hW:ja4 (ja4 (ja4 (ja4 w _) _) _) _=W0;have A0:At W0 (w.heap.size) (.cells #[bx,pE,bw,bh] 40):=Z43;have A1:At W0 (w.heap.size+1) (.cells #[ix,iy,iw,ih] 40):=WE;have A2:At W0 (w.heap.size+1+1) (.cells #[px,py,pw,ph] 40):=Tc;have A3:At W0 (w.heap.size+1+1+1) (.cells #[o0,y0,o1,y1,o2,y2,o3,y3] 211):=Td;have hB:Below w w W0:=Z47;clear hW;have c0:=A0.lc;have c1:=A1.lc;have c2:=A2.lc;have c3:=A3.lc)
 go_wp2_with (first|(go_at_call 165;(with_reducible refine(QM A0 A1 A2 A3).mono ?_);rintro e w' ⟨rfl,hb⟩;(clear c0 c1 c2 c3);(replace hB:=Below.ay qN aC hb);replace A0:=At.keep uL hb;replace A1:=At.keep sH hb;replace A2:=At.keep uh hb;replace A3:=At.keep zG hb;clear hb;have c0:=A0.lc;have c1:=A1.lc;have c2:=A2.lc;have c3:=A3.lc)|(go_at_call 165;(with_reducible refine(QN A0 A1 A2 A3).mono ?_);rintro e w' ⟨rfl,hb⟩;(clear c0 c1 c2 c3);(replace hB:=Below.ay qN aC hb);replace A0:=At.keep uL hb;replace A1:=At.keep sH hb;replace A2:=At.keep uh hb;replace A3:=At.keep zG hb;clear hb;have c0:=A0.lc;have c1:=A1.lc;have c2:=A2.lc;have c3:=A3.lc)|(go_at_call 12;(with_reducible refine(nO _ _ _).mono ?_);rintro e w' ⟨rfl,rfl⟩))
 go_ret
 exact⟨rfl,hB⟩
end
section
open World renaming alloc → ja4,setCell → ja5
theorem VE{a b c d a' b' c' d':Value}{x y z u x' y' z' u':Value}(h1:a=a')(h2:b=b')(h3:c=c')(h4:d=d')(g1:x=x')(g2:y=y')(g3:z=z')(g4:u=u'):Ending.returned (.agg #[a,x,b,y,c,z,d,u])=.returned (.agg #[a',x',b',y',c',z',d',u']):=by rw[h1,h2,h3,h4,g1,g2,g3,g4]
theorem NA(k0 n0 k1 n1 k2 n2 k3 n3 wi hi:Int)(w:World):Calls ja0 130 #[.agg #[k0,n0,k1,n1,k2,n2,k3,n3],wi,hi] w λe w'=>e=.returned (.agg #[.bool (Fx.dD k0 hi),Fx.len k0 n0 hi 0,.bool (Fx.dD k1 wi),Fx.len k1 n1 wi 0,.bool (Fx.dD k2 hi),Fx.len k2 n2 hi 0,.bool (Fx.dD k3 wi),Fx.len k3 n3 wi 0])/\Below w w w':=by
 have i0:∀w:World,(Instr.index 61 (.agg #[hi,wi,hi,wi]) (.int .i64 0)).run ja0 w=.ok (.int .i64 hi) w:=λ_=>by kernel_rfl
 have i1:∀w:World,(Instr.index 61 (.agg #[hi,wi,hi,wi]) (.int .i64 1)).run ja0 w=.ok (.int .i64 wi) w:=λ_=>by kernel_rfl
 have i2:∀w:World,(Instr.index 61 (.agg #[hi,wi,hi,wi]) (.int .i64 2)).run ja0 w=.ok (.int .i64 hi) w:=λ_=>by kernel_rfl
 have i3:∀w:World,(Instr.index 61 (.agg #[hi,wi,hi,wi]) (.int .i64 3)).run ja0 w=.ok (.int .i64 wi) w:=λ_=>by kernel_rfl
 go_enter Tryz.func130,Tryz.ntmps130
 go_upto_region 1 with(fail)
 (generalize hW:ja4 (ja4 w _) _=W0;have A0:At W0 (w.heap.size) (.cells #[k0,n0,k1,n1,k2,n2,k3,n3] 60):=Tc;have A1:At W0 (w.heap.size+1) (.cells #[false,(),false,(),false,(),false,()] 211):=Td;have hB:Below w w W0:=(by((rw[<-hW])<;>exact aB (aB aD _) _));clear hW;have c0:=A0.lc;have c1:=A1.lc;have z1:=A1.thaw)
 go_upto_region 2 with(fail)
 (generalize hW:ja4 _ _=W1;clear c0 c1 z1;have A2:At W1 _ _:=hW▸At.new _ _;replace A0:At W1 _ _:=hW▸At.alloc A0 _;replace A1:At W1 _ _:=hW▸At.alloc A1 _;replace hB:Below w w W1:=hW▸aB hB _;clear hW;have c0:=A0.lc;have c1:=A1.lc;have z1:=A1.thaw;have c2:=A2.lc)
 have e0:=c0.1;have e1:=c1.1;have e2:=c2.1
 go_upto_region 3 with(fail)
 (generalize hW:ja4 _ _=W2;clear c0 c1 z1 c2;have A3:At W2 _ _:=hW▸At.new _ _;replace A0:At W2 _ _:=hW▸At.alloc A0 _;replace A1:At W2 _ _:=hW▸At.alloc A1 _;replace A2:At W2 _ _:=hW▸At.alloc A2 _;replace hB:Below w w W2:=hW▸aB hB _;clear hW;have c0:=A0.lc;have c1:=A1.lc;have z1:=A1.thaw;have c2:=A2.lc;have c3:=A3.lc;have z3:=A3.thaw)
 (clear c3 z3;generalize hb3:W1.heap.size=b3 at *;have c3:=A3.lc)
 have z3:=A3.thaw;go_wp2;refine wp_loop_rounds 5 ?_;rw[rounds_succ]
 go_upto_region 6 with(fail)
 refine yw 13 1 ?_
 (repeat (first|refine jc ?_ | refine jd ?_ (hc:=by intro w2 hS;first|with_reducible exact iq hS (jD _ _ _ _)|with_reducible exact iq hS (iP _ _ _ _ _))|refine je ?_))
 refine aj.bL ?_;intro w2 hS
 (clear c0 c1 z1 c2 c3 z3);(replace hB:=Below.ay qN aC hS);replace A0:=At.keep uL hS;replace A1:=At.keep sH hS;replace A2:=At.keep uh hS;replace A3:=At.keep zG hS;clear hS;have c0:=A0.lc;have c1:=A1.lc;have z1:=A1.thaw;have c2:=A2.lc;have c3:=A3.lc;have z3:=A3.thaw
 refine wz ?_;intro K hK;go_simp;refine hK _ _ (aj.bC ?_);clear hK K;generalize hW:ja5 (ja5 _ _ _) _ _=V0;clear c0 c1 z1 c2 c3 z3;have QS:=At.set (At.set A3 0 (.bool (Fx.dD k0 hi))) 1 (.int .i64 (Fx.len k0 n0 hi 0));have QT:=At.off (At.off A0 (n:=b3) ak 0 (.bool (Fx.dD k0 hi))) (n:=b3) ak 1 (.int .i64 (Fx.len k0 n0 hi 0));have zo:=At.off (At.off A1 (n:=b3) ak 0 (.bool (Fx.dD k0 hi))) (n:=b3) ak 1 (.int .i64 (Fx.len k0 n0 hi 0));have QU:=At.off (At.off A2 (n:=b3) ak 0 (.bool (Fx.dD k0 hi))) (n:=b3) ak 1 (.int .i64 (Fx.len k0 n0 hi 0));rw[hW]at QT zo QU QS;clear A0 A1 A2 A3;have A0:=QT;have A1:=zo;have A2:=QU;have A3:At V0 b3 (.cells #[.bool (Fx.dD k0 hi),Fx.len k0 n0 hi 0,false,(),false,(),false,()] 211):=QS;clear QT zo QU QS;replace hB:Below w w V0:=hW▸Below.setCell (Below.setCell hB iJ _) iJ _;clear hW;have c0:=A0.lc;have c1:=A1.lc;have c2:=A2.lc;have c3:=A3.lc;have z1:=A1.thaw;have z3:=A3.thaw;go_wp2;rw[rounds_succ]
 go_upto_region 6 with(fail)
 refine yw 13 1 ?_
 (repeat (first|refine jc ?_ | refine jd ?_ (hc:=by intro w2 hS;first|with_reducible exact iq hS (jD _ _ _ _)|with_reducible exact iq hS (iP _ _ _ _ _))|refine je ?_))
 refine aj.bL ?_;intro w2 hS
 (clear c0 c1 z1 c2 c3 z3);(replace hB:=Below.ay qN aC hS);replace A0:=At.keep uL hS;replace A1:=At.keep sH hS;replace A2:=At.keep uh hS;replace A3:=At.keep zG hS;clear hS;have c0:=A0.lc;have c1:=A1.lc;have z1:=A1.thaw;have c2:=A2.lc;have c3:=A3.lc;have z3:=A3.thaw
 refine wz ?_;intro K hK;go_simp;refine hK _ _ (aj.bC ?_);clear hK K;generalize hW:ja5 (ja5 _ _ _) _ _=V1;clear c0 c1 z1 c2 c3 z3;have QS:=At.set (At.set A3 2 (.bool (Fx.dD k1 wi))) 3 (.int .i64 (Fx.len k1 n1 wi 0));have QT:=At.off (At.off A0 (n:=b3) ak 2 (.bool (Fx.dD k1 wi))) (n:=b3) ak 3 (.int .i64 (Fx.len k1 n1 wi 0));have zo:=At.off (At.off A1 (n:=b3) ak 2 (.bool (Fx.dD k1 wi))) (n:=b3) ak 3 (.int .i64 (Fx.len k1 n1 wi 0));have QU:=At.off (At.off A2 (n:=b3) ak 2 (.bool (Fx.dD k1 wi))) (n:=b3) ak 3 (.int .i64 (Fx.len k1 n1 wi 0));rw[hW]at QT zo QU QS;clear A0 A1 A2 A3;have A0:=QT;have A1:=zo;have A2:=QU;have A3:At V1 b3 (.cells #[.bool (Fx.dD k0 hi),Fx.len k0 n0 hi 0,.bool (Fx.dD k1 wi),Fx.len k1 n1 wi 0,false,(),false,()] 211):=QS;clear QT zo QU QS;replace hB:Below w w V1:=hW▸Below.setCell (Below.setCell hB iJ _) iJ _;clear hW;have c0:=A0.lc;have c1:=A1.lc;have c2:=A2.lc;have c3:=A3.lc;have z1:=A1.thaw;have z3:=A3.thaw;go_wp2;rw[rounds_succ]
 go_upto_region 6 with(fail)
 refine yw 13 1 ?_
 (repeat (first|refine jc ?_ | refine jd ?_ (hc:=by intro w2 hS;first|with_reducible exact iq hS (jD _ _ _ _)|with_reducible exact iq hS (iP _ _ _ _ _))|refine je ?_))
 refine aj.bL ?_;intro w2 hS
 (clear c0 c1 z1 c2 c3 z3);(replace hB:=Below.ay qN aC hS);replace A0:=At.keep uL hS;replace A1:=At.keep sH hS;replace A2:=At.keep uh hS;replace A3:=At.keep zG hS;clear hS;have c0:=A0.lc;have c1:=A1.lc;have z1:=A1.thaw;have c2:=A2.lc;have c3:=A3.lc;have z3:=A3.thaw
 refine wz ?_;intro K hK;go_simp;refine hK _ _ (aj.bC ?_);clear hK K;generalize hW:ja5 (ja5 _ _ _) _ _=V2;clear c0 c1 z1 c2 c3 z3;have QS:=At.set (At.set A3 4 (.bool (Fx.dD k2 hi))) 5 (.int .i64 (Fx.len k2 n2 hi 0));have QT:=At.off (At.off A0 (n:=b3) ak 4 (.bool (Fx.dD k2 hi))) (n:=b3) ak 5 (.int .i64 (Fx.len k2 n2 hi 0));have zo:=At.off (At.off A1 (n:=b3) ak 4 (.bool (Fx.dD k2 hi))) (n:=b3) ak 5 (.int .i64 (Fx.len k2 n2 hi 0));have QU:=At.off (At.off A2 (n:=b3) ak 4 (.bool (Fx.dD k2 hi))) (n:=b3) ak 5 (.int .i64 (Fx.len k2 n2 hi 0));rw[hW]at QT zo QU QS;clear A0 A1 A2 A3;have A0:=QT;have A1:=zo;have A2:=QU;have A3:At V2 b3 (.cells #[.bool (Fx.dD k0 hi),Fx.len k0 n0 hi 0,.bool (Fx.dD k1 wi),Fx.len k1 n1 wi 0,.bool (Fx.dD k2 hi),Fx.len k2 n2 hi 0,false,()] 211):=QS;clear QT zo QU QS;replace hB:Below w w V2:=hW▸Below.setCell (Below.setCell hB iJ _) iJ _;clear hW;have c0:=A0.lc;have c1:=A1.lc;have c2:=A2.lc;have c3:=A3.lc;have z1:=A1.thaw;have z3:=A3.thaw;go_wp2;rw[rounds_succ]
 go_upto_region 6 with(fail)
 refine yw 13 1 ?_
 (repeat (first|refine jc ?_ | refine jd ?_ (hc:=by intro w2 hS;first|with_reducible exact iq hS (jD _ _ _ _)|with_reducible exact iq hS (iP _ _ _ _ _))|refine je ?_))
 refine aj.bL ?_;intro w2 hS
 (clear c0 c1 z1 c2 c3 z3);(replace hB:=Below.ay qN aC hS);replace A0:=At.keep uL hS;replace A1:=At.keep sH hS;replace A2:=At.keep uh hS;replace A3:=At.keep zG hS;clear hS;have c0:=A0.lc;have c1:=A1.lc;have z1:=A1.thaw;have c2:=A2.lc;have c3:=A3.lc;have z3:=A3.thaw
 refine wz ?_;intro K hK;go_simp;refine hK _ _ (aj.bC ?_);clear hK K;generalize hW:ja5 (ja5 _ _ _) _ _=V3;clear c0 c1 z1 c2 c3 z3;have QS:=At.set (At.set A3 6 (.bool (Fx.dD k3 wi))) 7 (.int .i64 (Fx.len k3 n3 wi 0));have QT:=At.off (At.off A0 (n:=b3) ak 6 (.bool (Fx.dD k3 wi))) (n:=b3) ak 7 (.int .i64 (Fx.len k3 n3 wi 0));have zo:=At.off (At.off A1 (n:=b3) ak 6 (.bool (Fx.dD k3 wi))) (n:=b3) ak 7 (.int .i64 (Fx.len k3 n3 wi 0));have QU:=At.off (At.off A2 (n:=b3) ak 6 (.bool (Fx.dD k3 wi))) (n:=b3) ak 7 (.int .i64 (Fx.len k3 n3 wi 0));rw[hW]at QT zo QU QS;clear A0 A1 A2 A3;have A0:=QT;have A1:=zo;have A2:=QU;have A3:At V3 b3 (.cells #[.bool (Fx.dD k0 hi),Fx.len k0 n0 hi 0,.bool (Fx.dD k1 wi),Fx.len k1 n1 wi 0,.bool (Fx.dD k2 hi),Fx.len k2 n2 hi 0,.bool (Fx.dD k3 wi),Fx.len k3 n3 wi 0] 211):=QS;clear QT zo QU QS;replace hB:Below w w V3:=hW▸Below.setCell (Below.setCell hB iJ _) iJ _;clear hW;have c0:=A0.lc;have c1:=A1.lc;have c2:=A2.lc;have c3:=A3.lc;have z1:=A1.thaw;have z3:=A3.thaw;go_wp2;rw[rounds_succ];go_wp2;refine bodyPost_ret (v:=.agg #[_,_,_,_,_,_,_,_]) (by simp[results,Tryz.results130,go_sem, *];first|done|exact⟨rfl,rfl⟩|exact⟨rfl,rfl,rfl,rfl⟩|rfl) rfl ⟨VE rfl rfl rfl rfl rfl rfl rfl rfl,?_⟩
 (repeat (first|with_reducible exact hB|refine Below.setCell ?_ Z46 _))
end
open Go.Deep
open World renaming alloc → ja4,setCell → ja5,setRow → jb9
open List renaming getElem?_eq_getElem → ja6,mem_cons_self → jb3,getElem_mem → jc3,take_succ_eq_append_getElem → jc8,reverse_reverse → jd0
variable {R:Int->Option Pr}{z:Int}{nd:Tr.Nd}{S:Int->Option (Pr×Pr)}{l:List Int}{d:Nat}
def stk(s:Re.St)(hd pr v:Pr):Pr:=v.mv (St.shift (Fx.cut v.x) (Fx.hi v.x v.w) (Fx.cut hd.x) (Fx.hi hd.x hd.w) (Fx.cut pr.x) (Fx.hi pr.x pr.w) (Fx.dD (s.c 29) pr.w) (Fx.len (s.c 29) (s.c 30) pr.w 0) (Fx.dD (s.c 25) pr.w) (Fx.len (s.c 25) (s.c 26) pr.w 0)) (St.shift (Fx.cut v.y) (Fx.hi v.y v.h) (Fx.cut hd.y) (Fx.hi hd.y hd.h) (Fx.cut pr.y) (Fx.hi pr.y pr.h) (Fx.dD (s.c 23) pr.h) (Fx.len (s.c 23) (s.c 24) pr.h 0) (Fx.dD (s.c 27) pr.h) (Fx.len (s.c 27) (s.c 28) pr.h 0))
theorem afr(W:World):(isAgg 60).run ja0 W=.ok true W:=by kernel_rfl
theorem afs(W:World):(sizeOf 60).run ja0 W=.ok 8 W:=by kernel_rfl
theorem aag{ops:Array Oper}{S:World->Prop}{o:Oper}{a:Act}(p:Operand){b:Nat}{s:Re.St}(hw:Region.wanted o (yielded ops a.tmps)=true)(ho:o.op=.load 60 p)(hp:a.eval p=.pointer (some ⟨b,23,none⟩))(h:∀X,S X->At X b (.cells (cells s) 68)):aj.Reads ja0 ops S o (.agg #[s.c 23,s.c 24,s.c 25,s.c 26,s.c 27,s.c 28,s.c 29,s.c 30]) a :=
 .inl ⟨hw,λX hX=>fM afr afs p ho hp rfl λj hj=>by
  have A:=h X hX
  match j,hj with
  | 0,_=>exact A.st 23 aG rfl
  | 1,_=>exact A.st 24 aG rfl
  | 2,_=>exact A.st 25 aG rfl
  | 3,_=>exact A.st 26 aG rfl
  | 4,_=>exact A.st 27 aG rfl
  | 5,_=>exact A.st 28 aG rfl
  | 6,_=>exact A.st 29 aG rfl
  | 7,_=>exact A.st 30 aG rfl⟩
section
variable {w:World} {t n:Nat} {L:Lay} {T:Tr.T} {m:Nat} {R:Int->Option Pr}
theorem Kj(h:dQ w t L T n)(hmm:RM w m R)(mo ms:Nat)(z:Int)(hz:Wf z)(q:Pr)(s:Re.St)(hs:bQ T z=s)(hp3:s.c 1≠3)(hp4:s.c 1=4)(bx pE kx ky:Int)(cl hd pr:Pr)(adx:∀X,Below w w X->Calls ja0 128 #[.agg (vw t m mo q ms),z] X λe w'=>e=.returned pr.ag/\Below X.heap.size X w'):Calls ja0 93 #[.agg (vw t m mo q ms),z,.agg (inA bx pE kx ky cl hd)] w λe w'=>e=.returned (.agg (Ao (stk s hd pr ((((R z).getD p0).mv bx pE).mv (-kx) (-ky))) cl))/\Below w w w':=by
 have kS:=λX (hb:Below w w X)=>dH (h.after hb) hz;simp only[show(T z).elim Re.zero (·.sty)=s from hs]at kS;obtain⟨p,hp⟩:=aA ((R z).getD p0);have hlk:=λX (hb:Below w w X)=>(hmm.keep hb).look hz;simp only[hp]at hlk;rw[hp];obtain⟨u,hu⟩:=aA (p.mv bx pE);have kM1:=λX=>Kg p bx pE X;simp only[hu,Pr.ag]at kM1;rw[hu];obtain⟨v,hv⟩:=aA (u.mv (-kx) (-ky));have kM2:=λX=>E5 u kx ky X;simp only[hv,Pr.ag]at kM2;rw[hv];obtain⟨ans,eO⟩:=aA (stk s hd pr v);rw[eO];have kSd:=λX=>NA (s.c 23) (s.c 24) (s.c 25) (s.c 26) (s.c 27) (s.c 28) (s.c 29) (s.c 30) pr.w pr.h X;have kBo:=λX=>QO v.x v.y v.w v.h hd.x hd.y hd.w hd.h pr.x pr.y pr.w pr.h (Fx.dD (s.c 23) pr.h) (Fx.len (s.c 23) (s.c 24) pr.h 0) (Fx.dD (s.c 25) pr.w) (Fx.len (s.c 25) (s.c 26) pr.w 0) (Fx.dD (s.c 27) pr.h) (Fx.len (s.c 27) (s.c 28) pr.h 0) (Fx.dD (s.c 29) pr.w) (Fx.len (s.c 29) (s.c 30) pr.w 0) X;simp only[adw]at kBo;obtain⟨dx,OJ⟩:=aA ((St.shift (Fx.cut v.x) (Fx.hi v.x v.w) (Fx.cut hd.x) (Fx.hi hd.x hd.w) (Fx.cut pr.x) (Fx.hi pr.x pr.w) (Fx.dD (s.c 29) pr.w) (Fx.len (s.c 29) (s.c 30) pr.w 0) (Fx.dD (s.c 25) pr.w) (Fx.len (s.c 25) (s.c 26) pr.w 0)));obtain⟨dy,hdy⟩:=aA ((St.shift (Fx.cut v.y) (Fx.hi v.y v.h) (Fx.cut hd.y) (Fx.hi hd.y hd.h) (Fx.cut pr.y) (Fx.hi pr.y pr.h) (Fx.dD (s.c 23) pr.h) (Fx.len (s.c 23) (s.c 24) pr.h 0) (Fx.dD (s.c 27) pr.h) (Fx.len (s.c 27) (s.c 28) pr.h 0)));have kMv:=λX=>Kg v dx dy X;simp only[show v.mv dx dy=ans by rw[<-eO];unfold stk;rw[OJ,hdy],Pr.ag]at kMv;simp only[OJ,hdy]at kBo;have HPO:=ah adx;have HSD:=ah kSd;have HBO:=ah kBo;have HMV:=ah kMv;have zu:=ah hlk;have hbd:=xW;obtain⟨q0,q1,q2,q3⟩:=q;simp only[vw,inA,Ao]at *;clear h hmm hs hp hu hv hlk adx kSd kBo kMv OJ hdy eO;go_enter Tryz.func93,Tryz.ntmps93
 go_upto_region 1 with(fail)
 generalize hW:ja4 _ _=W0;have A0:At W0 w (.cells #[t,.map (some m),.map (some mo),q0,q1,q2,q3,.map (some ms)] 119):=hW▸At.alloc (At.alloc (At.new _ _) _) _;have A1:At W0 (w.heap.size+1) (.cells #[pt bx pE,ng kx ky,cl.x,cl.y,cl.w,cl.h,hd.x,hd.y,hd.w,hd.h] 176):=hW▸At.alloc (At.new' _ aW) _;have A2:At W0 (w.heap.size+1+1) (.cells #[(),(),(),(),(),(),(),()] 42):=hW▸At.new' _ aW;have hB:Below w w W0:=hW▸aB (aB (aB aD _) _) _;clear hW;obtain⟨l0,c0,c1,c2,c3,c4,c5,c6,c7⟩:=A0.eight;have kS0:=kS W0 hB
 go_upto_region 2 with(first|(refine aS aR rfl ?_)|(refine bE aR rfl ?_)|(refine aQ aR _ rfl rfl oC ?_)|(refine bF aR _ _ rfl rfl rfl oC ?_)|(refine aU aR _ _ rfl rfl rfl oC ?_)|(go_at_call 22;(with_reducible refine kS0.mono ?_);rintro e w3 ⟨rfl,hb3⟩))
 obtain⟨bs,hbs⟩:=aA w3.heap.size;generalize hW:jb9 _ _ _=w4;have A4:At w4 bs (.cells (cells s) 68):=hW▸hbs▸At.setRow (At.new _ _) _;have hb4:Below W0 W0 w4:=hW▸aM (aB hb3 _) hb3.size _;rw[hbs];have KN:=A4.lt;have f1:=A4.st 1 aG rfl;have hB4:=hB.trans (hb4.mono hB.size);replace A0:=A0.keep hb4;replace A1:=A1.keep hb4;replace A2:=A2.keep hb4;have p3b:(s.c 1==3)=false:=by simp[hp3]
 clear hW kS kS0 hb3 hbs hb4 hB l0 c0 c1 c2 c3 c4 c5 c6 c7
 go_upto_region 4 with(fail)
 refine aj.fQ (λa0 a' W5=>∃(Tp:Nat) (u20 u21 u22 u23 u24 u25 u26 u27 u28 u29:Value),a'={ a0 with tmps:=(((((((((((a0.tmps.setIfInBounds 20 u20).setIfInBounds 21 u21).setIfInBounds 22 u22).setIfInBounds 23 u23).setIfInBounds 24 u24).setIfInBounds 25 u25).setIfInBounds 26 u26).setIfInBounds 27 u27).setIfInBounds 28 u28).setIfInBounds 29 u29).setIfInBounds 8 (.pointer Tp)) }/\w4.heap.size<=Tp/\At W5 Tp (.cells #[v.x,v.y,v.w,v.h] 40)/\Below w4 w4 W5) ?_ ?_
 . have hlk:=λX (h:Below w4 w4 X)=>zu.out X (hB4.trans (h.mono hB4.size))
   clear zu KN f1 p3b A4 hbd HPO HSD HBO HMV;exact Z3
 rintro a' W5 ⟨Tp,u20,u21,u22,u23,u24,u25,u26,u27,u28,u29,rfl,gp,Ap,hb5⟩;have n2p:w.heap.size+1+1<Tp:=by have:=A2.lt;omega
 have kr:=hB4.trans (hb5.mono hB4.size);replace A1:=A1.keep hb5;replace A2:=A2.keep hb5;have f1':=(A4.keep hb5).st 1 aG rfl;have lb5:=(A4.keep hb5).lt;have p4b:(s.c 1==4)=true:=by simp[hp4]
 have kPo:=HPO.out W5 kr;simp only[Pr.ag]at kPo;replace A0:=A0.keep hb5;replace A4:=A4.keep hb5;clear hB4 f1 KN p3b hb5 kM1 kM2 zu HPO gp;obtain⟨l0,c0,c1,c2,c3,c4,c5,c6,c7⟩:=A0.eight
 go_upto_region 7 with(go_at_call 128;(with_reducible refine kPo.mono ?_);rintro e w6 ⟨rfl,hb6⟩)
 obtain⟨b9,fK⟩:=aA w6.heap.size;have lp6:=(Ap.keep hb6).lt;generalize hW:ja4 _ _=W7;rw[fK];have A9:At W7 b9 (.cells #[pr.x,pr.y,pr.w,pr.h] 40):=hW▸fK▸At.new _ _;have nW:Below W5 W5 W7:=hW▸aB hb6 _;have CG:=kr.trans (nW.mono kr.size);replace A1:=A1.keep nW;replace A2:=A2.keep nW;replace A4:=A4.keep nW;replace Ap:=Ap.keep nW;have l2:=A2.lt;clear hW hb6 nW kr kPo l0 c0 c1 c2 c3 c4 c5 c6 c7 f1' lb5 p4b lp6 fK A0;have HC:∀X,Below W7 W7 X->(X.cell? ⟨b9,2,none⟩=some (.int .i64 pr.w)/\X.cell? ⟨b9,3,none⟩=some (.int .i64 pr.h)/\Below W7 W7 X):=λX h=>⟨(A9.keep h).cell 2,(A9.keep h).cell 3,h⟩;have hSd:=HC _ (Below.drew aD);refine iC (S:=(λX=>X.cell? ⟨b9,2,none⟩=some (.int .i64 pr.w)/\X.cell? ⟨b9,3,none⟩=some (.int .i64 pr.h)/\Below W7 W7 X)) 14 ?_ ?_
 . exact hSd
 intro hS0;have hx:Below W7 W7 W7.drew:=Below.drew aD;clear hSd;refine jh 0 rfl (nK (.tmp 8) aR rfl rfl (λX h=>Ap.keep h.2.2)) ?_;refine jh 1 rfl (nK (.tmp 8) aR rfl rfl (λX h=>Ap.keep h.2.2)) ?_;refine aO 2 ?_;refine jh 3 rfl (wN (.tmp 38) aR rfl rfl (λX h=>⟨(A1.keep h.2.2).cell 6,(A1.keep h.2.2).cell 7,(A1.keep h.2.2).cell 8,(A1.keep h.2.2).cell 9⟩)) ?_;refine jh 4 rfl (nK (.tmp 9) aR rfl rfl (λX h=>A9.keep h.2.2)) ?_;refine aO 5 ?_;refine jh 6 rfl (aag (.tmp 41) aR rfl rfl (λX h=>A4.keep h.2.2)) ?_;refine aO 7 ?_;refine aO 8 ?_;refine aO 9 ?_;refine aO 10 ?_;refine tk1 11 ?_;refine aj.Step.call eD (HSD.out _) ?_;rintro e y11 ⟨rfl,hb⟩;replace hx:=Below.ay hx aC hb;clear hb;refine⟨_,rfl,λ_=>HC _ hx,?_⟩
 (try simp only[bM,bN,bO,tks])
 refine tk1 12 ?_;refine aj.Step.call eD (HBO.out _) ?_;rintro e y12 ⟨rfl,hb⟩;replace hx:=Below.ay hx aC hb;clear hb;refine⟨_,rfl,λ_=>HC _ hx,?_⟩
 (try simp only[bM,bN,bO,tks])
 refine tk1 13 ?_;refine aj.Step.call eD (HMV.out _) ?_;rintro e y13 ⟨rfl,hb⟩;replace hx:=Below.ay hx aC hb;clear hb;refine⟨_,rfl,λ_=>HC _ hx,?_⟩
 (try simp only[bM,bN,bO,tks])
 refine tk1 14 ?_;refine aj.Step.skip (aY (q:=0) sD (.tmp 8) (.tmp 49) rfl rfl rfl (Ap.keep hx) rfl aW (sF _ _ _ _)) ?_;rw[dZ (cs:=#[v.x,v.y,v.w,v.h]) (vs:=#[ans.x,ans.y,ans.w,ans.h]) rfl];have X4:=aM (CG.trans (hx.mono CG.size)) (show w.heap.size<=Tp by omega) #[ans.x,ans.y,ans.w,ans.h];replace Ap:=At.setRow (Ap.keep hx) #[ans.x,ans.y,ans.w,ans.h];replace A1:=At.gF (A1.keep hx) (show w.heap.size+1≠Tp by omega) #[ans.x,ans.y,ans.w,ans.h];replace A2:=At.gF (A2.keep hx) (show w.heap.size+1+1≠Tp by omega) #[ans.x,ans.y,ans.w,ans.h];generalize y13.setRow Tp #[.int .i64 ans.x,.int .i64 ans.y,.int .i64 ans.w,.int .i64 ans.h]=W8 at *;refine⟨λhlt=>absurd hlt aG,?_⟩
 (try simp only[bM,bN,bO,tks])
 refine gZ ?_;clear HC hS0 A4 A9 hx HSD HBO HMV l2;obtain⟨lp,e0,e1,e2,e3⟩:=At.four Ap;have l1:=A1.lt;obtain⟨i2,i3,i4,i5⟩:_/\_/\_/\_:=⟨A1.cell 2,A1.cell 3,A1.cell 4,A1.cell 5⟩;obtain⟨l2,d0,d1,d2,d3,d4,d5,d6,d7⟩:=A2.eight;have z0:=A2.thaw 0;have z1:=A2.thaw 1;have z2:=A2.thaw 2;have z3:=A2.thaw 3;have z4:=A2.thaw 4;have z5:=A2.thaw 5;have z6:=A2.thaw 6;have z7:=A2.thaw 7;go_wp2;generalize hW:ja5 _ _ _=W2;have A9:At W2 (w.heap.size+1+1) (.cells #[ans.x,ans.y,ans.w,ans.h,cl.x,cl.y,cl.w,cl.h] 42):=hW▸At.set (At.set (At.set (At.set (At.set (At.set (At.set (At.set A2 0 _) 1 _) 2 _) 3 _) 4 _) 5 _) 6 _) 7 _;have GI:Below w w W2:=by
  rw[<-hW];exact Below.setCell (Below.setCell (Below.setCell (Below.setCell (Below.setCell (Below.setCell (Below.setCell (Below.setCell X4 (Nat.le_add_right _ 2) _) (Nat.le_add_right _ 2) _) (Nat.le_add_right _ 2) _) (Nat.le_add_right _ 2) _) (Nat.le_add_right _ 2) _) (Nat.le_add_right _ 2) _) (Nat.le_add_right _ 2) _) (Nat.le_add_right _ 2) _
 exact Zn
end
theorem vW{T:Tr.T}(h:T z=some nd)(f:Nat):cnt T R (f+1) z=((R z).isSome&&cnt T R f nd.up):=by simp only[cnt,h]
theorem E9{T:Tr.T}(h:T z=none):∀f,cnt T R f z=true
 | 0=>rfl
 | f+1=>by simp only[cnt,h]
theorem Fa{T:Tr.T}(H:Tr.WF T)(hd:Tr.Dp T z d):∀f,d+1<=f->cnt T R f z=cnt T R (d+1) z:=by
 induction hd with
 | root h =>
   intro f hf;obtain⟨g,rfl⟩:∃g,f=g+1:=⟨f-1,by omega⟩;rw[vW h,vW h,E9 (H.eU h▸H.low ak),E9 (H.eU h▸H.low ak)]
 | step h h0 _ ih =>
   intro f hf;obtain⟨g,rfl⟩:∃g,f=g+1:=⟨f-1,by omega⟩;rw[vW h,vW h,ih g ak]
def cA(T:Tr.T)(R:Int->Option Pr)(z:Int):Bool:=cnt T R 65 z
theorem acK{T:Tr.T}(H:Tr.WF T)(h:T 0=some nd):cA T R 0=(R 0).isSome:=by
 unfold cA;rw[vW h,E9 (H.eU h▸H.low ak),Bool.and_true]
theorem pz{T:Tr.T}{u:Int}(h:T u=some nd)(f:Nat):FM T (f+1) u=if nd.sty.c 2=2 then u else FM T f nd.up:=by simp only[FM,h]
theorem nL{T:Tr.T}(h:T (-1)=none):∀f,FM T f (-1) = -1
 | 0=>rfl
 | f+1=>by simp only[FM,h]
theorem aah{T:Tr.T}(H:Tr.WF T){u:Int}(hd:Tr.Dp T u d):∀f,d+1<=f->FM T f u=FM T (d+1) u:=by
 have hm:=H.low (x := -1) ak
 induction hd with
 | root h =>
   intro f hf;obtain⟨g,rfl⟩:∃g,f=g+1:=⟨f-1,by omega⟩;rw[pz h,pz h,H.eU h,nL hm,nL hm]
 | step h h0 _ ih =>
   intro f hf;obtain⟨g,rfl⟩:∃g,f=g+1:=⟨f-1,by omega⟩;rw[pz h,pz h,ih g ak]
theorem aai{T:Tr.T}(H:Tr.WF T){u:Int}(hd:Tr.Dp T u d):∀f,FM T f u = -1\/∃d',d'<=d/\Tr.Dp T (FM T f u) d':=by
 have hm:=H.low (x := -1) ak
 induction hd with
 | root h =>
   intro f;cases f with
   | zero=>exact .inl rfl
   | succ f =>
     rw[pz h];split
     . exact .inr ⟨0,aH _,.root h⟩
     . rw[H.eU h,nL hm];exact .inl rfl
 | step h h0 hk ih =>
   intro f;cases f with
   | zero=>exact .inl rfl
   | succ f =>
     rw[pz h];split
     . exact .inr ⟨_,aH _,.step h h0 hk⟩
     . rcases ih f with e|⟨d',h1,h2⟩
       . exact .inl e
       . exact .inr ⟨d',by omega,h2⟩
def Fb(T:Tr.T)(z:Int):Int:=FM T 64 (iX T z)
theorem rU{T:Tr.T}(h:T z=some nd):iX T z=nd.up:=by unfold iX;rw[h]
theorem NC{T:Tr.T}(H:Tr.WF T)(h:T z=some nd)(h0:z≠0)(hd:Tr.Dp T nd.up d):Fb T z = -1\/∃d',d'<=d/\Tr.Dp T (Fb T z) d':=by
 unfold Fb;rw[rU h];exact aai H hd 64
def FN(T:Tr.T)(R:Int->Option Pr)(z:Int):Int×Int :=
 if (bQ T z).c 2=2/\cA T R z=true then (bey (Fx.hi (Vy T R 63 z ⟨0,0,0,0⟩).x (Vy T R 63 z ⟨0,0,0,0⟩).w) ((bQ T z).c 38) (((R z).getD p0).prt (bQ T z)).w,bey (Fx.hi (Vy T R 63 z ⟨0,0,0,0⟩).y (Vy T R 63 z ⟨0,0,0,0⟩).h) ((bQ T z).c 35) (((R z).getD p0).prt (bQ T z)).h)else (0,0)
section
variable {w:World} {t n:Nat} {L:Lay} {T:Tr.T} {m:Nat} {R:Int->Option Pr}
theorem ND(H:Tr.WF T):∀z nd,T z=some nd->nd.kids.length<=5000/\∀k∈nd.kids,∃kd,T k=some kd:=λz nd h =>
 ⟨aJ (H.sK h) ak,λk hk=>by obtain⟨_,kd,h1,_⟩:=H.kid z nd k h hk;exact⟨kd,h1⟩⟩
theorem Fg(h:dQ w t L T n)(hmm:RM w m R)(H:Tr.WF T)(hz:Wf z):Calls ja0 13 #[t,.map (some m),z] w λe w'=>e=.returned (pt (FN T R z).1 (FN T R z).2)/\Below w w w':=by
 unfold FN;by_cases h2:(bQ T z).c 2=2
 . cases hT:T z with
   | none =>
     exfalso;unfold bQ at h2;rw[hT]at h2;exact absurd h2 aG
   | some nd =>
     obtain⟨d,Pk,hd⟩:=H.deep z nd hT;have hs:nd.sty=bQ T z:=by unfold bQ;rw[hT];rfl
     have hc:cA T R z=cnt T R (d+1) z:=Fa H hd 65 ak;rw[hc];by_cases hcn:cnt T R (d+1) z=true
     . rw[if_pos ⟨h2,hcn⟩]
       exact Nv h hmm (λ_ h=>H.eU h) hd 63 hT (H.gD hT) (ND H) _ hs h2 hcn
     . rw[if_neg (λq=>hcn q.2)]
       exact Nw h hmm (λ_ h=>H.eU h) hd (by simpa using hcn)
 . rw[if_neg (λq=>h2 q.1)]
   exact EY h hz h2
theorem vX(h:dQ w t L T n)(H:Tr.WF T)(hz:Wf z):Calls ja0 35 #[t,z] w λe w'=>e=.returned (.int .i64 (Fb T z))/\Below w w w':=by
 have hm:=H.low (x := -1) ak;unfold Fb;cases hT:T z with
 | none =>
   rw[show iX T z = -1 by unfold iX;rw[hT],nL hm];exact Co h hz hT
 | some nd =>
   rw[rU hT];obtain⟨d,Pk,hd⟩:=H.deep z nd hT;have e:FM T 64 nd.up=FM T d nd.up:=by
    cases hd with
    | root h0=>rw[h0]at hT;cases hT;rw[H.eU h0,nL hm];rfl
    | step h1 _ h2=>rw[hT]at h1;cases h1;exact aah H h2 64 ak
   rw[e];exact Cq h (λ_ h=>H.eU h) hd hT
theorem NG(h:dQ w t L T n)(hmm:RM w m R)(H:Tr.WF T)(hz:Wf z):Calls ja0 29 #[t,.map (some m),z] w λe w'=>e=.returned (if (T z).isSome=true/\cA T R z=true then rch T R 64 z else p0).ag/\Below w w w':=by
 cases hT:T z with
 | none=>simpa using Ka h hmm hz hT
 | some nd =>
   obtain⟨d,Pk,hd⟩:=H.deep z nd hT;have key:=Kc h hmm (λ_ h=>H.eU h) hd 64 (H.gD hT) (ND H);rw[<-Fa H hd 65 ak]at key;simpa[cA]using key
end
def Ir(T:Tr.T)(R:Int->Option Pr)(O:Int->Option (Int×Int))(q:Pr)(S:Int->Option (Pr×Pr))(z k:Int):Pr×Pr :=
 if (bQ T k).c 1=3 then ((R k).getD p0,q)
 else (if (bQ T k).c 1=4 then stk (bQ T k) ((((S z).getD (p0,p0)).1.ins (bQ T z)).mv (-(ZY O z (FN T R z).1 (FN T R z).2).1) (-(ZY O z (FN T R z).1 (FN T R z).2).2)) (Z' T S q (Fb T k)) ((((R k).getD p0).mv ((S z).getD (p0,p0)).1.x ((S z).getD (p0,p0)).1.y).mv (-(ZY O z (FN T R z).1 (FN T R z).2).1) (-(ZY O z (FN T R z).1 (FN T R z).2).2))
  else (((R k).getD p0).mv ((S z).getD (p0,p0)).1.x ((S z).getD (p0,p0)).1.y).mv (-(ZY O z (FN T R z).1 (FN T R z).2).1) (-(ZY O z (FN T R z).1 (FN T R z).2).2),clO (bQ T z) ((S z).getD (p0,p0)).1 ((S z).getD (p0,p0)).2)
theorem VF{T:Tr.T}{O:Int->Option (Int×Int)}{q:Pr}{S S':Int->Option (Pr×Pr)}{z k:Int}(h1:S z=S' z)(h2:Fb T k ≠ -1->S (Fb T k)=S' (Fb T k)):Ir T R O q S z k=Ir T R O q S' z k:=by
 have e:Z' T S q (Fb T k)=Z' T S' q (Fb T k):=by
  unfold Z';split
  . rfl
  . rename_i h;rw[h2 h]
 unfold Ir;rw[h1,e]
def rV(T:Tr.T)(R:Int->Option Pr)(O:Int->Option (Int×Int))(q:Pr)(S:Int->Option (Pr×Pr))(z:Int):Int->Option (Pr×Pr):=λy=>if y∈kf R (dw T z)then some (Ir T R O q S z y)else S y
def Ou(T:Tr.T)(R:Int->Option Pr)(O:Int->Option (Int×Int))(q:Pr)(l:List Int)(S:Int->Option (Pr×Pr)):Int->Option (Pr×Pr):=l.foldl (λS z=>if (S z).isSome=true then rV T R O q S z else S) S
def FP(T:Tr.T)(R:Int->Option Pr)(q:Pr):Int->Option (Pr×Pr):=λy=>if y=0/\cA T R 0=true then some ((R 0).getD p0,q)else none
def Ov(T:Tr.T)(R:Int->Option Pr)(O:Int->Option (Int×Int))(q:Pr):Int->Option (Pr×Pr):=Ou T R O q (Tr.ord T) (FP T R q)
theorem tQ{y:Int}:y∈kf R l↔y∈l/\(R y).isSome=true:=by unfold kf;rw[List.mem_filter]
structure Fh(T:Tr.T)(R:Int->Option Pr)(O:Int->Option (Int×Int))(q:Pr)(l:List Int)(S:Int->Option (Pr×Pr)):Prop where
 root:S 0=if cA T R 0=true then some ((R 0).getD p0,q)else none
 live:∀z,(S z).isSome=true->z=0\/∃nd,T z=some nd/\nd.up∈l
 says:∀z nd,T z=some nd->z≠0->nd.up∈l->S z=if (R z).isSome=true/\(S nd.up).isSome=true then some (Ir T R O q S nd.up z)else none
section
variable {T:Tr.T} {R:Int->Option Pr} {O:Int->Option (Int×Int)} {q:Pr}
theorem Fh.start(hl:∀z,z≠0->True):Fh T R O q [] (FP T R q) where
 root:=by unfold FP;simp
 live:=λz h=>by
  unfold FP at h;split at h
  . rename_i h1;exact .inl h1.1
  . cases h
 says:=λz nd _ _ h=>by cases h
theorem Sz(H:Tr.WF T){z k:Int}(h:k∈dw T z):k≠0/\∃nd kd,T z=some nd/\T k=some kd/\kd.up=z:=by
 unfold dw at h;cases hT:T z with
 | none=>rw[hT]at h;cases h
 | some nd =>
   rw[hT]at h;obtain⟨h0,kd,h1,h2⟩:=H.kid z nd k hT h;exact⟨h0,nd,kd,rfl,h1,h2⟩
def Closed(T:Tr.T)(l:List Int):Prop:=∀x∈l,x≠0->∀nd,T x=some nd->nd.up∈l
theorem Closed.anc(H:Tr.WF T)(hc:Closed T l){f:Nat}:∀{u:Int},u∈l->(∃nd,T u=some nd)->FM T f u = -1\/FM T f u∈l:=by
 have hm:=H.low (x := -1) ak
 induction f with
 | zero=>intro u _ _;exact .inl rfl
 | succ f ih =>
   rintro u hu ⟨nd,hT⟩;rw[pz hT];split
   . exact .inr hu
   . by_cases h0:u=0
     . subst h0;rw[H.eU hT,nL hm];exact .inl rfl
     . obtain⟨p,hp,_⟩:=H.up u nd hT h0
       exact ih (hc u hu h0 nd hT) ⟨p,hp⟩
theorem Fh.step(H:Tr.WF T){x:Int}(h:Fh T R O q l S)(hc:Closed T l)(hx:x ∉ l)(hc':Closed T (l++[x]))(hn:∃nd,T x=some nd):Fh T R O q (l++[x]) (if (S x).isSome=true then rV T R O q S x else S):=by
 obtain⟨xd,hxT⟩:=hn
 have stay:∀y,(∀nd,T y=some nd->y≠0->nd.up≠x)->(if (S x).isSome=true then rV T R O q S x else S) y=S y:=λy hy=>by
  split
  . unfold rV
    rw[if_neg];intro hm;obtain⟨h0,nd,kd,_,h1,h2⟩:=Sz H (tQ.1 hm).1;exact hy kd h1 h0 h2
  . rfl
 have inl:∀y,y∈l->(if (S x).isSome=true then rV T R O q S x else S) y=S y:=λy hy=>stay y λnd h1 h0 he=>hx (he▸hc y hy h0 nd h1)
 have ady:(if (S x).isSome=true then rV T R O q S x else S) x=S x:=stay x λnd h1 h0 he=>by
  obtain⟨d,_,hd⟩:=H.deep x nd h1;cases hd with
  | root h=>exact h0 rfl
  | step h2 _ h3 =>
    rw[h1]at h2;cases h2;rw[he]at h3;obtain⟨d',_,hd'⟩:=H.deep x nd h1;have e1:=h3.WU hd';have e2:=(Tr.Dp.step h1 h0 (he.symm▸h3)).WU hd';omega
 have zero:(if (S x).isSome=true then rV T R O q S x else S) 0=S 0:=stay 0 λnd _ h0=>absurd rfl h0
 have same:∀z nd,T z=some nd->z≠0->nd.up∈l++[x]->Ir T R O q (if (S x).isSome=true then rV T R O q S x else S) nd.up z=Ir T R O q S nd.up z:=λz nd h1 h0 hu=>by
  obtain⟨p,hp,_⟩:=H.up z nd h1 h0
  have hin:∀y,y∈l++[x]->(if (S x).isSome=true then rV T R O q S x else S) y=S y:=λy hy=>by
   rcases List.mem_append.1 hy with h|h
   . exact inl y h
   . rw[List.mem_singleton.1 h];exact ady
  refine VF (hin _ hu) λhs => ?_;unfold Fb at hs ⊢;rw[rU h1]at hs ⊢;rcases Closed.anc H hc' (f:=64) hu ⟨p,hp⟩with e|e
  . exact absurd e hs
  . exact hin _ e
 refine⟨zero.trans h.root,λz hz => ?_,λz nd h1 h0 hu => ?_⟩
 . by_cases hk:(S x).isSome=true/\z∈kf R (dw T x)
   . obtain⟨_,nd,kd,_,h3,h4⟩:=Sz H (tQ.1 hk.2).1
     exact .inr ⟨kd,h3,by rw[h4];simp⟩
   . have e:(if (S x).isSome=true then rV T R O q S x else S) z=S z:=by
      split
      . rename_i hs;unfold rV;rw[if_neg λhm=>hk ⟨hs,hm⟩]
      . rfl
     rw[e]at hz;rcases h.live z hz with q0|⟨nd,q1,q2⟩
     . exact .inl q0
     . exact .inr ⟨nd,q1,List.mem_append_left _ q2⟩
 . rw[same z nd h1 h0 hu]
   rcases List.mem_append.1 hu with hul|hux
   . rw[inl _ hul,stay z λnd' h1' _ he=>by rw[h1]at h1';cases h1';exact hx (he▸hul)]
     exact h.says z nd h1 h0 hul
   . have hux:=List.mem_singleton.1 hux
     rw[hux,ady];have hzk:z∈dw T x:=by
      obtain⟨p,hp,hm⟩:=H.up z nd h1 h0;rw[hux]at hp;unfold dw;rw[hp];exact hm
     have hz0:S z=none:=by
      cases e:S z with
      | none=>rfl
      | some v =>
        rcases h.live z (by rw[e];rfl)with q0|⟨nd',q1,q2⟩
        . exact absurd q0 h0
        . rw[h1]at q1;cases q1;rw[hux]at q2;exact absurd q2 hx
     by_cases hs:(S x).isSome=true
     . rw[if_pos hs]
       unfold rV;by_cases hr:(R z).isSome=true
       . rw[if_pos (tQ.2 ⟨hzk,hr⟩),if_pos ⟨hr,hs⟩]
       . rw[if_neg λhm=>hr (tQ.1 hm).2,if_neg λhm=>hr hm.1,hz0]
     . rw[if_neg hs,if_neg λhm=>hs hm.2,hz0]
theorem NH(l:List Int)(x:Int)(S:Int->Option (Pr×Pr)):Ou T R O q (l++[x]) S=if (Ou T R O q l S x).isSome=true then rV T R O q (Ou T R O q l S) x else Ou T R O q l S:=by
 unfold Ou;rw[List.foldl_append];rfl
theorem Fj(H:Tr.WF T){l1 l2:List Int}(h:Tr.ord T=l1++l2):Closed T l1:=λx hx h0 nd hT=>by
 obtain⟨a,b,e⟩:=List.append_of_mem hx;have h':Tr.sub T 64 0=a++x::(b++l2):=by
  show Tr.ord T=_;rw[h,e];simp
 rcases H.behind H.uH _ _ _ h' with⟨_,hx0⟩|⟨nd',h1,h2,h3⟩
 . exact absurd hx0 h0
 . rw[hT]at h1;cases h1
   rw[e];exact List.mem_append_left _ h3
theorem QV(H:Tr.WF T):∀(l1 l2:List Int),Tr.ord T=l1.reverse++l2->Fh T R O q l1.reverse (Ou T R O q l1.reverse (FP T R q))
 | [],_,_=>Fh.start (λ_ _=>trivial)
 | x::l,l2,h=>by
   rw[List.reverse_cons]at h ⊢;have h':Tr.ord T=l.reverse++x::l2:=by rw[h];simp
   have hnd:=H.iD;rw[h']at hnd;have hx:x ∉ l.reverse:=λhm=>(List.nodup_append.1 hnd).2.2 x hm x jb3 rfl;rw[NH];exact(QV H l (x::l2) h').step H (Fj H h') hx (Fj H h) (H.fB.1 (by rw[h'];simp))
theorem aaj(H:Tr.WF T):Fh T R O q (Tr.ord T) (Ov T R O q):=by
 have:=QV (R:=R) (O:=O) (q:=q) H (Tr.ord T).reverse [] aW
 rwa [jd0]at this
theorem NI(H:Tr.WF T)(h:T 0=some nd):Ov T R O q 0=if (R 0).isSome=true then some ((R 0).getD p0,q)else none:=by
 rw[(aaj H).root,acK H h]
theorem NJ(H:Tr.WF T)(h:T z=some nd)(h0:z≠0):Ov T R O q z=if (R z).isSome=true/\(Ov T R O q nd.up).isSome=true then some (Ir T R O q (Ov T R O q) nd.up z)else none:=by
 obtain⟨p,hp,_⟩:=H.up z nd h h0;exact(aaj H).says z nd h h0 (H.fB.2 ⟨p,hp⟩)
end
def SN(W:World)(m n:Nat)(S:Int->Option (Pr×Pr)):Prop:=∃g,GM 3 W m n g/\∀z,g (.int .i64 z)=(S z).map λp => .agg (Ao p.1 p.2)
section
variable {W W':World} {m n:Nat} {S:Int->Option (Pr×Pr)}
theorem SN.sm(h:SN W m n S):SM W m S:=by obtain⟨g,h⟩:=h;exact⟨n,g,h⟩
theorem SN.lt(h:SN W m n S):m<W.heap.size:=h.sm.lt
theorem SN.out{M:Nat->Prop}(h:SN W m n S)(hm:¬ M m)(q:Out M W W'):SN W' m n S:=by obtain⟨g,h,r⟩:=h;exact⟨g,h.out hm q,r⟩
theorem SN.keep(h:SN W m n S)(hb:Below W W W'):SN W' m n S:=by obtain⟨g,h,r⟩:=h;exact⟨g,h.keep hb,r⟩
theorem SN.put(h:SN W m n S)(hn:n<maxLen)(hz:Wf z)(hf:S z=none)(p:Pr×Pr):∃W',(Instr.mapUpdate 34 (.map (some m)) (.int .i64 z) (.agg (Ao p.1 p.2))).run ja0 W=.ok () W'/\SN W' m (n+1) (λy=>if y=z then some p else S y)/\Out (λx=>x=m) W W':=by
 obtain⟨g,h,r⟩:=h;obtain⟨W',h1,h2,h3⟩:=h.store iT Tryz.underlying34 hn (iA hz) (v:=.agg (Ao p.1 p.2)) (by rw[r,hf];rfl);refine⟨W',h1,⟨_,h2,λy => ?_⟩,h3⟩;dsimp only;by_cases e:y=z
 . subst e;rw[iU,if_pos rfl];rfl
 . rw[jZ (by intro e';cases e';exact e rfl),if_neg e];exact r y
end
theorem Ay{T:TypeId}{n:Nat}(hi:∀W,(isAgg T).run ja0 W=.ok true W)(hz:∀W,(sizeOf T).run ja0 W=.ok n W){ops:Array Oper}{S:World->Prop}{o:Oper}{a:Act}(p:Operand){b:Nat}{vs:Array Value}(hs:vs.size=n)(hw:Region.wanted o (yielded ops a.tmps)=true)(ho:o.op=.load T p)(hp:a.eval p=.pointer b)(h:∀X,S X->At X b (.cells vs T)):aj.Reads ja0 ops S o (.agg vs) a :=
 .inl ⟨hw,λX hX=>fM hi hz p ho hp hs λj hj=>by rw[Nat.zero_add];exact(h X hX).cell j⟩
theorem aak(W:World):(isAgg 119).run ja0 W=.ok true W:=by kernel_rfl
theorem QW(W:World):(sizeOf 119).run ja0 W=.ok 8 W:=by kernel_rfl
theorem aft(W:World):(isAgg 176).run ja0 W=.ok true W:=by kernel_rfl
def aal(T:Tr.T)(R:Int->Option Pr)(S:Int->Option (Pr×Pr))(q:Pr)(x bx pE kx ky:Int)(cl hd:Pr):Pr×Pr :=
 if (bQ T x).c 1=3 then ((R x).getD p0,q)
 else (if (bQ T x).c 1=4 then stk (bQ T x) hd (Z' T S q (Fb T x)) ((((R x).getD p0).mv bx pE).mv (-kx) (-ky))else (((R x).getD p0).mv bx pE).mv (-kx) (-ky),cl)
section
variable {w:World} {t n:Nat} {L:Lay} {T:Tr.T} {m:Nat} {R:Int->Option Pr} {S:Int->Option (Pr×Pr)} {O:Int->Option (Int×Int)}
theorem afu(h:dQ w t L T n)(H:Tr.WF T)(z:Int):Wf (Fb T z):=by
 have hm:Wf (-1):=by rw[iQ];omega
 cases hT:T z with
 | none =>
   unfold Fb;rw[show iX T z = -1 by unfold iX;rw[hT],nL (H.low ak)];exact hm
 | some nd =>
   by_cases h0:z=0
   . subst h0
     unfold Fb;rw[rU hT,H.eU hT,nL (H.low ak)];exact hm
   . obtain⟨p,hp,_⟩:=H.up z nd hT h0
     obtain⟨d,_,hd⟩:=H.deep _ _ hp;rcases NC H hT h0 hd with e|⟨d',_,hd'⟩
     . rw[e];exact hm
     . obtain⟨nd',h'⟩:=hd'.live
       exact h.wf h'
theorem Kk(h:dQ w t L T n)(hmm:RM w m R)(H:Tr.WF T)(mo ms:Nat)(hsm:SM w ms S){x:Int}(hx:Wf x)(q:Pr)(bx pE kx ky:Int)(cl hd:Pr):Calls ja0 93 #[.agg (vw t m mo q ms),x,.agg (inA bx pE kx ky cl hd)] w λe w'=>e=.returned (.agg (Ao (aal T R S q x bx pE kx ky cl hd).1 (aal T R S q x bx pE kx ky cl hd).2))/\Below w w w':=by
 unfold aal;by_cases h3:(bQ T x).c 1=3
 . rw[if_pos h3]
   exact Kh h hmm mo ms x hx q _ rfl h3 bx pE kx ky cl hd
 . rw[if_neg h3]
   by_cases h4:(bQ T x).c 1=4
   . rw[if_pos h4]
     exact Kj h hmm mo ms x hx q _ rfl h3 h4 bx pE kx ky cl hd _ λX hb=>Ke (h.after hb) mo ms (hsm.keep hb) x (Fb T x) (afu h H x) q λY hb'=>vX (h.after (hb.trans (hb'.mono hb.size))) H hx
   . rw[if_neg h4]
     exact Ki h hmm mo ms x hx q _ rfl h3 h4 bx pE kx ky cl hd
def Sk(T:Tr.T)(R:Int->Option Pr)(O:Int->Option (Int×Int))(q:Pr)(S:Int->Option (Pr×Pr))(z:Int)(K:List Int)(k:Nat):Int->Option (Pr×Pr):=λy=>if y∈K.take k then some (Ir T R O q S z y)else S y
theorem acL(T:Tr.T)(R:Int->Option Pr)(O:Int->Option (Int×Int))(q:Pr)(S:Int->Option (Pr×Pr))(z:Int)(K:List Int){k:Nat}(h:k<K.length):(λy=>if y=K.getD k 0 then some (Ir T R O q S z (K.getD k 0))else Sk T R O q S z K k y)=Sk T R O q S z K (k+1):=by
 funext y;have e:K.getD k 0=K[k]:=by rw[List.getD,ja6 h];rfl
 unfold Sk;rw[jc8 h,e];by_cases hy:y=K[k]
 . rw[if_pos hy,if_pos (List.mem_append_right _ (List.mem_singleton.2 hy)),hy]
 . rw[if_neg hy];simp only[hy,List.mem_append,List.mem_singleton,or_false]
theorem NK{w0:World}(h:dQ w0 t L T n)(hmm:RM w0 m R)(H:Tr.WF T)(mo ms:Nat)(ho:OM w0 mo O)(hw:Below w0 w0 w)(hms:w0.heap.size<=ms){ns:Nat}(hsm:SN w ms ns S)(hT:T z=some nd)(hnk:∀k∈kf R nd.kids,S k=none)(hns:ns+(kf R nd.kids).length<maxLen)(q:Pr):Calls ja0 56 #[.agg (vw t m mo q ms),z] w λe w'=>e=.returned (.tuple #[])/\SN w' ms (ns+(kf R nd.kids).length) (rV T R O q S z)/\Out (λb=>b=ms) w w':=by
 have hX:∀X,Below w w X->Below w0 w0 X:=λX hb=>hw.trans (hb.mono hw.size);have KA:=h.wf hT;obtain⟨⟨a,b⟩,hab⟩:=aA ((S z).getD (p0,p0));obtain⟨s,hs⟩:=aA (bQ T z);obtain⟨kx,hkx⟩:=aA ((ZY O z (FN T R z).1 (FN T R z).2).1);obtain⟨ky,hky⟩:=aA ((ZY O z (FN T R z).1 (FN T R z).2).2)
 have nT:=λX (hb:Below w w X)=>Nz (h.after (hX X hb)) mo ms (hsm.sm.keep hb) z KA q a b hab s hs kx ky (λY hb'=>by
  have:=EZ O (FN T R z).1 (FN T R z).2 mo (ho.keep ((hX X hb).trans (hb'.mono (hX X hb).size))) KA q ms (λV hb2=>by
   have hV:=hX V (hb.trans ((hb'.trans (hb2.mono hb'.size)).mono hb.size))
   exact Fg (h.after hV) (hmm.keep hV) H KA)
  rw[hkx,hky]at this
  exact this)
 have hkw:∀x∈nd.kids,Wf x:=λx hx=>by obtain⟨_,kd,q,_⟩:=H.kid z nd x hT hx;exact h.wf q
 have qC:=λX (hb:Below w w X)=>Ej (h.after (hX X hb)) (hmm.keep (hX X hb)) hT nd.kids rfl hkw (aJ (H.sK hT) ak);have ekz:dw T z=nd.kids:=by unfold dw;rw[hT];rfl
 have hnd:=H.nodup z nd hT;obtain⟨K,hK⟩:=aA (kf R nd.kids);have hKw:Hid (∀x∈K,Wf x):=ah λx hx=>hkw x (tQ.1 (hK▸hx)).1;have ajL:Hid K.Nodup:=ah (hK▸hnd.filter _);have hKl:K.length<=5000:=by
  rw[<-hK];exact aJ (List.length_filter_le _ _) (aJ (H.sK hT) ak)
 have ajM:Hid (Sk T R O q S z K K.length=rV T R O q S z):=ah (by
  unfold Sk rV
  rw[List.take_length,ekz,hK])
 have hSc:Hid (∀x∈K,Fb T x = -1\/Fb T x ∉ K):=ah λx hx=>by
  obtain⟨h0,kd,h1,h2⟩:=H.kid z nd x hT (tQ.1 (hK▸hx)).1;obtain⟨d,_,hd⟩:=H.deep z nd hT;rcases NC H h1 h0 (h2.symm▸hd)with e|⟨d',hd1,hd2⟩
  . exact .inl e
  . refine .inr λhm => ?_
    have:=hd2.WU (H.qR hT (tQ.1 (hK▸hm)).1 hd);omega
 have ah6:Hid (∀x∈K,∀k,aal T R (Sk T R O q S z K k) q x a.x a.y kx ky (clO s a b) ((a.ins s).mv (-kx) (-ky))=Ir T R O q S z x):=ah λx hx k=>by
  have e:Z' T (Sk T R O q S z K k) q (Fb T x)=Z' T S q (Fb T x):=by
   unfold Z';split
   . rfl
   . rename_i hne
     have:Fb T x ∉ K.take k:=λhm=>((hSc.out x hx).resolve_left hne) (List.mem_of_mem_take hm);unfold Sk;rw[if_neg this]
  unfold aal Ir;rw[e,hab,hs,hkx,hky]
 rw[hK]at qC hnk hns ⊢;have HX:=ah hX;have HR:=ah h;have HM:=ah hmm;have HO:=ah ho;have HH:=ah H;have HNK:=ah hnk;have HNS:=ah hns;obtain⟨cl,hcl⟩:=aA (clO s a b);obtain⟨hd,hhd⟩:=aA ((a.ins s).mv (-kx) (-ky));rw[hcl,hhd]at ah6;simp only[hcl,hhd]at nT;obtain⟨q0,q1,q2,q3⟩:=q;obtain⟨c0,c1,c2,c3⟩:=cl;obtain⟨d0,d1,d2,d3⟩:=hd;simp only[vw,inA]at *;have HW:=ah hw;have HMS:=ah hms;have HSN:=ah hsm;clear hX h hmm ho H hnk hns hcl hhd hkw ekz hnd hK hSc hab hs hkx hky hT KA hw hsm;go_enter Tryz.func56,Tryz.ntmps56
 go_upto_region 1 with(fail)
 generalize hW:ja4 _ _=W0;have A0:At W0 w (.cells (vw t m mo ⟨q0,q1,q2,q3⟩ ms) 119):=hW▸At.new _ _;have hB:Below w w W0:=hW▸aB aD _;clear hW;obtain⟨l0,c00,JI,UR,c03,c04,c05,c06,c07⟩:=A0.eight;have kI:=nT W0 hB;clear nT
 go_upto_region 2 with(first|(go_at_call 92;(with_reducible refine kI.mono ?_);rintro e w2 ⟨rfl,hb2⟩)|(refine fE (q:=0) QK aR _ _ rfl rfl rfl (At.new _ _) rfl aW (aac _ _ _ _ _ _ _ _ _ _ _ _) ?_))
 rw[dZ (cs:=#[.complex .f64 0 0,.complex .f64 0 0,(),(),(),(),(),(),(),()]) (vs:=#[pt a.x a.y,ng kx ky,c0,c1,c2,c3,d0,d1,d2,d3]) rfl];obtain⟨Bi,hBi⟩:=aA w2.heap.size;generalize hW:jb9 _ _ _=W3;have AI:At W3 Bi (.cells #[pt a.x a.y,ng kx ky,c0,c1,c2,c3,d0,d1,d2,d3] 176):=hW▸hBi▸At.setRow (At.new _ _) _;have hb3:Below W0 W0 W3:=hW▸aM (aB hb2 _) hb2.size _;rw[hBi];have hB3:=hB.trans (hb3.mono hB.size);have A03:=A0.keep hb3;have hs3:=hb3.size;have gBi:w.heap.size<Bi:=by have:=hb2.size;omega
 have lBi:=AI.lt;have adz:=λX (hb:Below W3 W3 X)=>qC X (hB3.trans (hb.mono hB3.size));clear hW hBi hb2 hb3 kI A0 hB l0 c00 JI UR c03 c04 c05 c06 c07 qC hs3;obtain⟨l0,c00,JI,UR,c03,c04,c05,c06,c07⟩:=A03.eight;have kk:=adz W3 aD;clear adz
 go_upto_region 3 with(go_at_call 88;(with_reducible refine kk.mono ?_);rintro e w4 ⟨⟨v,rfl,hv⟩,hb4⟩;obtain⟨A,cc,rfl,hI,-⟩:=KS.ints (dP hv oI))
 have hap:Hid (∀a,A=some a->¬ a.block=ms):=ah λa ha e=>by
  have h1:=(hv.lt a.block (by rw[ha];rfl)).1;have h2:=HSN.out.lt;have h3:=hB3.size;omega
 have A04:=A03.keep hb4;have AI4:=AI.keep hb4;have hB4:=hB3.trans (hb4.mono hB3.size);have Gi:=HSN.out.keep hB4;have hs4:=hB4.size;have lms:ms<w.heap.size:=HSN.out.lt;have HI:=ah hI;clear hI hv hb4 kk A03 AI hB3 l0 c00 JI UR c03 c04 c05 c06 c07 lBi
 go_loopw [17] (λi wr=>∃k:Nat,k<=K.length/\i=.int .i64 (k:Int)/\SN wr ms (ns+k) (Sk T R O ⟨q0,q1,q2,q3⟩ S z K k)/\Out (λb=>b=ms) w4 wr) (λi _=>K.length-(intOf i).toNat)
 case atStart=>exact⟨0,by omega,rfl,by
  have e0:Sk T R O ⟨q0,q1,q2,q3⟩ S z K 0=S:=by funext y;unfold Sk;rw[List.take_zero,if_neg aW]
  rw[e0,Nat.add_zero]
  exact Gi,Out.refl _ _⟩
 case round =>
  clear Gi;obtain⟨k,hk,rfl,hSr,hO⟩:=hrel;have hsw:=HW.out.size;have ald:=HMS.out;have hB0:Below w0 w0 wr:=(HX.out _ hB4).trans (hO.below ak λb hb e=>by omega);have hsr:=hO.size;have Eo:=HI.out.afm (λa ha=>hap.out a ha) hO;by_cases hlt:k<K.length
  . have hkz:(k:Int)<(K.length:Int):=by omega
    obtain⟨b0,o0,rfl,le0,ce0⟩:=Eo.at_ (k:=k) hlt;have hxm:K.getD k 0∈K:=by rw[List.getD,ja6 hlt];exact jc3 _
    have hnew:Sk T R O ⟨q0,q1,q2,q3⟩ S z K k (K.getD k 0)=none:=by
     unfold Sk;rw[if_neg,HNK.out _ hxm];intro hm;have e:K.getD k 0=K[k]:=by rw[List.getD,ja6 hlt];rfl
     rw[e]at hm;obtain⟨j,hj,hj2⟩:=List.mem_take_iff_getElem.1 hm;have:=(List.getElem_inj ajL.out).1 hj2;omega
    have hsucc:=acL T R O ⟨q0,q1,q2,q3⟩ S z K hlt;obtain⟨x,hx⟩:=aA (K.getD k 0);rw[hx]at ce0 hxm hnew hsucc;have hxw:=hKw.out x hxm;have hsp:=ah6.out x hxm k;have kS:=λX (hb:Below wr wr X)=>Kk (HR.out.after (hB0.trans (hb.mono hB0.size))) (HM.out.keep (hB0.trans (hb.mono hB0.size))) HH.out mo ms (hSr.sm.keep hb) hxw ⟨q0,q1,q2,q3⟩ a.x a.y kx ky ⟨c0,c1,c2,c3⟩ ⟨d0,d1,d2,d3⟩;rw[hsp]at kS;obtain⟨sp,ah7⟩:=aA (Ir T R O ⟨q0,q1,q2,q3⟩ S z x);rw[ah7]at kS hsucc;simp only[inA]at kS;have HSR:=ah hSr;have HSU:=ah hsucc;have ajN:=ah hnew;have A0r:At wr w _:=A04.out (M:=λb=>b=ms) ak hO;have AIr:At wr Bi _:=AI4.out (M:=λb=>b=ms) ak hO;have hns:=HNS.out;obtain⟨l0,c00,JI,UR,c03,c04,c05,c06,c07⟩:=A0r.eight;clear hSr hsucc hnew hsp ah7 hx Eo
    go_upto_region 5 with(fail)
    have hSd:Below wr wr wr.drew:=Below.drew aD;refine iC (S:=λX=>Below wr wr X) 7 ?_ ?_
    . exact hSd
    intro hx;clear hSd;refine aF 0 ?_;refine aF 1 ?_;refine aF 2 ?_;refine jh 3 rfl (Ay aak QW (.tmp 2) rfl aR rfl rfl (λX h=>A0r.keep h)) ?_;refine aF 4 ?_;refine jh 5 rfl (Ay aft QK (.tmp 4) rfl aR rfl rfl (λX h=>AIr.keep h)) ?_;refine tk1 6 ?_;refine BH (kS _ hx) hx ?_;clear hx;intro w5 hx;obtain⟨w6,hrun,qL,iV⟩:=(HSR.out.keep hx).put ak hxw ajN.out sp;have zF:=ah hrun;rw[HSU.out]at qL;have HS6:=ah qL;have Bg:Out (λb=>b=ms) w4 w6:=(hO.trans (Out.of_below hx)).trans iV;clear hrun qL kS;refine tk1 7 ?_;refine aj.Step.skip (nI (.tmp 22) (.tmp 23) (.tmp 27) rfl rfl rfl rfl zF.out) ?_;refine⟨λhlt=>absurd hlt aG,?_⟩
    (try simp only[bM,bN,bO,tks])
    refine gZ ?_;go_wp2
    go_roundw
    case rel=>exact⟨k+1,by omega,by go_num,HS6.out,Bg⟩
    case measure=>exact uT hlt
  . obtain rfl:k=K.length:=by omega
    rw[ajM.out]at hSr;have HSR:=ah hSr;have MP:Out (λb=>b=ms) w wr:=(Out.of_below hB4).trans hO;clear hSr;go_wp2;refine bodyPost_end (results_none rfl _ _ _) rfl ⟨rfl,HSR.out,MP⟩
end
def spC(S:Int->Option (Pr×Pr))(l:List Int):Nat:=l.countP λz=>(S z).isSome
theorem VG{p q:Int->Bool}(l:List Int)(h:∀x∈l,p x=true->q x=false):l.countP (λx=>p x||q x)=l.countP p+l.countP q:=by
 induction l with
 | nil=>rfl
 | cons x l ih =>
   have ih:=ih λy hy=>h y (List.mem_cons_of_mem _ hy);rw[List.countP_cons,List.countP_cons,List.countP_cons,ih];have hx:=h x jb3;cases e:p x with
   | true=>rw[hx e];simp;omega
   | false=>simp;omega
theorem Fp:∀{K l:List Int},K.Nodup->l.Nodup->(∀x∈K,x∈l)->l.countP (λx=>decide (x∈K))=K.length:=by
 intro K l hK hl h;rw[List.countP_eq_length_filter];refine List.Perm.length_eq ((List.perm_ext_iff_of_nodup (hl.filter _) hK).2 λx => ?_);rw[List.mem_filter,decide_eq_true_iff];exact⟨λq=>q.2,λq=>⟨h x q,q⟩⟩
theorem acM{T:Tr.T}{O:Int->Option (Int×Int)}{q:Pr}(H:Tr.WF T)(hT:T z=some nd)(hn:∀k∈kf R nd.kids,S k=none):spC (rV T R O q S z) (Tr.ord T)=spC S (Tr.ord T)+(kf R nd.kids).length:=by
 have ek:dw T z=nd.kids:=by unfold dw;rw[hT];rfl
 have e:(λy=>(rV T R O q S z y).isSome)=λy=>(S y).isSome||decide (y∈kf R nd.kids):=by
  funext y;unfold rV;rw[ek];by_cases hy:y∈kf R nd.kids
  . rw[if_pos hy,hn y hy];simp[hy]
  . rw[if_neg hy];simp[hy]
 unfold spC
 rw[e,VG _ λx _ hx=>by
  rw[decide_eq_false_iff_not];intro hm
  rw[hn x hm]at hx;cases hx]
 rw[Fp (K:=kf R nd.kids) ((H.nodup z nd hT).filter _) H.iD λx hx=>by
  obtain⟨_,kd,h1,_⟩:=H.kid z nd x hT (tQ.1 hx).1
  exact H.fB.2 ⟨kd,h1⟩]
theorem afv(S:Int->Option (Pr×Pr))(l:List Int):spC S l<=l.length:=List.countP_le_length
theorem ah8{T:Tr.T}{q:Pr}(H:Tr.WF T):spC (FP T R q) (Tr.ord T)=if cA T R 0=true then 1 else 0:=by
 obtain⟨nd,h0,_⟩:=H.root;unfold spC FP;by_cases hc:cA T R 0=true
 . rw[if_pos hc]
   have e:(λz:Int=>(if z=0/\cA T R 0=true then some ((R 0).getD p0,q)else none:Option (Pr×Pr)).isSome)=λz=>decide (z∈[(0:Int)]):=by
    funext z;by_cases hz:z=0<;>simp[hz,hc]
   rw[e,Fp (K:=[0]) aW H.iD λx hx=>by rw[List.mem_singleton.1 hx];exact H.fB.2 ⟨nd,h0⟩];rfl
 . rw[if_neg hc,List.countP_eq_zero]
   intro z _;rw[if_neg λe=>hc e.2];simp
def vY(ww wh:Int):Pr:=⟨0,0,Fx.mx (Fx.cut ww) 0,Fx.mx (Fx.cut wh) 0⟩
theorem SN.look_ok{W:World}{m n:Nat}(h:SN W m n S)(hz:Wf z){a b:Pr}(hs:(S z).getD (p0,p0)=(a,b)):(Instr.lookup 34 (.map (some m)) (.int .i64 z) true).run ja0 W=.ok (.tuple #[.agg #[a.x,a.y,a.w,a.h,b.x,b.y,b.w,b.h],.bool (S z).isSome]) W:=by
 obtain⟨g,h,r⟩:=h;have k:=h.look_ok iT Tryz.underlying34 (z:=.agg #[(),(),(),(),(),(),(),()]) aV (iA hz);rw[r]at k;rw[k];cases e:S z with
 | none=>rw[e]at hs;cases hs;rfl
 | some p=>rw[e]at hs;cases hs;rfl
theorem afw(t m mo ms:Nat)(q:Pr):∀z∈(vw t m mo q ms).toList,z.oneCell'=true:=by
 intro z hz;simp[vw]at hz;rcases hz with rfl|rfl|rfl|rfl|rfl|rfl|rfl|rfl<;>rfl
theorem aam(t m mo ms:Nat)(x y u v:Int)(W:World):(Instr.build 119 #[(0,.pointer t),(1,.map (some m)),(2,.map (some mo)),(3,.agg #[x,y,u,v]),(4,.map (some ms))]).run ja0 W=.ok (.agg #[t,.map (some m),.map (some mo),x,y,u,v,.map (some ms)]) W:=by kernel_rfl
section
variable {w:World} {t n:Nat} {L:Lay} {T:Tr.T} {m:Nat} {R:Int->Option Pr} {O:Int->Option (Int×Int)}
theorem Kl(h:dQ w t L T n)(hmm:RM w m R)(H:Tr.WF T)(hz:Wf z):Calls ja0 49 #[t,.map (some m),z] w λe w'=>e=.returned (.bool ((T z).isSome&&cA T R z))/\Below w w w':=by
 cases hT:T z with
 | none=>exact(xg h hmm hz hT).mono λe w' ⟨h1,h2⟩=>⟨h1,h2▸Below.refl _ _⟩
 | some nd =>
   obtain⟨d,Pk,hd⟩:=H.deep z nd hT;have key:=mY h hmm (λ_ h=>H.eU h) hd;rw[<-Fa H hd 65 ak]at key;exact key
theorem Fh.fresh{q:Pr}(h:Fh T R O q l S){x:Int}(H:Tr.WF T)(hT:T x=some nd)(hx:x ∉ l):∀k∈kf R nd.kids,S k=none:=λk hk=>by
 obtain⟨h0,kd,h1,h2⟩:=H.kid x nd k hT (tQ.1 hk).1;cases e:S k with
 | none=>rfl
 | some v =>
   rcases h.live k (by rw[e];rfl)with q0|⟨nd',q1,q2⟩
   . exact absurd q0 h0
   . rw[h1]at q1;cases q1;rw[h2]at q2;exact absurd q2 hx
theorem Bv(h:dQ w t L T n)(hmm:RM w m R)(H:Tr.WF T)(mo:Nat)(ho:OM w mo O)(ww wh:Int):Calls ja0 14 #[t,.map (some m),.map (some mo),ww,wh] w λe w'=>(∃ms,e=.returned (.map (some ms))/\w.heap.size<=ms/\SN w' ms (spC (Ov T R O (vY ww wh)) (Tr.ord T)) (Ov T R O (vY ww wh)))/\Below w w w':=by
 have HR:=ah h;have HM:=ah hmm;have HO:=ah ho;have HH:=ah H;have hmk:=@run_makeMap ja0;obtain⟨nd0,hT0,ajO⟩:=H.root;have z0w:Wf 0:=h.wf hT0;have kC:=λX (hb:Below w w X)=>Kl (h.after hb) (hmm.keep hb) H z0w;simp only[hT0,Option.isSome_some,Bool.true_and]at kC;have kO:=λX=>p8 0 0 ww wh X;rw[show Fx.cut 0=0 from rfl]at kO;obtain⟨q2,hq2⟩:=aA (Fx.mx (Fx.cut ww) 0);obtain⟨q3,hq3⟩:=aA (Fx.mx (Fx.cut wh) 0);have ew:vY ww wh=⟨0,0,q2,q3⟩:=by unfold vY;rw[hq2,hq3]
 rw[hq2,hq3]at kO;rw[ew];have hbv:=aam;obtain⟨c,hc⟩:=aA (cA T R 0);rw[hc]at kC;have ajP:=H.iE;have HC:=ah hc;have kT:=λX (hb:Below w w X)=>DX (h.after hb) H.uH ak;clear h hmm ho H hq2 hq3 ew hc hT0 ajO;go_enter Tryz.func14,Tryz.ntmps14
 go_upto_region 2 with(first|(go_at_call 24;(with_reducible refine(kO _).mono ?_);rintro e w1 ⟨rfl,hb1⟩)|(refine fE (q:=0) QW aR _ _ rfl rfl rfl (At.new _ _) rfl aW (afw t m mo w1.heap.size ⟨0,0,q2,q3⟩) ?_))
 obtain⟨ms,hms⟩:=aA w1.heap.size;have hG:SN (w1.alloc (.map #[] 0)) ms 0 (λ_=>none):=⟨λ_=>none,hms▸GM.made _ _,λz=>rfl⟩;generalize hW:ja4 _ _=W2;have A2:At W2 (ms+1) (.cells (vw t m mo ⟨0,0,q2,q3⟩ ms) 119):=by
  rw[<-hW,<-hms];exact At.new' _ aW
 have hb2:Below w1 w1 W2:=hW▸aB (aB aD _) _;have hS2:SN W2 ms 0 (λ_=>none):=hG.keep (hW▸aB aD _);have hB2:=hb1.trans (hb2.mono hb1.size);have gms:w.heap.size<=ms:=hms▸hb1.size;have lms:=hS2.lt;have kC2:=kC W2 hB2;rw[hms];clear hW hms hG hb1 hb2 kO hbv hmk kC
 go_upto_if 26 with(go_at_call 49;(with_reducible refine kC2.mono ?_);rintro e w3 ⟨rfl,hb3⟩)
 have A3:=A2.keep hb3;have qz:=hS2.keep hb3;have hB3:=hB2.trans (hb3.mono hB2.size);have ajQ:=qz.lt;clear A2 hS2 hB2 hb3 kC2 lms;go_cut []from 27 to 30 (λW=>SN W ms (if c=true then 1 else 0) (FP T R ⟨0,0,q2,q3⟩)/\Out (λb=>b=ms) w3 W)
 case first =>
  cases c with
  | false =>
    have e0:FP T R ⟨0,0,q2,q3⟩=λ_=>none:=by
     funext y;unfold FP;rw[if_neg λh=>by rw[HC.out]at h;cases h.2]
    have HS3:=ah qz;rw[<-e0]at HS3;clear qz e0;go_wp2
    go_meet
    case rel=>exact⟨HS3.out,Out.refl _ _⟩
  | true =>
    have e0:(λy=>if y=0 then some ((R 0).getD p0,(⟨0,0,q2,q3⟩:Pr))else none)=FP T R ⟨0,0,q2,q3⟩:=by
     funext y;unfold FP;rw[HC.out];by_cases h:y=0<;>simp[h]
    have kU:=λX (hb:Below w3 w3 X)=>xw (t:=t) (HM.out.keep (hB3.trans (hb.mono hB3.size))) z0w ⟨0,0,q2,q3⟩ mo ms;obtain⟨l0,c00,JI,UR,c03,c04,c05,c06,c07⟩:=A3.eight;have HS3:=ah qz;have HE:=ah e0;clear qz e0
    go_upto_region 3 with(fail)
    have hSd:Below w3 w3 w3.drew:=Below.drew aD;refine iC (S:=λX=>Below w3 w3 X) 4 ?_ ?_
    . exact hSd
    intro hx;clear hSd;refine aF 0 ?_;refine aF 1 ?_;refine jh 2 rfl (Ay aak QW (.tmp 11) rfl aR rfl rfl (λX h=>A3.keep h)) ?_;refine tk1 3 ?_;refine BH (kU _ hx) hx ?_;clear hx;intro w5 hx;obtain⟨w6,hrun,qL,iV⟩:=(HS3.out.keep hx).put (by simp[maxLen]) z0w rfl ((R 0).getD p0,(⟨0,0,q2,q3⟩:Pr));have zF:=ah hrun;rw[HE.out]at qL;have HS6:=ah qL;have Bg:Out (λb=>b=ms) w3 w6:=(Out.of_below hx).trans iV;clear hrun qL kU;refine tk1 4 ?_;refine aj.Step.skip (nI (.tmp 28) (.const (.int .i64 0)) (.tmp 30) rfl rfl rfl rfl zF.out) ?_;refine⟨λhlt=>absurd hlt aG,?_⟩
    (try simp only[bM,bN,bO,tks])
    refine gZ ?_;go_wp2
    go_meet
    case rel=>exact⟨HS6.out,Bg⟩
 case rest =>
  obtain⟨hSc,hOc⟩:=hcut;have hn0:(if c=true then 1 else 0)=spC (FP T R ⟨0,0,q2,q3⟩) (Tr.ord T):=by rw[ah8 HH.out,HC.out]
  rw[hn0]at hSc;have hs3:=hB3.size;have hBc:Below w w wc:=hB3.trans (hOc.below hs3 λb hb e=>by omega);have Ac:At wc (ms+1) _:=A3.out (M:=λb=>b=ms) ak hOc;have kTc:=kT wc hBc;clear hn0 kT A3 qz hOc hs3 hB3 ajQ
  go_upto_region 5 with(go_at_call 15;(with_reducible refine kTc.mono ?_);rintro e w4 ⟨⟨v,rfl,hv⟩,hb4⟩;obtain⟨A,cc,rfl,hI,-⟩:=KS.ints (dP hv oI))
  have lms:=hSc.lt
  have hap:Hid (∀a,A=some a->¬ a.block=ms):=ah λa ha e=>by
   have h1:=(hv.lt a.block (by rw[ha];rfl)).1;omega
  have A4:=Ac.keep hb4;have hB4:=hBc.trans (hb4.mono hBc.size);have Gi:=hSc.keep hb4;have HI:=ah hI;have lm4:=A4.lt;clear hI hv hb4 kTc Ac hBc hSc lms;obtain⟨o,ho⟩:=aA (Tr.ord T);rw[ho]at HI Gi ajP ⊢;have HOR:=ah ho;have hs4:=hB4.size;clear ho
  go_loopw [34] (λi wr=>∃k:Nat,k<=o.length/\i=.int .i64 (k:Int)/\SN wr ms (spC (Ou T R O ⟨0,0,q2,q3⟩ (o.take k) (FP T R ⟨0,0,q2,q3⟩)) o) (Ou T R O ⟨0,0,q2,q3⟩ (o.take k) (FP T R ⟨0,0,q2,q3⟩))/\Out (λb=>b=ms) w4 wr/\At wr (ms+1) (.cells (vw t m mo ⟨0,0,q2,q3⟩ ms) 119)) (λi _=>o.length-(intOf i).toNat)
  case atStart=>exact⟨0,by omega,rfl,by rw[List.take_zero];exact Gi,Out.refl _ _,A4⟩
  case round =>
   clear Gi A4;obtain⟨k,hk,rfl,hSr,hO,Ar⟩:=hrel;have hBr:Below w w wr:=hB4.trans (hO.below hs4 λb hb e=>by omega);have Eo:=HI.out.afm (λa ha=>hap.out a ha) hO;by_cases hlt:k<o.length
   . have hkz:(k:Int)<(o.length:Int):=by omega
     obtain⟨b0,o0,rfl,le0,ce0⟩:=Eo.at_ (k:=k) hlt;have hxm:o.getD k 0∈o:=by rw[List.getD,ja6 hlt];exact jc3 _
     have ek:o.getD k 0=o[k]:=by rw[List.getD,ja6 hlt];rfl
     have hnd:o.Nodup:=HOR.out▸HH.out.iD
     have hxn:o.getD k 0 ∉ o.take k:=λhm=>by
      rw[ek]at hm;obtain⟨j,hj,hj2⟩:=List.mem_take_iff_getElem.1 hm;have:=(List.getElem_inj hnd).1 hj2;omega
     have hsp:Fh T R O ⟨0,0,q2,q3⟩ (o.take k) (Ou T R O ⟨0,0,q2,q3⟩ (o.take k) (FP T R ⟨0,0,q2,q3⟩)):=by
      have:=QV (R:=R) (O:=O) (q:=⟨0,0,q2,q3⟩) HH.out (o.take k).reverse (o.drop k) (by rw[jd0,List.take_append_drop];exact HOR.out)
      rwa [jd0]at this
     have hsucc:Ou T R O ⟨0,0,q2,q3⟩ (o.take (k+1)) (FP T R ⟨0,0,q2,q3⟩)=if (Ou T R O ⟨0,0,q2,q3⟩ (o.take k) (FP T R ⟨0,0,q2,q3⟩) (o.getD k 0)).isSome=true then rV T R O ⟨0,0,q2,q3⟩ (Ou T R O ⟨0,0,q2,q3⟩ (o.take k) (FP T R ⟨0,0,q2,q3⟩)) (o.getD k 0)else Ou T R O ⟨0,0,q2,q3⟩ (o.take k) (FP T R ⟨0,0,q2,q3⟩):=by
      rw[jc8 hlt,NH,<-ek]
     have ah9:o.getD k 0∈Tr.ord T:=by rw[HOR.out];exact hxm
     obtain⟨nd,hT⟩:=HH.out.fB.1 ah9;clear ah9;have hfr:=hsp.fresh HH.out hT hxn;have hcnt:=acM (O:=O) (q:=⟨0,0,q2,q3⟩) HH.out hT hfr;rw[HOR.out]at hcnt;obtain⟨S,hS⟩:=aA (Ou T R O ⟨0,0,q2,q3⟩ (o.take k) (FP T R ⟨0,0,q2,q3⟩));obtain⟨x,hx⟩:=aA (o.getD k 0);rw[hS]at hSr hsucc hfr hcnt;rw[hx]at ce0 hsucc hT hcnt;obtain⟨nS,hnS⟩:=aA (spC S o);have ah':=afv S o;rw[hnS]at hSr hcnt ah';have hxw:=HR.out.wf hT;obtain⟨⟨a,b⟩,hab⟩:=aA ((S x).getD (p0,p0));have hlk:=hSr.look_ok hxw hab;obtain⟨sb,hsb⟩:=aA ((S x).isSome);rw[hsb]at hlk;have HSU:=ah hsucc;have HSB:=ah hsb;have HCN:=ah hcnt;have HSR:=ah hSr;have HNS:=ah hnS;have hkl:=aJ (List.length_filter_le (λk=>(R k).isSome) nd.kids) (HH.out.sK hT);have kE:=λX (hb:Below wr wr X)=>NK HR.out HM.out HH.out mo ms HO.out (hBr.trans (hb.mono hBr.size)) gms (hSr.keep hb) hT hfr (show nS+(kf R nd.kids).length<maxLen by unfold kf;simp only[maxLen];omega) ⟨0,0,q2,q3⟩;obtain⟨l0,c00,JI,UR,c03,c04,c05,c06,c07⟩:=Ar.eight;clear hsucc hsb hcnt hSr hnS hab hS hx hsp hxn ek hxm hnd Eo hfr ah';cases sb with
     | false =>
       go_wp2
       go_roundw
       case rel =>
        have e1:=HSU.out;rw[if_neg (by rw[HSB.out];simp)]at e1;refine⟨k+1,by omega,by go_num,?_,hO.trans (Out.of_below (aB aD _)),Ar.keep (aB aD _)⟩;rw[e1,HNS.out];exact HSR.out.keep (aB aD _)
       case measure=>exact uT hlt
     | true =>
       go_upto_region 9 with(fail)
       generalize hW:ja4 _ _=W5;have hb5:Below wr wr W5:=hW▸aB aD _;have A5:=Ar.keep hb5;have BI:=hO.trans (Out.of_below hb5);have kE5:=kE W5 hb5;simp only[vw]at kE5;clear hW l0 c00 JI UR c03 c04 c05 c06 c07 Ar hlk kE hb5;obtain⟨l0,c00,JI,UR,c03,c04,c05,c06,c07⟩:=A5.eight
       go_wp2_with (go_at_call 56;(with_reducible refine kE5.mono ?_);rintro e w6 ⟨rfl,qL,iV⟩)
       go_roundw
       case rel =>
        have e1:=HSU.out;rw[if_pos HSB.out]at e1;refine⟨k+1,by omega,by go_num,?_,BI.trans iV,A5.out (M:=λb=>b=ms) ak iV⟩;rw[e1,HCN.out];exact qL
       case measure=>exact uT hlt
   . obtain rfl:k=o.length:=by omega
     rw[List.take_length]at hSr;have e1:Ov T R O ⟨0,0,q2,q3⟩=Ou T R O ⟨0,0,q2,q3⟩ o (FP T R ⟨0,0,q2,q3⟩):=by unfold Ov;rw[HOR.out]
     rw[<-e1]at hSr;have HSR:=ah hSr;obtain⟨l0,c00,JI,UR,c03,c04,c05,c06,c07⟩:=Ar.eight;clear hSr e1;go_wp2
     go_ret
     exact⟨⟨ms,rfl,gms,by rw[HOR.out];exact HSR.out⟩,hBr⟩
end
end Go.Proofs.YtdnggaapcgomhaaGreat.Fix
