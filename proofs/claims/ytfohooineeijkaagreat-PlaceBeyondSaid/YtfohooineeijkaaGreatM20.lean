/- Steps of the program (20); no conditions. -/
import Derived.Test.YtfohooineeijkaaGreatM19
set_option linter.all false
set_option maxRecDepth 100000
set_option maxHeartbeats 16000000
namespace Go.Proofs.YtfohooineeijkaaGreat.Fix
open Go.ChangeShapes Go.WideShapes Go.ChangeAt Go.RowKit
open Go.Proofs.Tryz renaming prog → ja0
section
open Go.Deep
open World renaming setCell → ja4,alloc → ja5
def SM(W:World)(m:Nat)(S:Int->Option (Pr×Pr)):Prop:=∃n g,GM 3 W m n g/\∀z,g (.int .i64 z)=(S z).map λp => .agg (BQ p.1 p.2)
section
variable {W W':World} {m:Nat} {S:Int->Option (Pr×Pr)}
theorem SM.lt(h:SM W m S):m<W.heap.size:=by obtain⟨n,g,h,_⟩:=h;exact h.lt
theorem SM.out{M:Nat->Prop}(h:SM W m S)(hm:¬ M m)(q:Out M W W'):SM W' m S:=by obtain⟨n,g,h,r⟩:=h;exact⟨n,g,h.out hm q,r⟩
theorem SM.keep(h:SM W m S)(hb:Below W W W'):SM W' m S:=by obtain⟨n,g,h,r⟩:=h;exact⟨n,g,h.keep hb,r⟩
theorem SM.look(h:SM W m S){z:Int}(hz:Wf z){a b:Pr}(hs:(S z).getD (p0,p0)=(a,b)):(Instr.lookup 32 (.map (some m)) (.int .i64 z) false).run ja0 W=.ok (.agg #[a.x,a.y,a.w,a.h,b.x,b.y,b.w,b.h]) W:=by
 obtain⟨n,g,h,r⟩:=h;have k:=h.look jH Tryz.underlying32 (z:=.agg #[(),(),(),(),(),(),(),()]) bE (jh hz);rw[r]at k;rw[k];cases e:S z with
 | none=>rw[e]at hs;cases hs;rfl
 | some p=>rw[e]at hs;cases hs;rfl
end
theorem CB(a0 a1 a2 a3 b0 b1 b2 b3:Int)(W:World):(Instr.field 42 (.agg #[a0,a1,a2,a3,b0,b1,b2,b3]) 0).run ja0 W=.ok (.agg #[a0,a1,a2,a3]) W:=by kernel_rfl
section
variable {w:World} {t n:Nat} {L:Lay} {T:Tr.T} {m:Nat} {S:Int->Option (Pr×Pr)}
def ptO(T:Tr.T)(S:Int->Option (Pr×Pr))(q:Pr)(u:Int):Pr:=if u = -1 then q else (((S u).getD (p0,p0)).1).prt (dU T u)
theorem Lg(h:fE w t L T n)(mo ms:Nat)(hsm:SM w ms S)(z u:Int)(hu:Wf u)(q:Pr)(ahJ:∀X,Below w w X->Calls ja0 21 #[t,z] X λe w'=>e=.returned u/\Below X.heap.size X w'):Calls ja0 112 #[.agg (vw t m mo q ms),z] w λe w'=>e=.returned (ptO T S q u).ag/\Below w w w':=by
 obtain⟨⟨a,b⟩,hab⟩:=aC ((S u).getD (p0,p0));have hlk:=λX (hb:Below w w X)=>(hsm.keep hb).look hu hab;have kS:=λX (hb:Below w w X)=>fP (h.after hb) hu;obtain⟨s,hs⟩:=aC ((T u).elim Re.zero (·.sty));simp only[hs]at kS;have hpt:ptO T S q u=if u = -1 then q else a.prt s:=by unfold ptO;rw[hab,show dU T u=s from hs]
 rw[hpt];obtain⟨ans,gy⟩:=aC ((if u = -1 then q else a.prt s));rw[gy];have HA:=ah gy;have AO:=ah hlk;have XI:=ah kS;have HSC:=ah ahJ;obtain⟨q0,q1,q2,q3⟩:=q;simp only[vw]at *;clear h hsm hab hlk kS hs hpt ahJ hu gy;go_enter Tryz.func112,Tryz.ntmps112
 go_upto_region 1 with(fail)
 generalize hW:ja5 _ _=W0;have A0:At W0 w (.cells #[t,.map (some m),.map (some mo),q0,q1,q2,q3,.map (some ms)] 98):=hW▸At.alloc (At.new _ _) _;have A1:At W0 (w.heap.size+1) (.cells #[(),(),(),()] 40):=hW▸At.new' _ bI;have hB:Below w w W0:=hW▸aD (aD aG _) _;clear hW;obtain⟨l0,c0,c1,c2,c3,c4,c5,c6,c7⟩:=A0.eight;have kC:=HSC.out W0 hB
 go_upto_region 2 with(go_at_call 21;(with_reducible refine kC.mono ?_);rintro e w2 ⟨rfl,hb2⟩)
 have A2:=A0.keep hb2;have A3:=A1.keep hb2;have hB2:=hB.trans (hb2.mono hB.size);clear A0 A1 hB kC hb2 l0 c0 c1 c2 c3 c4 c5 c6 c7 HSC;by_cases hu1:u = -1
 . have ajn:(u == -1)=true:=by simp[hu1]
   have e:=HA.out;rw[if_pos hu1]at e;subst e;obtain⟨l0,c0,c1,c2,c3,c4,c5,c6,c7⟩:=A2.eight;obtain⟨l1,d0,d1,d2,d3⟩:=At.four A3;have z0:=A3.thaw 0;have z1:=A3.thaw 1;have z2:=A3.thaw 2;have z3:=A3.thaw 3;go_wp2;generalize hW:ja4 _ _ _=W2;have A9:At W2 (w.heap.size+1) (.cells #[q0,q1,q2,q3] 40):=hW▸At.set (At.set (At.set (At.set A3 0 _) 1 _) 2 _) 3 _;have Ik:Below w w W2:=by
    rw[<-hW];exact Below.setCell (Below.setCell (Below.setCell (Below.setCell hB2 nK _) nK _) nK _) nK _
   clear hW l1 d0 d1 d2 d3 z0 z1 z2 z3;exact Z23
 . have ajn:(u == -1)=false:=by simp[hu1]
   have hv:=HA.out;rw[if_neg hu1]at hv;have kP:=λX=>vo a s X;simp only[hv,Pr.ag]at kP;have hfs:=CB a.x a.y a.w a.h b.x b.y b.w b.h;clear hv HA
   go_upto_region 4 with(fail)
   have hlk:=λX (h:Below w2 w2 X)=>AO.out X (hB2.trans (h.mono hB2.size));have kS:=λX (h:Below w2 w2 X)=>XI.out X (hB2.trans (h.mono hB2.size));clear AO XI;have HC:∀X,Below w2 w2 X->(X.cell? ⟨w,0,none⟩=some (.pointer t)/\X.cell? ⟨w,7,none⟩=some (.map (some ms))/\Below w2 w2 X):=λX h=>⟨(A2.keep h).cell 0,(A2.keep h).cell 7,h⟩;have hSd:=HC _ (Below.drew aG);refine jy (S:=(λX=>X.cell? ⟨w,0,none⟩=some (.pointer t)/\X.cell? ⟨w,7,none⟩=some (.map (some ms))/\Below w2 w2 X)) 10 ?_ ?_
   . exact hSd
   intro hS0;have hx:Below w2 w2 w2.drew:=Below.drew aG;clear hSd;refine aW 0 ?_;refine aW 1 ?_;refine aW 2 ?_;refine mG 3 rfl (bU bB rfl rfl rfl (λX h=>hlk X h.2.2)) ?_;refine aW 4 ?_;refine aW 5 ?_;refine aW 6 ?_;refine aW 7 ?_;refine tk1 8 ?_;refine aj.Step.call eD (kS _ hx) ?_;rintro e y9 ⟨rfl,hb⟩;replace hx:=Below.ay hx aF hb;clear hb;refine⟨_,rfl,λ_=>HC _ hx,?_⟩
   (try simp only[bV,bW,bX,tks])
   refine tk1 9 ?_;refine aj.Step.call eD (kP _) ?_;rintro e y10 ⟨rfl,hb⟩;replace hx:=Below.ay hx aF hb;clear hb;refine⟨_,rfl,λ_=>HC _ hx,?_⟩
   (try simp only[bV,bW,bX,tks])
   refine tk1 10 ?_;have A4:=A3.keep hx;refine aj.Step.skip (bH (q:=0) uy (.tmp 4) (.tmp 23) rfl rfl rfl A4 rfl bI (uz _ _ _ _)) ?_;rw[fM (cs:=#[(),(),(),()]) (vs:=#[ans.x,ans.y,ans.w,ans.h]) rfl];have A9:=At.setRow A4 #[ans.x,ans.y,ans.w,ans.h];have Ik:=aU (hB2.trans (hx.mono hB2.size)) (Nat.le_succ w.heap.size) #[ans.x,ans.y,ans.w,ans.h];refine⟨λhlt=>absurd hlt aN,?_⟩
   (try simp only[bV,bW,bX,tks])
   refine jk ?_;go_wp2;exact Z23
end
end
section
open Go.Deep Fl
def ng(x y:Int):Value:=.complex .f64 (Op.negFloat .f64 (fb x)) (Op.negFloat .f64 (fb y))
theorem Rb(x y:Int)(W:World):(Op.unary UnOp.neg (pt x y)).run ja0 W=.ok (ng x y) W:=rfl
theorem ajo(x y:Int)(w:World):Calls ja0 39 #[ng x y] w λe w'=>e=.returned (.int .i64 (Fx.cut (-x)))/\w=w':=by
 have k:=acX w (DT (sw x)) (DT (sw y)) (by have:=Fx.gY x;omega) (by have:=Fx.jg x;omega) (by have:=Fx.gY y;omega) (by have:=Fx.jg y;omega);rw[<-Fx.zD]at k;exact k
theorem ajp(x y:Int)(w:World):Calls ja0 40 #[ng x y] w λe w'=>e=.returned (.int .i64 (Fx.cut (-y)))/\w=w':=by
 have k:=acY w (DT (sw x)) (DT (sw y)) (by have:=Fx.gY x;omega) (by have:=Fx.jg x;omega) (by have:=Fx.gY y;omega) (by have:=Fx.jg y;omega);rw[<-Fx.zD]at k;exact k
theorem acz(a b c d:Int)(w:World):Calls ja0 49 #[pt a b,ng c d] w λe w'=>e=.returned (pt (Fx.add a (-c)) (Fx.add b (-d)))/\w=w':=by
 rw[<-zU a (-c),<-zU b (-d)];have kx:=ajo c d;have ky:=ajp c d;go_enter Tryz.func49,Tryz.ntmps49
 go_wp2_with (first|(go_at_call 39;first|(with_reducible refine(kx _).mono ?_);rintro e w' ⟨rfl,rfl⟩|(with_reducible refine(RH a b _).mono ?_);rintro e w' ⟨rfl,rfl⟩)|(go_at_call 40;first|(with_reducible refine(ky _).mono ?_);rintro e w' ⟨rfl,rfl⟩|(with_reducible refine(RI a b _).mono ?_);rintro e w' ⟨rfl,rfl⟩)|first|(go_at_call 82;with_reducible refine oo (jG _ _ _) ?_)|(go_at_call 8;with_reducible refine oo (qC _ _ _) ?_))
 exact Zy
theorem VO(x y a b p q:Int)(w:World):Calls ja0 15 #[.agg #[x,y,a,b],ng p q] w λe w'=>e=.returned (.agg #[.int .i64 (Fx.cut (Fx.add x (-p))),.int .i64 (Fx.cut (Fx.add y (-q))),a,b])/\Below w w w':=by
 go_enter Tryz.func15,Tryz.ntmps15
 go_wp2_with (first|(go_at_call 49;(with_reducible refine(acz _ _ _ _ _).mono ?_);rintro e w' ⟨rfl,rfl⟩)|first|(go_at_call 8;with_reducible refine oo (qC _ _ _) ?_))
 exact Z14
end
section
open Go.Deep
open World renaming setCell → ja4,alloc → ja5,setRow → jb8
def Pr.mt(p q:Pr):Pr:=⟨Fx.mOf p.x p.y p.w p.h q.x q.y q.w q.h (Fx.mLo p.x p.w q.x q.w),Fx.mOf p.x p.y p.w p.h q.x q.y q.w q.h (Fx.mLo p.y p.h q.y q.h),Fx.mOf p.x p.y p.w p.h q.x q.y q.w q.h (Fx.mSz p.x p.w q.x q.w),Fx.mOf p.x p.y p.w p.h q.x q.y q.w q.h (Fx.mSz p.y p.h q.y q.h)⟩
def Pr.ins(p:Pr)(s:Re.St):Pr:=⟨Fx.add p.x (Fw.ed s 3),Fx.add p.y (Fw.ed s 0),Fx.less p.w (Fx.add (Fx.add 0 (Fw.ed s 1)) (Fw.ed s 3)),Fx.less p.h (Fx.add (Fx.add 0 (Fw.ed s 0)) (Fw.ed s 2))⟩
def inA(bx qK kx ky:Int)(c h:Pr):Array Value:=#[pt bx qK,ng kx ky,c.x,c.y,c.w,c.h,h.x,h.y,h.w,h.h]
theorem Oh(a b:Value)(c0 c1 c2 c3 h0 h1 h2 h3 bx qK kx ky:Int)(W:World):(Instr.build 153 #[(0,pt bx qK),(1,ng kx ky),(2,.agg #[c0,c1,c2,c3]),(3,.agg #[h0,h1,h2,h3])]).run ja0 W=.ok (.agg #[pt bx qK,ng kx ky,c0,c1,c2,c3,h0,h1,h2,h3]) W:=by kernel_rfl
theorem acA(p q:Pr)(w:World):Calls ja0 111 #[.agg #[p.x,p.y,p.w,p.h],.agg #[q.x,q.y,q.w,q.h]] w λe w'=>e=.returned (p.mt q).ag/\Below w w w':=UO p.x p.y p.w p.h q.x q.y q.w q.h w
theorem afa(p:Pr)(s:Re.St)(w:World):Calls ja0 56 #[.agg #[p.x,p.y,p.w,p.h],.agg #[Fw.ed s 0,Fw.ed s 1,Fw.ed s 2,Fw.ed s 3]] w λe w'=>e=.returned (p.ins s).ag/\Below w w w':=EZ p.x p.y p.w p.h (Fw.ed s 0) (Fw.ed s 1) (Fw.ed s 2) (Fw.ed s 3) w
theorem F5(p:Pr)(a b:Int)(w:World):Calls ja0 15 #[.agg #[p.x,p.y,p.w,p.h],ng a b] w λe w'=>e=.returned (p.mv (-a) (-b)).ag/\Below w w w':=VO p.x p.y p.w p.h a b w
theorem Lh(p:Pr)(a b:Int)(w:World):Calls ja0 15 #[.agg #[p.x,p.y,p.w,p.h],pt a b] w λe w'=>e=.returned (p.mv a b).ag/\Below w w w':=I9 p.x p.y p.w p.h a b w
theorem afb(W:World):(sizeOf 42).run ja0 W=.ok 8 W:=by kernel_rfl
theorem afc(x y u v x' y' u' v':Int):∀z∈(#[x,y,u,v,x',y',u',v']:Array Value).toList,z.oneCell'=true:=by
 intro z hz;simp at hz;rcases hz with rfl|rfl|rfl|rfl|rfl|rfl|rfl|rfl<;>rfl
theorem Rc{o:Oper}{a:Act}{w w':World}(ps:Array (Nat×Operand))(ho:o.op=.build 153 ps){v:Value}(qs:Array (Nat×Value))(hq:(ps.map λp=>(p.1,a.eval p.2))=qs)(hrun:(Instr.build 153 qs).run ja0 w=.ok v w'):(execOp a.eval o).run ja0 w=.ok (.value v) w':=by
 unfold execOp;simp only[ho,hq,Sem.run_bind,hrun,Result.andThen_ok,Sem.run_pure]
theorem Rf(W:World):(sizeOf 153).run ja0 W=.ok 10 W:=by kernel_rfl
theorem aae(x y u v x' y' u' v' a b c d:Int):∀z∈(#[pt a b,ng c d,x,y,u,v,x',y',u',v']:Array Value).toList,z.oneCell'=true:=by
 intro z hz;simp at hz;rcases hz with rfl|rfl|rfl|rfl|rfl|rfl|rfl|rfl|rfl|rfl<;>rfl
theorem xW{ops:Array Oper}{S:World->Prop}{o:Oper}{a:Act}(p:Operand){T i:Nat}{x0 x1 x2 x3:Int}(hw:Region.wanted o (yielded ops a.tmps)=true)(ho:o.op=.load 40 p)(hp:a.eval p=.pointer (some ⟨T,i,none⟩))(h:∀X,S X->X.cell? ⟨T,i,none⟩=some (.int .i64 x0)/\X.cell? ⟨T,i+1,none⟩=some (.int .i64 x1)/\X.cell? ⟨T,i+2,none⟩=some (.int .i64 x2)/\X.cell? ⟨T,i+3,none⟩=some (.int .i64 x3)):aj.Reads ja0 ops S o (.agg #[x0,x1,x2,x3]) a :=
 .inl ⟨hw,λX hX=>iH aac uy p ho hp rfl λj hj=>by
  obtain⟨c0,c1,c2,c3⟩:=h X hX
  match j,hj with
  | 0,_=>exact c0
  | 1,_=>exact c1
  | 2,_=>exact c2
  | 3,_=>exact c3⟩
section
variable {w:World} {t n:Nat} {L:Lay} {T:Tr.T} {m:Nat} {S:Int->Option (Pr×Pr)}
def clO(s:Re.St)(a b:Pr):Pr:=if s.c 2=0 then b else b.mt (a.prt s)
theorem Oi(h:fE w t L T n)(mo ms:Nat)(hsm:SM w ms S)(z:Int)(hz:Wf z)(q:Pr)(a b:Pr)(hab:(S z).getD (p0,p0)=(a,b))(s:Re.St)(hs:dU T z=s)(kx ky:Int)(ahK:∀X,Below w w X->Calls ja0 110 #[.agg (vw t m mo q ms),z] X λe w'=>e=.returned (pt kx ky)/\Below X.heap.size X w'):Calls ja0 72 #[.agg (vw t m mo q ms),z] w λe w'=>e=.returned (.agg (inA a.x a.y kx ky (clO s a b) ((a.ins s).mv (-kx) (-ky))))/\Below w w w':=by
 have hlk:=λX (hb:Below w w X)=>(hsm.keep hb).look hz hab;have kS:=λX (hb:Below w w X)=>fP (h.after hb) hz;simp only[show(T z).elim Re.zero (·.sty)=s from hs]at kS;have AO:=ah hlk;have XI:=ah kS;have HSC:=ah ahK;obtain⟨c,hc⟩:=aC (clO s a b);have HCL:=ah hc;obtain⟨hd,hhd⟩:=aC ((a.ins s).mv (-kx) (-ky));have HHD:=ah hhd;rw[hc,hhd];obtain⟨q0,q1,q2,q3⟩:=q;simp only[vw]at *;clear h hsm hab hlk kS hs ahK hc hhd;go_enter Tryz.func72,Tryz.ntmps72
 go_upto_region 1 with(fail)
 generalize hW:ja5 _ _=W0;have A0:At W0 w (.cells #[t,.map (some m),.map (some mo),q0,q1,q2,q3,.map (some ms)] 98):=hW▸At.alloc (At.new _ _) _;have A1:At W0 (w.heap.size+1) (.cells #[.complex .f64 0 0,.complex .f64 0 0,(),(),(),(),(),(),(),()] 153):=hW▸At.new' _ bI;have hB:Below w w W0:=hW▸aD (aD aG _) _;clear hW;refine aj.iJ (λa0 a' W5=>∃(Tp Tq:Nat) (u9 u10 u11 u12 u13 u14 u15 u16:Value),a'={ a0 with tmps:=((((((((((a0.tmps.setIfInBounds 9 u9).setIfInBounds 10 u10).setIfInBounds 11 u11).setIfInBounds 12 u12).setIfInBounds 13 u13).setIfInBounds 14 u14).setIfInBounds 15 u15).setIfInBounds 16 u16).setIfInBounds 5 (.pointer Tp)).setIfInBounds 6 (.pointer Tq)) }/\W0.heap.size<=Tp/\W0.heap.size<=Tq/\Tp≠Tq/\At W5 Tp (.cells (cells s) 59)/\At W5 Tq (.cells #[a.x,a.y,a.w,a.h,b.x,b.y,b.w,b.h] 42)/\Below W0 W0 W5) ?_ ?_
 . have hlk:=λX (h:Below W0 W0 X)=>AO.out X (hB.trans (h.mono hB.size))
   have kS:=λX (h:Below W0 W0 X)=>XI.out X (hB.trans (h.mono hB.size));clear AO XI HSC HCL HHD;have HC:∀X,Below W0 W0 X->(X.cell? ⟨w,0,none⟩=some (.pointer t)/\X.cell? ⟨w,7,none⟩=some (.map (some ms))/\Below W0 W0 X):=λX h=>⟨(A0.keep h).cell 0,(A0.keep h).cell 7,h⟩;have hSd:=HC _ (Below.drew aG);clear hB;refine jy (S:=(λX=>X.cell? ⟨w,0,none⟩=some (.pointer t)/\X.cell? ⟨w,7,none⟩=some (.map (some ms))/\Below W0 W0 X)) 11 ?_ ?_
   . exact hSd
   intro hS0;have hx:Below W0 W0 W0.drew:=Below.drew aG;clear hSd;refine aW 0 ?_;refine aW 1 ?_;refine aW 2 ?_;refine aW 4 ?_;refine aW 5 ?_;refine aW 6 ?_;refine mG 7 rfl (bU bB rfl rfl rfl (λX h=>hlk X h.2.2)) ?_;clear hlk hS0;generalize W0.drew=W1 at *;refine aj.vk 3 [3,8,9] [12,5,6] (λ_=>[]) (λi=>if i=3 then aj.Rv (.agg (cells s))else if i=8 then aj.Ra (.cells (cells Re.zero) 59)else aj.Ra (.cells #[(),(),(),(),(),(),(),()] 42)) ⟨⟨λ_ _ _ _ _ h _=>h,_,rfl,rfl,λW hb=>aj.Step.call eD (kS W (Below.ay hx aF hb)) λ_ _ h=>⟨_,h.1,h.2,rfl⟩⟩,⟨λ_ _ _ _ _ h hb=>aj.Ra.keep h hb,_,rfl,rfl,λW hb=>aj.Ra.made (kV rfl)⟩,⟨λ_ _ _ _ _ h hb=>aj.Ra.keep h hb,_,rfl,rfl,λW hb=>aj.Ra.made eD⟩,trivial⟩ (λX h=>HC _ (Below.ay hx aF h)) ?_;intro vs s0 e0 W hb hI hp;have e3:vs 3=_:=(hI 3 bI).2.2;obtain⟨gp,-, e8,lp,Ap⟩:=hI 8 bI;obtain⟨gq,-, e9,lq,Aq⟩:=hI 9 bI;have FE:=hp 8 bI 9 bI aN
   (try simp only[aj.oG,aj.qd,aj.kY,aj.oF,List.map_cons,List.map_nil,e3,e8,e9]);(try simp only[bV,bW,bX,tks])
   generalize s0 8=Tp at *;generalize s0 9=Tq at *;replace FE:Tp≠Tq:=by omega
   replace gp:=aK hx.size gp;replace gq:=aK hx.size gq;replace hx:=Below.ay hx aF hb;clear hI hp hb e3 e8 e9 lp lq;refine tk1 10 ?_;refine aj.Step.skip (kX (.tmp 5) (.tmp 12) rfl rfl rfl Ap) ?_;have Wn:At (W.setRow Tp (cells s)) Tp (.cells (cells s) 59):=At.setRow Ap _;have WB:=At.iP Aq FE.symm (cells s);have hx1:=aU hx gp (cells s);generalize W.setRow Tp (cells s)=x1 at *;refine⟨λ_=>HC _ hx1,?_⟩
   (try simp only[bV,bW,bX,tks])
   refine tk1 11 ?_;refine aj.Step.skip (bH (q:=0) afb (.tmp 6) (.tmp 16) rfl rfl rfl WB rfl bI (afc _ _ _ _ _ _ _ _)) ?_;rw[fM (cs:=#[(),(),(),(),(),(),(),()]) (vs:=#[a.x,a.y,a.w,a.h,b.x,b.y,b.w,b.h]) rfl];have Aq3:=At.setRow WB #[a.x,a.y,a.w,a.h,b.x,b.y,b.w,b.h];have Ap3:=At.iP Wn FE #[a.x,a.y,a.w,a.h,b.x,b.y,b.w,b.h];have hx2:=aU hx1 gq #[a.x,a.y,a.w,a.h,b.x,b.y,b.w,b.h];generalize x1.setRow Tq #[.int .i64 a.x,.int .i64 a.y,.int .i64 a.w,.int .i64 a.h,.int .i64 b.x,.int .i64 b.y,.int .i64 b.w,.int .i64 b.h]=x2 at *;refine⟨λhlt=>absurd hlt aN,?_⟩
   (try simp only[bV,bW,bX,tks])
   refine jk ?_;exact⟨rfl,Tp,Tq,_,_,_,_,_,_,_,_,rfl,gp,gq,FE,Ap3,Aq3,hx2⟩
 rintro a' W5 ⟨Tp,Tq,u9,u10,u11,u12,u13,u14,u15,u16,rfl,gp,gq,FE,Ap,Aq,hb5⟩;have mX:=hB.trans (hb5.mono hB.size);have A05:=A0.keep hb5;have A15:=A1.keep hb5;have l1:=A1.lt;have kC:=HSC.out W5 mX;have hng:=Rb kx ky;clear A0 A1 hB hb5 HSC AO XI;obtain⟨l0,c0,c1,c2,c3,c4,c5,c6,c7⟩:=A05.eight
 go_upto_region 3 with(go_at_call 110;(with_reducible refine kC.mono ?_);rintro e w6 ⟨rfl,hb6⟩)
 have AA:=mX.trans (hb6.mono mX.size);replace A15:=A15.keep hb6;replace Ap:=Ap.keep hb6;replace Aq:=Aq.keep hb6;clear l0 c0 c1 c2 c3 c4 c5 c6 c7 kC hng A05 mX hb6;obtain⟨l0,c0,c1,c2,c3,c4,c5,c6,c7⟩:=Aq.eight
 go_upto_region 4 with(fail)
 have ltp:=Ap.lt;have ltq:=Aq.lt;obtain⟨b8,yc⟩:=aC w6.heap.size;generalize hW:ja5 _ _=W7;rw[yc];have A8:At W7 b8 (.cells #[b.x,b.y,b.w,b.h] 40):=hW▸yc▸At.new _ _;have pG:Below w6 w6 W7:=hW▸aD aG _;have DN:=AA.trans (pG.mono AA.size);have A14:=A15.keep pG;replace Ap:=Ap.keep pG;replace Aq:=Aq.keep pG;have n18:w.heap.size+1<b8:=by have:=A15.lt;omega
 have np8:Tp<b8:=by have:=ltp;omega
 have nq8:Tq<b8:=by have:=ltq;omega
 clear l0 c0 c1 c2 c3 c4 c5 c6 c7 hW pG A15 AA yc ltp ltq;have HTQ:=λX (h:Below W7 W7 X)=>(⟨(Aq.keep h).cell 0,(Aq.keep h).cell 1,(Aq.keep h).cell 2,(Aq.keep h).cell 3⟩:X.cell? ⟨Tq,0,none⟩=some (.int .i64 a.x)/\X.cell? ⟨Tq,0+1,none⟩=some (.int .i64 a.y)/\X.cell? ⟨Tq,0+2,none⟩=some (.int .i64 a.w)/\X.cell? ⟨Tq,0+3,none⟩=some (.int .i64 a.h));have kMV:=λX=>F5 (a.ins s) kx ky X;simp only[HHD.out,Pr.ag]at kMV;have f2:=Ap.st 2 aN rfl;have lp:=Ap.lt
 go_upto_if 25 with(fail)
 go_cut []from 26 to 31 (λW=>At W b8 (.cells #[c.x,c.y,c.w,c.h] 40)/\Out (λx=>x=b8) W7 W)
 case first =>
  by_cases c2:s.c 2=0
  . have c2b:(s.c 2 != 0)=false:=by simp[c2]
    have e:=HCL.out;unfold clO at e;rw[if_pos c2]at e;subst e;have HA8:=ah A8;clear f2 lp A8;go_wp2
    go_meet
    case rel=>exact⟨HA8.out,Out.refl _ _⟩
  . have c2b:(s.c 2 != 0)=true:=by simp[c2]
    have e:=HCL.out;unfold clO at e;rw[if_neg c2]at e;obtain⟨v,hv⟩:=aC (a.prt s);rw[hv]at e;have kP:=λX=>vo a s X;simp only[hv,Pr.ag]at kP;have kMt:=λX=>acA b v X;simp only[e,Pr.ag]at kMt;clear e hv HCL
    go_upto_region 5 with(fail)
    clear f2 lp c2b;have hSd:Below W7 W7 W7.drew:=Below.drew aG;refine jy (S:=λX=>Below W7 W7 X) 6 ?_ ?_
    . exact hSd
    intro hx;clear hSd;refine mG 0 rfl (pz (.tmp 8) bB rfl rfl (λX h=>A8.keep h)) ?_;refine aS 1 ?_;refine mG 2 rfl (xW (.tmp 27) bB rfl rfl (λX h=>HTQ X h)) ?_;refine mG 3 rfl (gD bB (.tmp 5) rfl rfl (λX h=>Ap.keep h)) ?_;refine tk1 4 ?_;refine aj.Step.call eD (kP _) ?_;rintro e y4 ⟨rfl,hb⟩;replace hx:=Below.ay hx aF hb;clear hb;refine⟨_,rfl,λ_=>hx,?_⟩
    (try simp only[bV,bW,bX,tks])
    refine tk1 5 ?_;refine aj.Step.call eD (kMt _) ?_;rintro e y5 ⟨rfl,hb⟩;replace hx:=Below.ay hx aF hb;clear hb;refine⟨_,rfl,λ_=>hx,?_⟩
    (try simp only[bV,bW,bX,tks])
    refine tk1 6 ?_;refine aj.Step.skip (bH (q:=0) uy (.tmp 8) (.tmp 31) rfl rfl rfl (A8.keep hx) rfl bI (uz _ _ _ _)) ?_;rw[fM (cs:=#[b.x,b.y,b.w,b.h]) (vs:=#[c.x,c.y,c.w,c.h]) rfl];have HA9:=ah (At.setRow (A8.keep hx) #[c.x,c.y,c.w,c.h]);have Jc:Out (λx=>x=b8) W7 (y5.setRow b8 #[c.x,c.y,c.w,c.h]):=Out.setRow (M:=λx=>x=b8) (Out.of_below hx) rfl _;refine⟨λhlt=>absurd hlt aN,?_⟩
    (try simp only[bV,bW,bX,tks])
    refine jk ?_;go_wp2
    go_meet
    case rel=>exact⟨HA9.out,Jc⟩
 case rest =>
  obtain⟨A8,hO⟩:=hcut;have X9:Below w w wc:=DN.trans (hO.below DN.size λx hx e=>by omega);replace Ap:=Ap.out (M:=λx=>x=b8) ak hO;replace Aq:=Aq.out (M:=λx=>x=b8) ak hO;replace A14:=A14.out (M:=λx=>x=b8) ak hO;clear f2 lp HTQ hO DN;have HTQ:=λX (h:Below wc wc X)=>(⟨(Aq.keep h).cell 0,(Aq.keep h).cell 1,(Aq.keep h).cell 2,(Aq.keep h).cell 3⟩:X.cell? ⟨Tq,0,none⟩=some (.int .i64 a.x)/\X.cell? ⟨Tq,0+1,none⟩=some (.int .i64 a.y)/\X.cell? ⟨Tq,0+2,none⟩=some (.int .i64 a.w)/\X.cell? ⟨Tq,0+3,none⟩=some (.int .i64 a.h))
  go_upto_region 6 with(fail)
  have hSd:Below wc wc wc.drew:=Below.drew aG;refine jy (S:=λX=>Below wc wc X) 13 ?_ ?_
  . exact hSd
  intro hx;clear hSd;refine aS 0 ?_;refine mG 1 rfl (xW (.tmp 32) bB rfl rfl (λX h=>HTQ X h)) ?_;refine aS 3 ?_;refine mG 4 rfl (pz (.tmp 8) bB rfl rfl (λX h=>A8.keep h)) ?_;refine aS 5 ?_;refine mG 6 rfl (xW (.tmp 37) bB rfl rfl (λX h=>HTQ X h)) ?_;refine mG 7 rfl (gD bB (.tmp 5) rfl rfl (λX h=>Ap.keep h)) ?_;refine aS 10 ?_;refine tk1 2 ?_;refine aj.Step.call eD (Ck a.x a.y a.w a.h _) ?_;rintro e y2 ⟨rfl,hb⟩;replace hx:=Below.ay hx aF hb;clear hb;refine⟨_,rfl,λ_=>hx,?_⟩
  (try simp only[bV,bW,bX,tks])
  refine tk1 8 ?_;refine aj.Step.call eD (ET s _) ?_;rintro e y8 ⟨rfl,hb⟩;replace hx:=Below.ay hx aF hb;clear hb;refine⟨_,rfl,λ_=>hx,?_⟩
  (try simp only[bV,bW,bX,tks])
  refine tk1 9 ?_;refine aj.Step.call eD (afa a s _) ?_;rintro e y9 ⟨rfl,hb⟩;replace hx:=Below.ay hx aF hb;clear hb;refine⟨_,rfl,λ_=>hx,?_⟩
  (try simp only[bV,bW,bX,tks])
  refine tk1 11 ?_;refine aj.Step.call eD (kMV _) ?_;rintro e y11 ⟨rfl,hb⟩;replace hx:=Below.ay hx aF hb;clear hb;refine⟨_,rfl,λ_=>hx,?_⟩
  (try simp only[bV,bW,bX,tks])
  refine tk1 12 ?_;refine aj.Step.value (Rc _ rfl #[(0,pt a.x a.y),(1,ng kx ky),(2,.agg #[c.x,c.y,c.w,c.h]),(3,.agg #[hd.x,hd.y,hd.w,hd.h])] Z40 (Oh (.bool true) (.bool true) c.x c.y c.w c.h hd.x hd.y hd.w hd.h a.x a.y kx ky y11)) ?_;refine⟨λ_=>hx,?_⟩
  (try simp only[bV,bW,bX,tks])
  refine tk1 13 ?_;have A4:=A14.keep hx;refine aj.Step.skip (bH (q:=0) Rf (.tmp 4) (.tmp 44) rfl rfl rfl A4 rfl bI (aae _ _ _ _ _ _ _ _ _ _ _ _)) ?_;rw[fM (cs:=#[.complex .f64 0 0,.complex .f64 0 0,(),(),(),(),(),(),(),()]) (vs:=#[pt a.x a.y,ng kx ky,c.x,c.y,c.w,c.h,hd.x,hd.y,hd.w,hd.h]) rfl];have A9:=At.setRow A4 #[pt a.x a.y,ng kx ky,c.x,c.y,c.w,c.h,hd.x,hd.y,hd.w,hd.h];have Ik:=aU (X9.trans (hx.mono X9.size)) (Nat.le_succ w.heap.size) #[pt a.x a.y,ng kx ky,c.x,c.y,c.w,c.h,hd.x,hd.y,hd.w,hd.h];refine⟨λhlt=>absurd hlt aN,?_⟩
  (try simp only[bV,bW,bX,tks])
  refine jk ?_;go_wp2;have l9:=A9.lt;obtain⟨e0,e1,e2,e3,e4,e5,e6,e7,e8,e9⟩:_/\_/\_/\_/\_/\_/\_/\_/\_/\_:=⟨A9.cell 0,A9.cell 1,A9.cell 2,A9.cell 3,A9.cell 4,A9.cell 5,A9.cell 6,A9.cell 7,A9.cell 8,A9.cell 9⟩;refine bodyPost_ret (v:=.agg #[pt a.x a.y,ng kx ky,_,_,_,_,_,_,_,_]) (by simp[results,Tryz.results72,go_sem, *];first|done|exact⟨rfl,rfl⟩|exact⟨rfl,rfl,rfl,rfl,rfl,rfl,rfl,rfl⟩|rfl) rfl ⟨rfl,Ik⟩
end
section
variable {w:World} {t n:Nat} {L:Lay} {T:Tr.T} {m:Nat} {R:Int->Option Pr}
theorem Lj(h:fE w t L T n)(hmm:RM w m R)(mo ms:Nat)(z:Int)(hz:Wf z)(q:Pr)(s:Re.St)(hs:dU T z=s)(hp3:s.c 1=3)(bx qK kx ky:Int)(cl hd:Pr):Calls ja0 74 #[.agg (vw t m mo q ms),z,.agg (inA bx qK kx ky cl hd)] w λe w'=>e=.returned (.agg (BQ ((R z).getD p0) q))/\Below w w w':=by
 have kS:=λX (hb:Below w w X)=>fP (h.after hb) hz;simp only[show(T z).elim Re.zero (·.sty)=s from hs]at kS;have kU:=λX (hb:Below w w X)=>yG (t:=t) (hmm.keep hb) hz q mo ms;obtain⟨p,hp⟩:=aC ((R z).getD p0);simp only[hp]at kU;rw[hp];obtain⟨q0,q1,q2,q3⟩:=q;simp only[vw,inA,BQ]at *;clear h hmm hs hp;go_enter Tryz.func74,Tryz.ntmps74
 go_upto_region 1 with(fail)
 generalize hW:ja5 _ _=W0;have A0:At W0 w (.cells #[t,.map (some m),.map (some mo),q0,q1,q2,q3,.map (some ms)] 98):=hW▸At.alloc (At.alloc (At.new _ _) _) _;have A2:At W0 (w.heap.size+1+1) (.cells #[(),(),(),(),(),(),(),()] 42):=hW▸At.new' _ bI;have hB:Below w w W0:=hW▸aD (aD (aD aG _) _) _;clear hW;obtain⟨l0,c0,c1,c2,c3,c4,c5,c6,c7⟩:=A0.eight;have kS0:=kS W0 hB
 go_upto_region 2 with(first|(refine bD bB rfl ?_)|(refine cZ bB rfl ?_)|(refine bC bB _ rfl rfl qN ?_)|(refine dh bB _ _ rfl rfl rfl qN ?_)|(refine bJ bB _ _ rfl rfl rfl qN ?_)|(go_at_call 13;(with_reducible refine kS0.mono ?_);rintro e w3 ⟨rfl,hb3⟩))
 obtain⟨bs,hbs⟩:=aC w3.heap.size;generalize hW:jb8 _ _ _=w4;have A4:At w4 bs (.cells (cells s) 59):=hW▸hbs▸At.setRow (At.new _ _) _;have hb4:Below W0 W0 w4:=hW▸aU (aD hb3 _) hb3.size _;rw[hbs];have RG:=A4.lt;have f1:=A4.st 1 aN rfl;have hB4:=hB.trans (hb4.mono hB.size);replace A0:=A0.keep hb4;replace A2:=A2.keep hb4;have p3b:(s.c 1==3)=true:=by simp[hp3]
 have kU4:=kU w4 hB4;clear hW kS kS0 hb3 hbs A4 hb4 hB kU l0 c0 c1 c2 c3 c4 c5 c6 c7;obtain⟨l0,c0,c1,c2,c3,c4,c5,c6,c7⟩:=A0.eight
 go_wp2_with (go_at_call 36;(with_reducible refine kU4.mono ?_);rintro e w5 ⟨rfl,hb5⟩;have A5:=A2.keep hb5;obtain⟨l2,d0,d1,d2,d3,d4,d5,d6,d7⟩:=A5.eight;have z0:=A5.thaw 0;have z1:=A5.thaw 1;have z2:=A5.thaw 2;have z3:=A5.thaw 3;have z4:=A5.thaw 4;have z5:=A5.thaw 5;have z6:=A5.thaw 6;have z7:=A5.thaw 7;have mX:=hB4.trans (hb5.mono hB4.size))
 generalize hW:ja4 _ _ _=W2;have A9:At W2 (w.heap.size+1+1) (.cells #[p.x,p.y,p.w,p.h,q0,q1,q2,q3] 42):=hW▸At.set (At.set (At.set (At.set (At.set (At.set (At.set (At.set A5 0 _) 1 _) 2 _) 3 _) 4 _) 5 _) 6 _) 7 _;exact Z1f
end
section
variable {w:World} {t n:Nat} {L:Lay} {T:Tr.T} {m:Nat} {R:Int->Option Pr}
theorem Ll(h:fE w t L T n)(hmm:RM w m R)(mo ms:Nat)(z:Int)(hz:Wf z)(q:Pr)(s:Re.St)(hs:dU T z=s)(hp3:s.c 1≠3)(hp4:s.c 1≠4)(bx qK kx ky:Int)(cl hd:Pr):Calls ja0 74 #[.agg (vw t m mo q ms),z,.agg (inA bx qK kx ky cl hd)] w λe w'=>e=.returned (.agg (BQ ((((R z).getD p0).mv bx qK).mv (-kx) (-ky)) cl))/\Below w w w':=by
 have kS:=λX (hb:Below w w X)=>fP (h.after hb) hz;simp only[show(T z).elim Re.zero (·.sty)=s from hs]at kS;obtain⟨p,hp⟩:=aC ((R z).getD p0);have hlk:=λX (hb:Below w w X)=>(hmm.keep hb).look hz;simp only[hp]at hlk;rw[hp];obtain⟨u,hu⟩:=aC (p.mv bx qK);have kM1:=λX=>Lh p bx qK X;simp only[hu,Pr.ag]at kM1;rw[hu];obtain⟨v,hv⟩:=aC (u.mv (-kx) (-ky));have kM2:=λX=>F5 u kx ky X;simp only[hv,Pr.ag]at kM2;rw[hv];have AO:=ah hlk;have hbd:=zf;obtain⟨q0,q1,q2,q3⟩:=q;simp only[vw,inA,BQ]at *;clear h hmm hs hp hu hv hlk;go_enter Tryz.func74,Tryz.ntmps74
 go_upto_region 1 with(fail)
 generalize hW:ja5 _ _=W0;have A0:At W0 w (.cells #[t,.map (some m),.map (some mo),q0,q1,q2,q3,.map (some ms)] 98):=hW▸At.alloc (At.alloc (At.new _ _) _) _;have A1:At W0 (w.heap.size+1) (.cells #[pt bx qK,ng kx ky,cl.x,cl.y,cl.w,cl.h,hd.x,hd.y,hd.w,hd.h] 153):=hW▸At.alloc (At.new' _ bI) _;have A2:At W0 (w.heap.size+1+1) (.cells #[(),(),(),(),(),(),(),()] 42):=hW▸At.new' _ bI;have hB:Below w w W0:=hW▸aD (aD (aD aG _) _) _;clear hW;obtain⟨l0,c0,c1,c2,c3,c4,c5,c6,c7⟩:=A0.eight;have kS0:=kS W0 hB
 go_upto_region 2 with(first|(refine bD bB rfl ?_)|(refine cZ bB rfl ?_)|(refine bC bB _ rfl rfl qN ?_)|(refine dh bB _ _ rfl rfl rfl qN ?_)|(refine bJ bB _ _ rfl rfl rfl qN ?_)|(go_at_call 13;(with_reducible refine kS0.mono ?_);rintro e w3 ⟨rfl,hb3⟩))
 obtain⟨bs,hbs⟩:=aC w3.heap.size;generalize hW:jb8 _ _ _=w4;have A4:At w4 bs (.cells (cells s) 59):=hW▸hbs▸At.setRow (At.new _ _) _;have hb4:Below W0 W0 w4:=hW▸aU (aD hb3 _) hb3.size _;rw[hbs];have RG:=A4.lt;have f1:=A4.st 1 aN rfl;have hB4:=hB.trans (hb4.mono hB.size);replace A0:=A0.keep hb4;replace A1:=A1.keep hb4;replace A2:=A2.keep hb4;have p3b:(s.c 1==3)=false:=by simp[hp3]
 clear hW kS kS0 hb3 hbs hb4 hB l0 c0 c1 c2 c3 c4 c5 c6 c7
 go_upto_region 4 with(fail)
 refine aj.iJ (λa0 a' W5=>∃(Tp:Nat) (u20 u21 u22 u23 u24 u25 u26 u27 u28 u29:Value),a'={ a0 with tmps:=(((((((((((a0.tmps.setIfInBounds 20 u20).setIfInBounds 21 u21).setIfInBounds 22 u22).setIfInBounds 23 u23).setIfInBounds 24 u24).setIfInBounds 25 u25).setIfInBounds 26 u26).setIfInBounds 27 u27).setIfInBounds 28 u28).setIfInBounds 29 u29).setIfInBounds 8 (.pointer Tp)) }/\w4.heap.size<=Tp/\At W5 Tp (.cells #[v.x,v.y,v.w,v.h] 40)/\Below w4 w4 W5) ?_ ?_
 . have hlk:=λX (h:Below w4 w4 X)=>AO.out X (hB4.trans (h.mono hB4.size))
   clear AO RG f1 p3b A4 hbd;exact Z4
 rintro a' W5 ⟨Tp,u20,u21,u22,u23,u24,u25,u26,u27,u28,u29,rfl,gp,Ap,hb5⟩;have mX:=hB4.trans (hb5.mono hB4.size);replace A1:=A1.keep hb5;replace A2:=A2.keep hb5;have f1':=(A4.keep hb5).st 1 aN rfl;have lb5:=(A4.keep hb5).lt;have p4b:(s.c 1==4)=false:=by simp[hp4]
 clear A0 hB4 A4 f1 RG p3b hb5 kM1 kM2 AO;obtain⟨lp,e0,e1,e2,e3⟩:=At.four Ap;have l1:=A1.lt;obtain⟨i2,i3,i4,i5⟩:_/\_/\_/\_:=⟨A1.cell 2,A1.cell 3,A1.cell 4,A1.cell 5⟩;obtain⟨l2,d0,d1,d2,d3,d4,d5,d6,d7⟩:=A2.eight;have z0:=A2.thaw 0;have z1:=A2.thaw 1;have z2:=A2.thaw 2;have z3:=A2.thaw 3;have z4:=A2.thaw 4;have z5:=A2.thaw 5;have z6:=A2.thaw 6;have z7:=A2.thaw 7;go_wp2;generalize hW:ja4 _ _ _=W2;have A9:At W2 (w.heap.size+1+1) (.cells #[v.x,v.y,v.w,v.h,cl.x,cl.y,cl.w,cl.h] 42):=hW▸At.set (At.set (At.set (At.set (At.set (At.set (At.set (At.set A2 0 _) 1 _) 2 _) 3 _) 4 _) 5 _) 6 _) 7 _;exact Z1f
end
end
section
open World renaming alloc → ja5
theorem aaf(a b:Int):St.over a b=max (Fx.sub a b) 0:=by unfold St.over;split<;>omega
theorem BR(a b:Int):St.least a b=min a b:=by unfold St.least;split<;>omega
theorem oJ(a b:Int)(w:World):Calls ja0 187 #[a,b] w λe w'=>e=.returned (.int .i64 (St.over a b))/\w=w':=by
 go_enter Tryz.func187,Tryz.ntmps187
 go_wp2_with (first|(go_at_call 43;with_reducible refine oo (mY _ _ _) ?_))
 go_ret
 exact⟨bQ (aaf a b).symm,rfl⟩
theorem Js(ru phi:Int)(tu:Bool)(rz:Int)(w:World):Calls ja0 207 #[.agg #[ru,phi],.agg #[tu,rz]] w λe w'=>e=.returned (.int .i64 (Fx.add ru rz))/\Below w w w':=by
 go_enter Tryz.func207,Tryz.ntmps207
 go_wp2_with (first|(go_at_call 82;with_reducible refine oo (jG _ _ _) ?_))
 exact Z27
theorem F6(qb vM ru phi:Int)(tu:Bool)(rz:Int)(w:World):Calls ja0 186 #[.agg #[qb,vM],.agg #[ru,phi],.agg #[tu,rz]] w λe w'=>e=.returned (.int .i64 (St.down qb ru tu rz))/\Below w w w':=by
 cases tu with
 | false =>
   go_enter Tryz.func186,Tryz.ntmps186
   go_wp2;exact Z27
 | true =>
   go_enter Tryz.func186,Tryz.ntmps186
   go_upto_region 3 with(fail)
   refine vS ?_ (h0:=by first|assumption|exact Below.refl _ _)
   (repeat (first|refine jV ?_ | refine jW ?_ (hc:=by intro w2 hS;first|with_reducible exact jI hS (Js _ _ _ _ _)|with_reducible exact AF hS (oJ _ _ _))|refine jX ?_))
   refine aj.bY ?_;intro w2 hS;go_wp2;exact Z27
theorem aag(qb vM ru phi:Int)(tu:Bool)(rz:Int)(zn:Bool)(xK:Int)(w:World):Calls ja0 188 #[.agg #[qb,vM],.agg #[ru,phi],.agg #[tu,rz],.agg #[zn,xK]] w λe w'=>e=.returned (.int .i64 (St.up qb vM ru phi tu rz zn xK))/\Below w w w':=by
 cases zn with
 | false =>
   go_enter Tryz.func188,Tryz.ntmps188
   go_wp2;exact Z27
 | true =>
   cases tu with
   | false =>
     go_enter Tryz.func188,Tryz.ntmps188
     go_upto_region 1 with(fail)
     (generalize hW:ja5 (ja5 (ja5 (ja5 w _) _) _) _=W0;have A0:At W0 (w.heap.size) (.cells #[qb,vM] 106):=Z4c;have A1:At W0 (w.heap.size+1) (.cells #[ru,phi] 106):=WL;have A2:At W0 (w.heap.size+1+1) (.cells #[false,rz] 191):=TM;have A3:At W0 (w.heap.size+1+1+1) (.cells #[true,xK] 191):=TN;have hB:Below w w W0:=Z4g;clear hW;obtain⟨l0,aA,aB⟩:=At.two A0;obtain⟨l1,aH,aJ⟩:=At.two A1;obtain⟨l2,aL,aM⟩:=At.two A2;obtain⟨l3,aZ,bq⟩:=At.two A3)
     go_upto_region 3 with(fail)
     refine vS ?_
     (repeat (first|refine jV ?_ | refine jW ?_ (hc:=by intro w2 hS;first|with_reducible exact AF hS (mY _ _ _)|with_reducible exact AF hS (oJ _ _ _))|refine jX ?_))
     refine aj.bY ?_;intro w2 hS
     (clear l0 aA aB l1 aH aJ l2 aL aM l3 aZ bq);(replace hB:=Below.ay qj aF hS);replace A0:=At.keep sM hS;replace A1:=At.keep qP hS;replace A2:=At.keep qW hS;replace A3:=At.keep zC hS;clear hS;obtain⟨l0,aA,aB⟩:=At.two A0;obtain⟨l1,aH,aJ⟩:=At.two A1;obtain⟨l2,aL,aM⟩:=At.two A2;obtain⟨l3,aZ,bq⟩:=At.two A3
     go_wp2
     go_ret
     exact⟨rfl,hB⟩
   | true =>
     go_enter Tryz.func188,Tryz.ntmps188
     go_upto_region 1 with(fail)
     (generalize hW:ja5 (ja5 (ja5 (ja5 w _) _) _) _=W0;have A0:At W0 (w.heap.size) (.cells #[qb,vM] 106):=Z4c;have A1:At W0 (w.heap.size+1) (.cells #[ru,phi] 106):=WL;have A2:At W0 (w.heap.size+1+1) (.cells #[true,rz] 191):=TM;have A3:At W0 (w.heap.size+1+1+1) (.cells #[true,xK] 191):=TN;have hB:Below w w W0:=Z4g;clear hW;obtain⟨l0,aA,aB⟩:=At.two A0;obtain⟨l1,aH,aJ⟩:=At.two A1;obtain⟨l2,aL,aM⟩:=At.two A2;obtain⟨l3,aZ,bq⟩:=At.two A3)
     go_upto_region 3 with(fail)
     refine vS ?_
     (repeat (first|refine jV ?_ | refine jW ?_ (hc:=by intro w2 hS;first|with_reducible exact AF hS (mY _ _ _)|with_reducible exact AF hS (oJ _ _ _))|refine jX ?_))
     refine aj.bY ?_;intro w2 hS
     (clear l0 aA aB l1 aH aJ l2 aL aM l3 aZ bq);(replace hB:=Below.ay qj aF hS);replace A0:=At.keep sM hS;replace A1:=At.keep qP hS;replace A2:=At.keep qW hS;replace A3:=At.keep zC hS;clear hS;obtain⟨l0,aA,aB⟩:=At.two A0;obtain⟨l1,aH,aJ⟩:=At.two A1;obtain⟨l2,aL,aM⟩:=At.two A2;obtain⟨l3,aZ,bq⟩:=At.two A3
     go_upto_region 5 with(fail)
     refine vS ?_
     (repeat (first|refine jV ?_ | refine jW ?_ (hc:=by intro w2 hS;first|with_reducible exact jI hS (Js _ _ _ _ _)|with_reducible exact AF hS (oJ _ _ _))|refine jX ?_))
     refine aj.bY ?_;intro w2 hS
     (clear l0 aA aB l1 aH aJ l2 aL aM l3 aZ bq);(replace hB:=Below.ay qj aF hS);replace A0:=At.keep sM hS;replace A1:=At.keep qP hS;replace A2:=At.keep qW hS;replace A3:=At.keep zC hS;clear hS;obtain⟨l0,aA,aB⟩:=At.two A0;obtain⟨l1,aH,aJ⟩:=At.two A1;obtain⟨l2,aL,aM⟩:=At.two A2;obtain⟨l3,aZ,bq⟩:=At.two A3
     go_wp2
     go_ret
     refine⟨bQ ?_,hB⟩;simp only[St.up,if_true,BR]
theorem Rh{qb vM ilo ihi ru phi:Int}{tu:Bool}{rz:Int}{zn:Bool}{xK:Int}(h:0<St.down qb ru tu rz):St.shift qb vM ilo ihi ru phi tu rz zn xK=min (St.down qb ru tu rz) (St.over ihi vM):=by unfold St.shift;rw[if_pos h,BR]
theorem aah{qb vM ilo ihi ru phi:Int}{tu:Bool}{rz:Int}{zn:Bool}{xK:Int}(h:¬ 0<St.down qb ru tu rz):St.shift qb vM ilo ihi ru phi tu rz zn xK = -min (St.up qb vM ru phi tu rz zn xK) (St.over qb ilo):=by
 have h1:=(St.acR qb vM ru phi tu rz zn xK).1;have h2:=St.DI qb ilo;unfold St.shift;rw[if_neg h,BR];split<;>omega
theorem Jt(qb vM ilo ihi ru phi:Int)(tu:Bool)(rz:Int)(zn:Bool)(xK:Int)(w:World):Calls ja0 152 #[.agg #[qb,vM],.agg #[ilo,ihi],.agg #[ru,phi],.agg #[tu,rz],.agg #[zn,xK]] w λe w'=>e=.returned (.int .i64 (St.shift qb vM ilo ihi ru phi tu rz zn xK))/\Below w w w':=by
 have h1:=St.acR qb vM ru phi tu rz zn xK;have h2:=St.DI qb ilo;have h3:=St.J7 qb ilo;have hw:IntKind.i64.wrap (-min (St.up qb vM ru phi tu rz zn xK) (St.over qb ilo)) = -min (St.up qb vM ru phi tu rz zn xK) (St.over qb ilo):=IntWalk.i64_in _ ak;clear h1 h2 h3;by_cases hd:0<St.down qb ru tu rz
 . have Hr:=ah (Rh (vM:=vM) (ilo:=ilo) (ihi:=ihi) (phi:=phi) (zn:=zn) (xK:=xK) hd)
   go_enter Tryz.func152,Tryz.ntmps152
   go_upto_region 1 with(fail)
   (generalize hW:ja5 (ja5 (ja5 (ja5 (ja5 w _) _) _) _) _=W0;have A0:At W0 (w.heap.size) (.cells #[qb,vM] 106):=(by((rw[<-hW])<;>exact At.alloc (At.alloc (At.alloc (At.alloc (At.new' _ Gs) _) _) _) _));have A1:At W0 (w.heap.size+1) (.cells #[ilo,ihi] 106):=Z4c;have A2:At W0 (w.heap.size+1+1) (.cells #[ru,phi] 106):=WL;have A3:At W0 (w.heap.size+1+1+1) (.cells #[tu,rz] 191):=TM;have A4:At W0 (w.heap.size+1+1+1+1) (.cells #[zn,xK] 191):=TN;have hB:Below w w W0:=(by((rw[<-hW])<;>exact aD (aD (aD (aD (aD aG _) _) _) _) _));clear hW;obtain⟨l0,aA,aB⟩:=At.two A0;obtain⟨l1,aH,aJ⟩:=At.two A1;obtain⟨l2,aL,aM⟩:=At.two A2;obtain⟨l3,aZ,bq⟩:=At.two A3;obtain⟨l4,fF,fG⟩:=At.two A4)
   go_wp2_with (first|(go_at_call 186;(with_reducible refine(F6 _ _ _ _ _ _ _).mono ?_);rintro e w' ⟨rfl,hb⟩;(clear l0 aA aB l1 aH aJ l2 aL aM l3 aZ bq l4 fF fG);(replace hB:=Below.ay qj aF hb);replace A0:=At.keep sM hb;replace A1:=At.keep qP hb;replace A2:=At.keep qW hb;replace A3:=At.keep zC hb;replace A4:=At.keep Z45 hb;clear hb;obtain⟨l0,aA,aB⟩:=At.two A0;obtain⟨l1,aH,aJ⟩:=At.two A1;obtain⟨l2,aL,aM⟩:=At.two A2;obtain⟨l3,aZ,bq⟩:=At.two A3;obtain⟨l4,fF,fG⟩:=At.two A4)|(go_at_call 187;(with_reducible refine(oJ _ _ _).mono ?_);rintro e w' ⟨rfl,rfl⟩))
   go_ret
   exact⟨bQ Hr.out.symm,hB⟩
 . have Hr:=ah (aah (vM:=vM) (ilo:=ilo) (ihi:=ihi) (phi:=phi) (zn:=zn) (xK:=xK) hd)
   have hd':decide (0<St.down qb ru tu rz)=false:=by simpa using hd
   go_enter Tryz.func152,Tryz.ntmps152
   go_upto_region 1 with(fail)
   (generalize hW:ja5 (ja5 (ja5 (ja5 (ja5 w _) _) _) _) _=W0;have A0:At W0 (w.heap.size) (.cells #[qb,vM] 106):=(by((rw[<-hW])<;>exact At.alloc (At.alloc (At.alloc (At.alloc (At.new' _ Gs) _) _) _) _));have A1:At W0 (w.heap.size+1) (.cells #[ilo,ihi] 106):=Z4c;have A2:At W0 (w.heap.size+1+1) (.cells #[ru,phi] 106):=WL;have A3:At W0 (w.heap.size+1+1+1) (.cells #[tu,rz] 191):=TM;have A4:At W0 (w.heap.size+1+1+1+1) (.cells #[zn,xK] 191):=TN;have hB:Below w w W0:=(by((rw[<-hW])<;>exact aD (aD (aD (aD (aD aG _) _) _) _) _));clear hW;obtain⟨l0,aA,aB⟩:=At.two A0;obtain⟨l1,aH,aJ⟩:=At.two A1;obtain⟨l2,aL,aM⟩:=At.two A2;obtain⟨l3,aZ,bq⟩:=At.two A3;obtain⟨l4,fF,fG⟩:=At.two A4)
   go_upto_region 4 with(first|(go_at_call 186;(with_reducible refine(F6 _ _ _ _ _ _ _).mono ?_);rintro e w' ⟨rfl,hb⟩;(clear l0 aA aB l1 aH aJ l2 aL aM l3 aZ bq l4 fF fG);(replace hB:=Below.ay qj aF hb);replace A0:=At.keep sM hb;replace A1:=At.keep qP hb;replace A2:=At.keep qW hb;replace A3:=At.keep zC hb;replace A4:=At.keep Z45 hb;clear hb;obtain⟨l0,aA,aB⟩:=At.two A0;obtain⟨l1,aH,aJ⟩:=At.two A1;obtain⟨l2,aL,aM⟩:=At.two A2;obtain⟨l3,aZ,bq⟩:=At.two A3;obtain⟨l4,fF,fG⟩:=At.two A4)|(go_at_call 187;(with_reducible refine(oJ _ _ _).mono ?_);rintro e w' ⟨rfl,rfl⟩))
   refine vS ?_
   (repeat (first|refine jV ?_ | refine jW ?_ (hc:=by intro w2 hS;first|with_reducible exact jI hS (aag _ _ _ _ _ _ _ _ _)|with_reducible exact AF hS (oJ _ _ _))|refine jX ?_))
   refine aj.bY ?_;intro w2 hS
   (clear l0 aA aB l1 aH aJ l2 aL aM l3 aZ bq l4 fF fG);(replace hB:=Below.ay qj aF hS);replace A0:=At.keep sM hS;replace A1:=At.keep qP hS;replace A2:=At.keep qW hS;replace A3:=At.keep zC hS;replace A4:=At.keep Z45 hS;clear hS;obtain⟨l0,aA,aB⟩:=At.two A0;obtain⟨l1,aH,aJ⟩:=At.two A1;obtain⟨l2,aL,aM⟩:=At.two A2;obtain⟨l3,aZ,bq⟩:=At.two A3;obtain⟨l4,fF,fG⟩:=At.two A4
   go_wp2
   go_ret
   exact⟨bQ Hr.out.symm,hB⟩
end
section
open Fl
open World renaming alloc → ja5
section
variable {bx qK bw bh ix iy iw ih px py pw ph:Int} {o0 o1 o2 o3:Bool} {y0 y1 y2 y3:Int} {b0 b1 b2 b3:Nat} {w:World}
theorem Ri(A0:At w b0 (.cells #[bx,qK,bw,bh] 40))(A1:At w b1 (.cells #[ix,iy,iw,ih] 40))(A2:At w b2 (.cells #[px,py,pw,ph] 40))(A3:At w b3 (.cells #[o0,y0,o1,y1,o2,y2,o3,y3] 192)) :
  Calls ja0 151 #[.func (.func 44) #[] #[],.int .i64 3,.int .i64 1,b0,b1,b2,b3] w λe w'=>e=.returned (.int .i64 (St.shift (Fx.cut bx) (Fx.hi bx bw) (Fx.cut ix) (Fx.hi ix iw) (Fx.cut px) (Fx.hi px pw) o3 y3 o1 y1))/\Below w w w':=by
 obtain⟨l0,aA,aB,aY,dP⟩:=At.four A0;obtain⟨l1,aH,aJ,dn,dw⟩:=At.four A1;obtain⟨l2,aL,aM,aP,aQ⟩:=At.four A2;obtain⟨l3,aZ,bq,bZ,cu,dD,dF,fI,pO⟩:=At.eight A3;clear A0 A1 A2 A3;go_enter Tryz.func151,Tryz.ntmps151
 go_upto_region 1 with(fail)
 refine vS ?_
 (repeat (first|refine jV ?_ | refine jW ?_ (hc:=by intro w2 hS;first|with_reducible exact jI hS (uR _ _ _ _ _)|with_reducible exact jI hS (Jt _ _ _ _ _ _ _ _ _ _ _))|refine jX ?_))
 refine aj.bY ?_;intro w2 hS;go_wp2
 go_ret
 exact⟨rfl,hS⟩
theorem Rj(A0:At w b0 (.cells #[bx,qK,bw,bh] 40))(A1:At w b1 (.cells #[ix,iy,iw,ih] 40))(A2:At w b2 (.cells #[px,py,pw,ph] 40))(A3:At w b3 (.cells #[o0,y0,o1,y1,o2,y2,o3,y3] 192)) :
  Calls ja0 151 #[.func (.func 45) #[] #[],(),.int .i64 2,b0,b1,b2,b3] w λe w'=>e=.returned (.int .i64 (St.shift (Fx.cut qK) (Fx.hi qK bh) (Fx.cut iy) (Fx.hi iy ih) (Fx.cut py) (Fx.hi py ph) o0 y0 o2 y2))/\Below w w w':=by
 obtain⟨l0,aA,aB,aY,dP⟩:=At.four A0;obtain⟨l1,aH,aJ,dn,dw⟩:=At.four A1;obtain⟨l2,aL,aM,aP,aQ⟩:=At.four A2;obtain⟨l3,aZ,bq,bZ,cu,dD,dF,fI,pO⟩:=At.eight A3;clear A0 A1 A2 A3;go_enter Tryz.func151,Tryz.ntmps151
 go_upto_region 1 with(fail)
 refine vS ?_
 (repeat (first|refine jV ?_ | refine jW ?_ (hc:=by intro w2 hS;first|with_reducible exact jI hS (xQ _ _ _ _ _)|with_reducible exact jI hS (Jt _ _ _ _ _ _ _ _ _ _ _))|refine jX ?_))
 refine aj.bY ?_;intro w2 hS;go_wp2
 go_ret
 exact⟨rfl,hS⟩
end
def adk(bx qK bw bh ix iy iw ih px py pw ph:Int)(o0:Bool)(y0:Int)(o1:Bool)(y1:Int)(o2:Bool)(y2:Int)(o3:Bool)(y3:Int):Value :=
 pt (St.shift (Fx.cut bx) (Fx.hi bx bw) (Fx.cut ix) (Fx.hi ix iw) (Fx.cut px) (Fx.hi px pw) o3 y3 o1 y1) (St.shift (Fx.cut qK) (Fx.hi qK bh) (Fx.cut iy) (Fx.hi iy ih) (Fx.cut py) (Fx.hi py ph) o0 y0 o2 y2)
theorem Rk(bx qK bw bh ix iy iw ih px py pw ph:Int)(o0:Bool)(y0:Int)(o1:Bool)(y1:Int)(o2:Bool)(y2:Int)(o3:Bool)(y3:Int)(w:World):Calls ja0 113 #[.agg #[bx,qK,bw,bh],.agg #[ix,iy,iw,ih],.agg #[px,py,pw,ph],.agg #[o0,y0,o1,y1,o2,y2,o3,y3]] w λe w'=>e=.returned (adk bx qK bw bh ix iy iw ih px py pw ph o0 y0 o1 y1 o2 y2 o3 y3)/\Below w w w':=by
 have Kc:=@tC;go_enter Tryz.func113,Tryz.ntmps113
 go_upto_region 1 with(fail)
 (generalize hW:ja5 (ja5 (ja5 (ja5 w _) _) _) _=W0;have A0:At W0 (w.heap.size) (.cells #[bx,qK,bw,bh] 40):=Z4c;have A1:At W0 (w.heap.size+1) (.cells #[ix,iy,iw,ih] 40):=WL;have A2:At W0 (w.heap.size+1+1) (.cells #[px,py,pw,ph] 40):=TM;have A3:At W0 (w.heap.size+1+1+1) (.cells #[o0,y0,o1,y1,o2,y2,o3,y3] 192):=TN;have hB:Below w w W0:=Z4g;clear hW;obtain⟨l0,aA,aB,aY,dP⟩:=At.four A0;obtain⟨l1,aH,aJ,dn,dw⟩:=At.four A1;obtain⟨l2,aL,aM,aP,aQ⟩:=At.four A2;obtain⟨l3,aZ,bq,bZ,cu,dD,dF,fI,pO⟩:=At.eight A3)
 go_wp2_with (first|(go_at_call 151;(with_reducible refine(Ri A0 A1 A2 A3).mono ?_);rintro e w' ⟨rfl,hb⟩;(clear l0 aA aB aY dP l1 aH aJ dn dw l2 aL aM aP aQ l3 aZ bq bZ cu dD dF fI pO);(replace hB:=Below.ay qj aF hb);replace A0:=At.keep sM hb;replace A1:=At.keep qP hb;replace A2:=At.keep qW hb;replace A3:=At.keep zC hb;clear hb;obtain⟨l0,aA,aB,aY,dP⟩:=At.four A0;obtain⟨l1,aH,aJ,dn,dw⟩:=At.four A1;obtain⟨l2,aL,aM,aP,aQ⟩:=At.four A2;obtain⟨l3,aZ,bq,bZ,cu,dD,dF,fI,pO⟩:=At.eight A3)|(go_at_call 151;(with_reducible refine(Rj A0 A1 A2 A3).mono ?_);rintro e w' ⟨rfl,hb⟩;(clear l0 aA aB aY dP l1 aH aJ dn dw l2 aL aM aP aQ l3 aZ bq bZ cu dD dF fI pO);(replace hB:=Below.ay qj aF hb);replace A0:=At.keep sM hb;replace A1:=At.keep qP hb;replace A2:=At.keep qW hb;replace A3:=At.keep zC hb;clear hb;obtain⟨l0,aA,aB,aY,dP⟩:=At.four A0;obtain⟨l1,aH,aJ,dn,dw⟩:=At.four A1;obtain⟨l2,aL,aM,aP,aQ⟩:=At.four A2;obtain⟨l3,aZ,bq,bZ,cu,dD,dF,fI,pO⟩:=At.eight A3)|(go_at_call 8;(with_reducible refine(qC _ _ _).mono ?_);rintro e w' ⟨rfl,rfl⟩))
 go_ret
 exact⟨rfl,hB⟩
end
section
open World renaming setCell → ja4,alloc → ja5
theorem VP{a b c d a' b' c' d':Value}{x y z u x' y' z' u':Value}(h1:a=a')(h2:b=b')(h3:c=c')(h4:d=d')(g1:x=x')(g2:y=y')(g3:z=z')(g4:u=u'):Ending.returned (.agg #[a,x,b,y,c,z,d,u])=.returned (.agg #[a',x',b',y',c',z',d',u']):=by rw[h1,h2,h3,h4,g1,g2,g3,g4]
theorem Oj(k0 n0 k1 n1 k2 n2 k3 n3 wi hi:Int)(w:World):Calls ja0 114 #[.agg #[k0,n0,k1,n1,k2,n2,k3,n3],wi,hi] w λe w'=>e=.returned (.agg #[.bool (Fx.dY k0 hi),Fx.len k0 n0 hi 0,.bool (Fx.dY k1 wi),Fx.len k1 n1 wi 0,.bool (Fx.dY k2 hi),Fx.len k2 n2 hi 0,.bool (Fx.dY k3 wi),Fx.len k3 n3 wi 0])/\Below w w w':=by
 have i0:∀w:World,(Instr.index 52 (.agg #[hi,wi,hi,wi]) (.int .i64 0)).run ja0 w=.ok (.int .i64 hi) w:=λ_=>by kernel_rfl
 have i1:∀w:World,(Instr.index 52 (.agg #[hi,wi,hi,wi]) (.int .i64 1)).run ja0 w=.ok (.int .i64 wi) w:=λ_=>by kernel_rfl
 have i2:∀w:World,(Instr.index 52 (.agg #[hi,wi,hi,wi]) (.int .i64 2)).run ja0 w=.ok (.int .i64 hi) w:=λ_=>by kernel_rfl
 have i3:∀w:World,(Instr.index 52 (.agg #[hi,wi,hi,wi]) (.int .i64 3)).run ja0 w=.ok (.int .i64 wi) w:=λ_=>by kernel_rfl
 go_enter Tryz.func114,Tryz.ntmps114
 go_upto_region 1 with(fail)
 (generalize hW:ja5 (ja5 w _) _=W0;have A0:At W0 (w.heap.size) (.cells #[k0,n0,k1,n1,k2,n2,k3,n3] 51):=TM;have A1:At W0 (w.heap.size+1) (.cells #[false,(),false,(),false,(),false,()] 192):=TN;have hB:Below w w W0:=(by((rw[<-hW])<;>exact aD (aD aG _) _));clear hW;obtain⟨l0,aA,aB,aY,dP,iX,iY,nL,qQ⟩:=At.eight A0;obtain⟨l1,aH,aJ,dn,dw,nM,nN,qH,ug⟩:=At.eight A1;have dZ:=A1.thaw 0;have eu:=A1.thaw 1;have eO:=A1.thaw 2;have eP:=A1.thaw 3;have oH:=A1.thaw 4;have oI:=A1.thaw 5;have qV:=A1.thaw 6;have uh:=A1.thaw 7)
 go_upto_region 2 with(fail)
 (generalize hW:ja5 _ _=W1;clear l0 aA aB aY dP iX iY nL qQ l1 aH aJ dn dw nM nN qH ug dZ eu eO eP oH oI qV uh;have A2:At W1 _ _:=hW▸At.new _ _;replace A0:At W1 _ _:=hW▸At.alloc A0 _;replace A1:At W1 _ _:=hW▸At.alloc A1 _;replace hB:Below w w W1:=hW▸aD hB _;clear hW;obtain⟨l0,aA,aB,aY,dP,iX,iY,nL,qQ⟩:=At.eight A0;obtain⟨l1,aH,aJ,dn,dw,nM,nN,qH,ug⟩:=At.eight A1;have dZ:=A1.thaw 0;have eu:=A1.thaw 1;have eO:=A1.thaw 2;have eP:=A1.thaw 3;have oH:=A1.thaw 4;have oI:=A1.thaw 5;have qV:=A1.thaw 6;have uh:=A1.thaw 7;obtain⟨l2,aL,aM,aP,aQ⟩:=At.four A2)
 have e0:=l0;have e1:=l1;have e2:=l2
 go_upto_region 3 with(fail)
 (generalize hW:ja5 _ _=W2;clear l0 aA aB aY dP iX iY nL qQ l1 aH aJ dn dw nM nN qH ug dZ eu eO eP oH oI qV uh l2 aL aM aP aQ;have A3:At W2 _ _:=hW▸At.new _ _;replace A0:At W2 _ _:=hW▸At.alloc A0 _;replace A1:At W2 _ _:=hW▸At.alloc A1 _;replace A2:At W2 _ _:=hW▸At.alloc A2 _;replace hB:Below w w W2:=hW▸aD hB _;clear hW;obtain⟨l0,aA,aB,aY,dP,iX,iY,nL,qQ⟩:=At.eight A0;obtain⟨l1,aH,aJ,dn,dw,nM,nN,qH,ug⟩:=At.eight A1;have dZ:=A1.thaw 0;have eu:=A1.thaw 1;have eO:=A1.thaw 2;have eP:=A1.thaw 3;have oH:=A1.thaw 4;have oI:=A1.thaw 5;have qV:=A1.thaw 6;have uh:=A1.thaw 7;obtain⟨l2,aL,aM,aP,aQ⟩:=At.four A2;obtain⟨l3,aZ,bq,bZ,cu,dD,dF,fI,pO⟩:=At.eight A3;have eF:=A3.thaw 0;have eG:=A3.thaw 1;have eX:=A3.thaw 2;have eY:=A3.thaw 3;have fA:=A3.thaw 4;have fB:=A3.thaw 5;have gZ:=A3.thaw 6;have vY:=A3.thaw 7)
 (clear l3 aZ bq bZ cu dD dF fI pO eF eG eX eY fA fB gZ vY;generalize hb3:W1.heap.size=b3 at *;obtain⟨l3,aZ,bq,bZ,cu,dD,dF,fI,pO⟩:=At.eight A3)
 have eF:=A3.thaw 0;have eG:=A3.thaw 1;have eX:=A3.thaw 2;have eY:=A3.thaw 3;have fA:=A3.thaw 4;have fB:=A3.thaw 5;have gZ:=A3.thaw 6;have vY:=A3.thaw 7;go_wp2;refine wp_loop_rounds 5 ?_;rw[rounds_succ]
 go_upto_region 6 with(fail)
 refine zB 13 1 ?_
 (repeat (first|refine jV ?_ | refine jW ?_ (hc:=by intro w2 hS;first|with_reducible exact jI hS (kZ _ _ _ _)|with_reducible exact jI hS (jF _ _ _ _ _))|refine jX ?_))
 refine aj.dH ?_;intro w2 hS
 (clear l0 aA aB aY dP iX iY nL qQ l1 aH aJ dn dw nM nN qH ug dZ eu eO eP oH oI qV uh l2 aL aM aP aQ l3 aZ bq bZ cu dD dF fI pO eF eG eX eY fA fB gZ vY);(replace hB:=Below.ay qj aF hS);replace A0:=At.keep sM hS;replace A1:=At.keep qP hS;replace A2:=At.keep qW hS;replace A3:=At.keep zC hS;clear hS;obtain⟨l0,aA,aB,aY,dP,iX,iY,nL,qQ⟩:=At.eight A0;obtain⟨l1,aH,aJ,dn,dw,nM,nN,qH,ug⟩:=At.eight A1;have dZ:=A1.thaw 0;have eu:=A1.thaw 1;have eO:=A1.thaw 2;have eP:=A1.thaw 3;have oH:=A1.thaw 4;have oI:=A1.thaw 5;have qV:=A1.thaw 6;have uh:=A1.thaw 7;obtain⟨l2,aL,aM,aP,aQ⟩:=At.four A2;obtain⟨l3,aZ,bq,bZ,cu,dD,dF,fI,pO⟩:=At.eight A3;have eF:=A3.thaw 0;have eG:=A3.thaw 1;have eX:=A3.thaw 2;have eY:=A3.thaw 3;have fA:=A3.thaw 4;have fB:=A3.thaw 5;have gZ:=A3.thaw 6;have vY:=A3.thaw 7
 refine vH ?_;intro K hK;go_simp;refine hK _ _ (aj.bF ?_);clear hK K;generalize hW:ja4 (ja4 _ _ _) _ _=V0;clear l0 aA aB aY dP iX iY nL qQ l1 aH aJ dn dw nM nN qH ug dZ eu eO eP oH oI qV uh l2 aL aM aP aQ l3 aZ bq bZ cu dD dF fI pO eF eG eX eY fA fB gZ vY;have Rl:=At.set (At.set A3 0 (.bool (Fx.dY k0 hi))) 1 (.int .i64 (Fx.len k0 n0 hi 0));have Rn:=At.off (At.off A0 (n:=b3) ak 0 (.bool (Fx.dY k0 hi))) (n:=b3) ak 1 (.int .i64 (Fx.len k0 n0 hi 0));have Dj:=At.off (At.off A1 (n:=b3) ak 0 (.bool (Fx.dY k0 hi))) (n:=b3) ak 1 (.int .i64 (Fx.len k0 n0 hi 0));have Ro:=At.off (At.off A2 (n:=b3) ak 0 (.bool (Fx.dY k0 hi))) (n:=b3) ak 1 (.int .i64 (Fx.len k0 n0 hi 0));rw[hW]at Rn Dj Ro Rl;clear A0 A1 A2 A3;have A0:=Rn;have A1:=Dj;have A2:=Ro;have A3:At V0 b3 (.cells #[.bool (Fx.dY k0 hi),Fx.len k0 n0 hi 0,false,(),false,(),false,()] 192):=Rl;clear Rn Dj Ro Rl;replace hB:Below w w V0:=hW▸Below.setCell (Below.setCell hB jB _) jB _;clear hW;obtain⟨l0,aA,aB,aY,dP,iX,iY,nL,qQ⟩:=At.eight A0;obtain⟨l1,aH,aJ,dn,dw,nM,nN,qH,ug⟩:=At.eight A1;obtain⟨l2,aL,aM,aP,aQ⟩:=At.four A2;obtain⟨l3,aZ,bq,bZ,cu,dD,dF,fI,pO⟩:=At.eight A3;have dZ:=A1.thaw 0;have eu:=A1.thaw 1;have eO:=A1.thaw 2;have eP:=A1.thaw 3;have oH:=A1.thaw 4;have oI:=A1.thaw 5;have qV:=A1.thaw 6;have uh:=A1.thaw 7;have eF:=A3.thaw 0;have eG:=A3.thaw 1;have eX:=A3.thaw 2;have eY:=A3.thaw 3;have fA:=A3.thaw 4;have fB:=A3.thaw 5;have gZ:=A3.thaw 6;have vY:=A3.thaw 7;go_wp2;rw[rounds_succ]
 go_upto_region 6 with(fail)
 refine zB 13 1 ?_
 (repeat (first|refine jV ?_ | refine jW ?_ (hc:=by intro w2 hS;first|with_reducible exact jI hS (kZ _ _ _ _)|with_reducible exact jI hS (jF _ _ _ _ _))|refine jX ?_))
 refine aj.dH ?_;intro w2 hS
 (clear l0 aA aB aY dP iX iY nL qQ l1 aH aJ dn dw nM nN qH ug dZ eu eO eP oH oI qV uh l2 aL aM aP aQ l3 aZ bq bZ cu dD dF fI pO eF eG eX eY fA fB gZ vY);(replace hB:=Below.ay qj aF hS);replace A0:=At.keep sM hS;replace A1:=At.keep qP hS;replace A2:=At.keep qW hS;replace A3:=At.keep zC hS;clear hS;obtain⟨l0,aA,aB,aY,dP,iX,iY,nL,qQ⟩:=At.eight A0;obtain⟨l1,aH,aJ,dn,dw,nM,nN,qH,ug⟩:=At.eight A1;have dZ:=A1.thaw 0;have eu:=A1.thaw 1;have eO:=A1.thaw 2;have eP:=A1.thaw 3;have oH:=A1.thaw 4;have oI:=A1.thaw 5;have qV:=A1.thaw 6;have uh:=A1.thaw 7;obtain⟨l2,aL,aM,aP,aQ⟩:=At.four A2;obtain⟨l3,aZ,bq,bZ,cu,dD,dF,fI,pO⟩:=At.eight A3;have eF:=A3.thaw 0;have eG:=A3.thaw 1;have eX:=A3.thaw 2;have eY:=A3.thaw 3;have fA:=A3.thaw 4;have fB:=A3.thaw 5;have gZ:=A3.thaw 6;have vY:=A3.thaw 7
 refine vH ?_;intro K hK;go_simp;refine hK _ _ (aj.bF ?_);clear hK K;generalize hW:ja4 (ja4 _ _ _) _ _=V1;clear l0 aA aB aY dP iX iY nL qQ l1 aH aJ dn dw nM nN qH ug dZ eu eO eP oH oI qV uh l2 aL aM aP aQ l3 aZ bq bZ cu dD dF fI pO eF eG eX eY fA fB gZ vY;have Rl:=At.set (At.set A3 2 (.bool (Fx.dY k1 wi))) 3 (.int .i64 (Fx.len k1 n1 wi 0));have Rn:=At.off (At.off A0 (n:=b3) ak 2 (.bool (Fx.dY k1 wi))) (n:=b3) ak 3 (.int .i64 (Fx.len k1 n1 wi 0));have Dj:=At.off (At.off A1 (n:=b3) ak 2 (.bool (Fx.dY k1 wi))) (n:=b3) ak 3 (.int .i64 (Fx.len k1 n1 wi 0));have Ro:=At.off (At.off A2 (n:=b3) ak 2 (.bool (Fx.dY k1 wi))) (n:=b3) ak 3 (.int .i64 (Fx.len k1 n1 wi 0));rw[hW]at Rn Dj Ro Rl;clear A0 A1 A2 A3;have A0:=Rn;have A1:=Dj;have A2:=Ro;have A3:At V1 b3 (.cells #[.bool (Fx.dY k0 hi),Fx.len k0 n0 hi 0,.bool (Fx.dY k1 wi),Fx.len k1 n1 wi 0,false,(),false,()] 192):=Rl;clear Rn Dj Ro Rl;replace hB:Below w w V1:=hW▸Below.setCell (Below.setCell hB jB _) jB _;clear hW;obtain⟨l0,aA,aB,aY,dP,iX,iY,nL,qQ⟩:=At.eight A0;obtain⟨l1,aH,aJ,dn,dw,nM,nN,qH,ug⟩:=At.eight A1;obtain⟨l2,aL,aM,aP,aQ⟩:=At.four A2;obtain⟨l3,aZ,bq,bZ,cu,dD,dF,fI,pO⟩:=At.eight A3;have dZ:=A1.thaw 0;have eu:=A1.thaw 1;have eO:=A1.thaw 2;have eP:=A1.thaw 3;have oH:=A1.thaw 4;have oI:=A1.thaw 5;have qV:=A1.thaw 6;have uh:=A1.thaw 7;have eF:=A3.thaw 0;have eG:=A3.thaw 1;have eX:=A3.thaw 2;have eY:=A3.thaw 3;have fA:=A3.thaw 4;have fB:=A3.thaw 5;have gZ:=A3.thaw 6;have vY:=A3.thaw 7;go_wp2;rw[rounds_succ]
 go_upto_region 6 with(fail)
 refine zB 13 1 ?_
 (repeat (first|refine jV ?_ | refine jW ?_ (hc:=by intro w2 hS;first|with_reducible exact jI hS (kZ _ _ _ _)|with_reducible exact jI hS (jF _ _ _ _ _))|refine jX ?_))
 refine aj.dH ?_;intro w2 hS
 (clear l0 aA aB aY dP iX iY nL qQ l1 aH aJ dn dw nM nN qH ug dZ eu eO eP oH oI qV uh l2 aL aM aP aQ l3 aZ bq bZ cu dD dF fI pO eF eG eX eY fA fB gZ vY);(replace hB:=Below.ay qj aF hS);replace A0:=At.keep sM hS;replace A1:=At.keep qP hS;replace A2:=At.keep qW hS;replace A3:=At.keep zC hS;clear hS;obtain⟨l0,aA,aB,aY,dP,iX,iY,nL,qQ⟩:=At.eight A0;obtain⟨l1,aH,aJ,dn,dw,nM,nN,qH,ug⟩:=At.eight A1;have dZ:=A1.thaw 0;have eu:=A1.thaw 1;have eO:=A1.thaw 2;have eP:=A1.thaw 3;have oH:=A1.thaw 4;have oI:=A1.thaw 5;have qV:=A1.thaw 6;have uh:=A1.thaw 7;obtain⟨l2,aL,aM,aP,aQ⟩:=At.four A2;obtain⟨l3,aZ,bq,bZ,cu,dD,dF,fI,pO⟩:=At.eight A3;have eF:=A3.thaw 0;have eG:=A3.thaw 1;have eX:=A3.thaw 2;have eY:=A3.thaw 3;have fA:=A3.thaw 4;have fB:=A3.thaw 5;have gZ:=A3.thaw 6;have vY:=A3.thaw 7
 refine vH ?_;intro K hK;go_simp;refine hK _ _ (aj.bF ?_);clear hK K;generalize hW:ja4 (ja4 _ _ _) _ _=V2;clear l0 aA aB aY dP iX iY nL qQ l1 aH aJ dn dw nM nN qH ug dZ eu eO eP oH oI qV uh l2 aL aM aP aQ l3 aZ bq bZ cu dD dF fI pO eF eG eX eY fA fB gZ vY;have Rl:=At.set (At.set A3 4 (.bool (Fx.dY k2 hi))) 5 (.int .i64 (Fx.len k2 n2 hi 0));have Rn:=At.off (At.off A0 (n:=b3) ak 4 (.bool (Fx.dY k2 hi))) (n:=b3) ak 5 (.int .i64 (Fx.len k2 n2 hi 0));have Dj:=At.off (At.off A1 (n:=b3) ak 4 (.bool (Fx.dY k2 hi))) (n:=b3) ak 5 (.int .i64 (Fx.len k2 n2 hi 0));have Ro:=At.off (At.off A2 (n:=b3) ak 4 (.bool (Fx.dY k2 hi))) (n:=b3) ak 5 (.int .i64 (Fx.len k2 n2 hi 0));rw[hW]at Rn Dj Ro Rl;clear A0 A1 A2 A3;have A0:=Rn;have A1:=Dj;have A2:=Ro;have A3:At V2 b3 (.cells #[.bool (Fx.dY k0 hi),Fx.len k0 n0 hi 0,.bool (Fx.dY k1 wi),Fx.len k1 n1 wi 0,.bool (Fx.dY k2 hi),Fx.len k2 n2 hi 0,false,()] 192):=Rl;clear Rn Dj Ro Rl;replace hB:Below w w V2:=hW▸Below.setCell (Below.setCell hB jB _) jB _;clear hW;obtain⟨l0,aA,aB,aY,dP,iX,iY,nL,qQ⟩:=At.eight A0;obtain⟨l1,aH,aJ,dn,dw,nM,nN,qH,ug⟩:=At.eight A1;obtain⟨l2,aL,aM,aP,aQ⟩:=At.four A2;obtain⟨l3,aZ,bq,bZ,cu,dD,dF,fI,pO⟩:=At.eight A3;have dZ:=A1.thaw 0;have eu:=A1.thaw 1;have eO:=A1.thaw 2;have eP:=A1.thaw 3;have oH:=A1.thaw 4;have oI:=A1.thaw 5;have qV:=A1.thaw 6;have uh:=A1.thaw 7;have eF:=A3.thaw 0;have eG:=A3.thaw 1;have eX:=A3.thaw 2;have eY:=A3.thaw 3;have fA:=A3.thaw 4;have fB:=A3.thaw 5;have gZ:=A3.thaw 6;have vY:=A3.thaw 7;go_wp2;rw[rounds_succ]
 go_upto_region 6 with(fail)
 refine zB 13 1 ?_
 (repeat (first|refine jV ?_ | refine jW ?_ (hc:=by intro w2 hS;first|with_reducible exact jI hS (kZ _ _ _ _)|with_reducible exact jI hS (jF _ _ _ _ _))|refine jX ?_))
 refine aj.dH ?_;intro w2 hS
 (clear l0 aA aB aY dP iX iY nL qQ l1 aH aJ dn dw nM nN qH ug dZ eu eO eP oH oI qV uh l2 aL aM aP aQ l3 aZ bq bZ cu dD dF fI pO eF eG eX eY fA fB gZ vY);(replace hB:=Below.ay qj aF hS);replace A0:=At.keep sM hS;replace A1:=At.keep qP hS;replace A2:=At.keep qW hS;replace A3:=At.keep zC hS;clear hS;obtain⟨l0,aA,aB,aY,dP,iX,iY,nL,qQ⟩:=At.eight A0;obtain⟨l1,aH,aJ,dn,dw,nM,nN,qH,ug⟩:=At.eight A1;have dZ:=A1.thaw 0;have eu:=A1.thaw 1;have eO:=A1.thaw 2;have eP:=A1.thaw 3;have oH:=A1.thaw 4;have oI:=A1.thaw 5;have qV:=A1.thaw 6;have uh:=A1.thaw 7;obtain⟨l2,aL,aM,aP,aQ⟩:=At.four A2;obtain⟨l3,aZ,bq,bZ,cu,dD,dF,fI,pO⟩:=At.eight A3;have eF:=A3.thaw 0;have eG:=A3.thaw 1;have eX:=A3.thaw 2;have eY:=A3.thaw 3;have fA:=A3.thaw 4;have fB:=A3.thaw 5;have gZ:=A3.thaw 6;have vY:=A3.thaw 7
 refine vH ?_;intro K hK;go_simp;refine hK _ _ (aj.bF ?_);clear hK K;generalize hW:ja4 (ja4 _ _ _) _ _=V3;clear l0 aA aB aY dP iX iY nL qQ l1 aH aJ dn dw nM nN qH ug dZ eu eO eP oH oI qV uh l2 aL aM aP aQ l3 aZ bq bZ cu dD dF fI pO eF eG eX eY fA fB gZ vY;have Rl:=At.set (At.set A3 6 (.bool (Fx.dY k3 wi))) 7 (.int .i64 (Fx.len k3 n3 wi 0));have Rn:=At.off (At.off A0 (n:=b3) ak 6 (.bool (Fx.dY k3 wi))) (n:=b3) ak 7 (.int .i64 (Fx.len k3 n3 wi 0));have Dj:=At.off (At.off A1 (n:=b3) ak 6 (.bool (Fx.dY k3 wi))) (n:=b3) ak 7 (.int .i64 (Fx.len k3 n3 wi 0));have Ro:=At.off (At.off A2 (n:=b3) ak 6 (.bool (Fx.dY k3 wi))) (n:=b3) ak 7 (.int .i64 (Fx.len k3 n3 wi 0));rw[hW]at Rn Dj Ro Rl;clear A0 A1 A2 A3;have A0:=Rn;have A1:=Dj;have A2:=Ro;have A3:At V3 b3 (.cells #[.bool (Fx.dY k0 hi),Fx.len k0 n0 hi 0,.bool (Fx.dY k1 wi),Fx.len k1 n1 wi 0,.bool (Fx.dY k2 hi),Fx.len k2 n2 hi 0,.bool (Fx.dY k3 wi),Fx.len k3 n3 wi 0] 192):=Rl;clear Rn Dj Ro Rl;replace hB:Below w w V3:=hW▸Below.setCell (Below.setCell hB jB _) jB _;clear hW;obtain⟨l0,aA,aB,aY,dP,iX,iY,nL,qQ⟩:=At.eight A0;obtain⟨l1,aH,aJ,dn,dw,nM,nN,qH,ug⟩:=At.eight A1;obtain⟨l2,aL,aM,aP,aQ⟩:=At.four A2;obtain⟨l3,aZ,bq,bZ,cu,dD,dF,fI,pO⟩:=At.eight A3;have dZ:=A1.thaw 0;have eu:=A1.thaw 1;have eO:=A1.thaw 2;have eP:=A1.thaw 3;have oH:=A1.thaw 4;have oI:=A1.thaw 5;have qV:=A1.thaw 6;have uh:=A1.thaw 7;have eF:=A3.thaw 0;have eG:=A3.thaw 1;have eX:=A3.thaw 2;have eY:=A3.thaw 3;have fA:=A3.thaw 4;have fB:=A3.thaw 5;have gZ:=A3.thaw 6;have vY:=A3.thaw 7;go_wp2;rw[rounds_succ];go_wp2;refine bodyPost_ret (v:=.agg #[_,_,_,_,_,_,_,_]) (by simp[results,Tryz.results114,go_sem, *];first|done|exact⟨rfl,rfl⟩|exact⟨rfl,rfl,rfl,rfl⟩|rfl) rfl ⟨VP rfl rfl rfl rfl rfl rfl rfl rfl,?_⟩
 (repeat (first|with_reducible exact hB|refine Below.setCell ?_ Z4f _))
end
open Go.Deep
open World renaming setCell → ja4,alloc → ja5,setRow → jb8
def stk(s:Re.St)(hd pr v:Pr):Pr:=v.mv (St.shift (Fx.cut v.x) (Fx.hi v.x v.w) (Fx.cut hd.x) (Fx.hi hd.x hd.w) (Fx.cut pr.x) (Fx.hi pr.x pr.w) (Fx.dY (s.c 29) pr.w) (Fx.len (s.c 29) (s.c 30) pr.w 0) (Fx.dY (s.c 25) pr.w) (Fx.len (s.c 25) (s.c 26) pr.w 0)) (St.shift (Fx.cut v.y) (Fx.hi v.y v.h) (Fx.cut hd.y) (Fx.hi hd.y hd.h) (Fx.cut pr.y) (Fx.hi pr.y pr.h) (Fx.dY (s.c 23) pr.h) (Fx.len (s.c 23) (s.c 24) pr.h 0) (Fx.dY (s.c 27) pr.h) (Fx.len (s.c 27) (s.c 28) pr.h 0))
theorem afd(W:World):(isAgg 51).run ja0 W=.ok true W:=by kernel_rfl
theorem afe(W:World):(sizeOf 51).run ja0 W=.ok 8 W:=by kernel_rfl
theorem aai{ops:Array Oper}{S:World->Prop}{o:Oper}{a:Act}(p:Operand){b:Nat}{s:Re.St}(hw:Region.wanted o (yielded ops a.tmps)=true)(ho:o.op=.load 51 p)(hp:a.eval p=.pointer (some ⟨b,23,none⟩))(h:∀X,S X->At X b (.cells (cells s) 59)):aj.Reads ja0 ops S o (.agg #[s.c 23,s.c 24,s.c 25,s.c 26,s.c 27,s.c 28,s.c 29,s.c 30]) a :=
 .inl ⟨hw,λX hX=>iH afd afe p ho hp rfl λj hj=>by
  have A:=h X hX
  match j,hj with
  | 0,_=>exact A.st 23 aN rfl
  | 1,_=>exact A.st 24 aN rfl
  | 2,_=>exact A.st 25 aN rfl
  | 3,_=>exact A.st 26 aN rfl
  | 4,_=>exact A.st 27 aN rfl
  | 5,_=>exact A.st 28 aN rfl
  | 6,_=>exact A.st 29 aN rfl
  | 7,_=>exact A.st 30 aN rfl⟩
section
variable {w:World} {t n:Nat} {L:Lay} {T:Tr.T} {m:Nat} {R:Int->Option Pr}
theorem Lm(h:fE w t L T n)(hmm:RM w m R)(mo ms:Nat)(z:Int)(hz:Wf z)(q:Pr)(s:Re.St)(hs:dU T z=s)(hp3:s.c 1≠3)(hp4:s.c 1=4)(bx qK kx ky:Int)(cl hd pr:Pr)(adl:∀X,Below w w X->Calls ja0 112 #[.agg (vw t m mo q ms),z] X λe w'=>e=.returned pr.ag/\Below X.heap.size X w'):Calls ja0 74 #[.agg (vw t m mo q ms),z,.agg (inA bx qK kx ky cl hd)] w λe w'=>e=.returned (.agg (BQ (stk s hd pr ((((R z).getD p0).mv bx qK).mv (-kx) (-ky))) cl))/\Below w w w':=by
 have kS:=λX (hb:Below w w X)=>fP (h.after hb) hz;simp only[show(T z).elim Re.zero (·.sty)=s from hs]at kS;obtain⟨p,hp⟩:=aC ((R z).getD p0);have hlk:=λX (hb:Below w w X)=>(hmm.keep hb).look hz;simp only[hp]at hlk;rw[hp];obtain⟨u,hu⟩:=aC (p.mv bx qK);have kM1:=λX=>Lh p bx qK X;simp only[hu,Pr.ag]at kM1;rw[hu];obtain⟨v,hv⟩:=aC (u.mv (-kx) (-ky));have kM2:=λX=>F5 u kx ky X;simp only[hv,Pr.ag]at kM2;rw[hv];obtain⟨ans,gy⟩:=aC (stk s hd pr v);rw[gy];have kSd:=λX=>Oj (s.c 23) (s.c 24) (s.c 25) (s.c 26) (s.c 27) (s.c 28) (s.c 29) (s.c 30) pr.w pr.h X;have kBo:=λX=>Rk v.x v.y v.w v.h hd.x hd.y hd.w hd.h pr.x pr.y pr.w pr.h (Fx.dY (s.c 23) pr.h) (Fx.len (s.c 23) (s.c 24) pr.h 0) (Fx.dY (s.c 25) pr.w) (Fx.len (s.c 25) (s.c 26) pr.w 0) (Fx.dY (s.c 27) pr.h) (Fx.len (s.c 27) (s.c 28) pr.h 0) (Fx.dY (s.c 29) pr.w) (Fx.len (s.c 29) (s.c 30) pr.w 0) X;simp only[adk]at kBo;obtain⟨dx,Pk⟩:=aC ((St.shift (Fx.cut v.x) (Fx.hi v.x v.w) (Fx.cut hd.x) (Fx.hi hd.x hd.w) (Fx.cut pr.x) (Fx.hi pr.x pr.w) (Fx.dY (s.c 29) pr.w) (Fx.len (s.c 29) (s.c 30) pr.w 0) (Fx.dY (s.c 25) pr.w) (Fx.len (s.c 25) (s.c 26) pr.w 0)));obtain⟨dy,hdy⟩:=aC ((St.shift (Fx.cut v.y) (Fx.hi v.y v.h) (Fx.cut hd.y) (Fx.hi hd.y hd.h) (Fx.cut pr.y) (Fx.hi pr.y pr.h) (Fx.dY (s.c 23) pr.h) (Fx.len (s.c 23) (s.c 24) pr.h 0) (Fx.dY (s.c 27) pr.h) (Fx.len (s.c 27) (s.c 28) pr.h 0)));have kMv:=λX=>Lh v dx dy X;simp only[show v.mv dx dy=ans by rw[<-gy];unfold stk;rw[Pk,hdy],Pr.ag]at kMv;simp only[Pk,hdy]at kBo;have HPO:=ah adl;have HSD:=ah kSd;have HBO:=ah kBo;have HMV:=ah kMv;have AO:=ah hlk;have hbd:=zf;obtain⟨q0,q1,q2,q3⟩:=q;simp only[vw,inA,BQ]at *;clear h hmm hs hp hu hv hlk adl kSd kBo kMv Pk hdy gy;go_enter Tryz.func74,Tryz.ntmps74
 go_upto_region 1 with(fail)
 generalize hW:ja5 _ _=W0;have A0:At W0 w (.cells #[t,.map (some m),.map (some mo),q0,q1,q2,q3,.map (some ms)] 98):=hW▸At.alloc (At.alloc (At.new _ _) _) _;have A1:At W0 (w.heap.size+1) (.cells #[pt bx qK,ng kx ky,cl.x,cl.y,cl.w,cl.h,hd.x,hd.y,hd.w,hd.h] 153):=hW▸At.alloc (At.new' _ bI) _;have A2:At W0 (w.heap.size+1+1) (.cells #[(),(),(),(),(),(),(),()] 42):=hW▸At.new' _ bI;have hB:Below w w W0:=hW▸aD (aD (aD aG _) _) _;clear hW;obtain⟨l0,c0,c1,c2,c3,c4,c5,c6,c7⟩:=A0.eight;have kS0:=kS W0 hB
 go_upto_region 2 with(first|(refine bD bB rfl ?_)|(refine cZ bB rfl ?_)|(refine bC bB _ rfl rfl qN ?_)|(refine dh bB _ _ rfl rfl rfl qN ?_)|(refine bJ bB _ _ rfl rfl rfl qN ?_)|(go_at_call 13;(with_reducible refine kS0.mono ?_);rintro e w3 ⟨rfl,hb3⟩))
 obtain⟨bs,hbs⟩:=aC w3.heap.size;generalize hW:jb8 _ _ _=w4;have A4:At w4 bs (.cells (cells s) 59):=hW▸hbs▸At.setRow (At.new _ _) _;have hb4:Below W0 W0 w4:=hW▸aU (aD hb3 _) hb3.size _;rw[hbs];have RG:=A4.lt;have f1:=A4.st 1 aN rfl;have hB4:=hB.trans (hb4.mono hB.size);replace A0:=A0.keep hb4;replace A1:=A1.keep hb4;replace A2:=A2.keep hb4;have p3b:(s.c 1==3)=false:=by simp[hp3]
 clear hW kS kS0 hb3 hbs hb4 hB l0 c0 c1 c2 c3 c4 c5 c6 c7
 go_upto_region 4 with(fail)
 refine aj.iJ (λa0 a' W5=>∃(Tp:Nat) (u20 u21 u22 u23 u24 u25 u26 u27 u28 u29:Value),a'={ a0 with tmps:=(((((((((((a0.tmps.setIfInBounds 20 u20).setIfInBounds 21 u21).setIfInBounds 22 u22).setIfInBounds 23 u23).setIfInBounds 24 u24).setIfInBounds 25 u25).setIfInBounds 26 u26).setIfInBounds 27 u27).setIfInBounds 28 u28).setIfInBounds 29 u29).setIfInBounds 8 (.pointer Tp)) }/\w4.heap.size<=Tp/\At W5 Tp (.cells #[v.x,v.y,v.w,v.h] 40)/\Below w4 w4 W5) ?_ ?_
 . have hlk:=λX (h:Below w4 w4 X)=>AO.out X (hB4.trans (h.mono hB4.size))
   clear AO RG f1 p3b A4 hbd HPO HSD HBO HMV;exact Z4
 rintro a' W5 ⟨Tp,u20,u21,u22,u23,u24,u25,u26,u27,u28,u29,rfl,gp,Ap,hb5⟩;have n2p:w.heap.size+1+1<Tp:=by have:=A2.lt;omega
 have mX:=hB4.trans (hb5.mono hB4.size);replace A1:=A1.keep hb5;replace A2:=A2.keep hb5;have f1':=(A4.keep hb5).st 1 aN rfl;have lb5:=(A4.keep hb5).lt;have p4b:(s.c 1==4)=true:=by simp[hp4]
 have kPo:=HPO.out W5 mX;simp only[Pr.ag]at kPo;replace A0:=A0.keep hb5;replace A4:=A4.keep hb5;clear hB4 f1 RG p3b hb5 kM1 kM2 AO HPO gp;obtain⟨l0,c0,c1,c2,c3,c4,c5,c6,c7⟩:=A0.eight
 go_upto_region 7 with(go_at_call 112;(with_reducible refine kPo.mono ?_);rintro e w6 ⟨rfl,hb6⟩)
 obtain⟨b9,iM⟩:=aC w6.heap.size;have lp6:=(Ap.keep hb6).lt;generalize hW:ja5 _ _=W7;rw[iM];have A9:At W7 b9 (.cells #[pr.x,pr.y,pr.w,pr.h] 40):=hW▸iM▸At.new _ _;have pG:Below W5 W5 W7:=hW▸aD hb6 _;have DN:=mX.trans (pG.mono mX.size);replace A1:=A1.keep pG;replace A2:=A2.keep pG;replace A4:=A4.keep pG;replace Ap:=Ap.keep pG;have l2:=A2.lt;clear hW hb6 pG mX kPo l0 c0 c1 c2 c3 c4 c5 c6 c7 f1' lb5 p4b lp6 iM A0;have HC:∀X,Below W7 W7 X->(X.cell? ⟨b9,2,none⟩=some (.int .i64 pr.w)/\X.cell? ⟨b9,3,none⟩=some (.int .i64 pr.h)/\Below W7 W7 X):=λX h=>⟨(A9.keep h).cell 2,(A9.keep h).cell 3,h⟩;have hSd:=HC _ (Below.drew aG);refine jy (S:=(λX=>X.cell? ⟨b9,2,none⟩=some (.int .i64 pr.w)/\X.cell? ⟨b9,3,none⟩=some (.int .i64 pr.h)/\Below W7 W7 X)) 14 ?_ ?_
 . exact hSd
 intro hS0;have hx:Below W7 W7 W7.drew:=Below.drew aG;clear hSd;refine mG 0 rfl (pz (.tmp 8) bB rfl rfl (λX h=>Ap.keep h.2.2)) ?_;refine mG 1 rfl (pz (.tmp 8) bB rfl rfl (λX h=>Ap.keep h.2.2)) ?_;refine aW 2 ?_;refine mG 3 rfl (xW (.tmp 38) bB rfl rfl (λX h=>⟨(A1.keep h.2.2).cell 6,(A1.keep h.2.2).cell 7,(A1.keep h.2.2).cell 8,(A1.keep h.2.2).cell 9⟩)) ?_;refine mG 4 rfl (pz (.tmp 9) bB rfl rfl (λX h=>A9.keep h.2.2)) ?_;refine aW 5 ?_;refine mG 6 rfl (aai (.tmp 41) bB rfl rfl (λX h=>A4.keep h.2.2)) ?_;refine aW 7 ?_;refine aW 8 ?_;refine aW 9 ?_;refine aW 10 ?_;refine tk1 11 ?_;refine aj.Step.call eD (HSD.out _) ?_;rintro e y11 ⟨rfl,hb⟩;replace hx:=Below.ay hx aF hb;clear hb;refine⟨_,rfl,λ_=>HC _ hx,?_⟩
 (try simp only[bV,bW,bX,tks])
 refine tk1 12 ?_;refine aj.Step.call eD (HBO.out _) ?_;rintro e y12 ⟨rfl,hb⟩;replace hx:=Below.ay hx aF hb;clear hb;refine⟨_,rfl,λ_=>HC _ hx,?_⟩
 (try simp only[bV,bW,bX,tks])
 refine tk1 13 ?_;refine aj.Step.call eD (HMV.out _) ?_;rintro e y13 ⟨rfl,hb⟩;replace hx:=Below.ay hx aF hb;clear hb;refine⟨_,rfl,λ_=>HC _ hx,?_⟩
 (try simp only[bV,bW,bX,tks])
 refine tk1 14 ?_;refine aj.Step.skip (bH (q:=0) uy (.tmp 8) (.tmp 49) rfl rfl rfl (Ap.keep hx) rfl bI (uz _ _ _ _)) ?_;rw[fM (cs:=#[v.x,v.y,v.w,v.h]) (vs:=#[ans.x,ans.y,ans.w,ans.h]) rfl];have X9:=aU (DN.trans (hx.mono DN.size)) (show w.heap.size<=Tp by omega) #[ans.x,ans.y,ans.w,ans.h];replace Ap:=At.setRow (Ap.keep hx) #[ans.x,ans.y,ans.w,ans.h];replace A1:=At.iP (A1.keep hx) (show w.heap.size+1≠Tp by omega) #[ans.x,ans.y,ans.w,ans.h];replace A2:=At.iP (A2.keep hx) (show w.heap.size+1+1≠Tp by omega) #[ans.x,ans.y,ans.w,ans.h];generalize y13.setRow Tp #[.int .i64 ans.x,.int .i64 ans.y,.int .i64 ans.w,.int .i64 ans.h]=W8 at *;refine⟨λhlt=>absurd hlt aN,?_⟩
 (try simp only[bV,bW,bX,tks])
 refine jk ?_;clear HC hS0 A4 A9 hx HSD HBO HMV l2;obtain⟨lp,e0,e1,e2,e3⟩:=At.four Ap;have l1:=A1.lt;obtain⟨i2,i3,i4,i5⟩:_/\_/\_/\_:=⟨A1.cell 2,A1.cell 3,A1.cell 4,A1.cell 5⟩;obtain⟨l2,d0,d1,d2,d3,d4,d5,d6,d7⟩:=A2.eight;have z0:=A2.thaw 0;have z1:=A2.thaw 1;have z2:=A2.thaw 2;have z3:=A2.thaw 3;have z4:=A2.thaw 4;have z5:=A2.thaw 5;have z6:=A2.thaw 6;have z7:=A2.thaw 7;go_wp2;generalize hW:ja4 _ _ _=W2;have A9:At W2 (w.heap.size+1+1) (.cells #[ans.x,ans.y,ans.w,ans.h,cl.x,cl.y,cl.w,cl.h] 42):=hW▸At.set (At.set (At.set (At.set (At.set (At.set (At.set (At.set A2 0 _) 1 _) 2 _) 3 _) 4 _) 5 _) 6 _) 7 _;have Ik:Below w w W2:=by
  rw[<-hW];exact Below.setCell (Below.setCell (Below.setCell (Below.setCell (Below.setCell (Below.setCell (Below.setCell (Below.setCell X9 (Nat.le_add_right _ 2) _) (Nat.le_add_right _ 2) _) (Nat.le_add_right _ 2) _) (Nat.le_add_right _ 2) _) (Nat.le_add_right _ 2) _) (Nat.le_add_right _ 2) _) (Nat.le_add_right _ 2) _) (Nat.le_add_right _ 2) _
 exact Zq
end
end Go.Proofs.YtfohooineeijkaaGreat.Fix
