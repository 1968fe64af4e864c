/- Proved here: what functions of the program do, in plain numbers (part 21); no conditions but those in sight. -/
import Derived.Test.YtcbcfdihofclkaaGreatQK
import Derived.Test.YtcbcfdihofclkaaGreatQ20
set_option linter.unusedVariables false
set_option linter.unusedSimpArgs false
set_option linter.unusedSectionVars false
set_option maxRecDepth 100000
namespace Go.Proofs.YtcbcfdihofclkaaGreat.Fix
open Go.ChangeShapes Go.WideShapes Go.ChangeAt Go.RowKit
theorem Ve{k L:Nat}(h:k<L):L-(intOf (.int .i64 ((k:Int)+1))).toNat<L-(intOf (.int .i64 (k:Int))).toNat:=by simp[intOf];omega
theorem CV.agj{W W':World}{P P' M:Nat->Prop}{v:Value}{c:List Fw.Ld×Int}{pm:Nat}{es:Array MapEntry}{ck:Nat}(h:CV W P v c)(hp:At W pm (.map es ck))(k:Out M W W')(hm:∀b,P b->b≠pm->¬ M b)(hq:∀b,P b->P' b):CV W' P' v c:=by
 obtain⟨A,cap,e,h⟩:=h;refine⟨A,cap,e,?_⟩;rcases h with h|⟨b,cs,e,hb,hA,hc⟩
 . exact .inl h
 . exact .inr ⟨b,cs,e,hq b hb,hA.out (hm b hb λq=>by subst q;have:=At.uniq hA hp;cases this) k,hc⟩
theorem Aj{o:Oper}{a:Act}{W W':World}{t:TypeId}(m x y:Operand)(ho:o.op=.mapUpdate t m x y){vm vx vy:Value}(hm:a.eval m=vm)(hx:a.eval x=vx)(hy:a.eval y=vy)(hr:(Instr.mapUpdate t vm vx vy).run Tryz.prog W=.ok () W'):(execOp a.eval o).run Tryz.prog W=.ok .skip W':=by
 unfold execOp;simp only[ho,hm,hx,hy,Sem.run_bind,hr,Result.andThen_ok,Sem.run_pure]
section
variable {Y:rV} {B:Int->Fw.Bx} {D:Int->Prop} {KM:World->Nat->Prop}
set_option maxHeartbeats 16000000 in
theorem KP(hK:∀(X X':World) (b:Nat),KM X b->Below X.heap.size X X'->KM X' b)(qL:∀(X X':World) (b:Nat),KM X b->Out (λq=>q≠b) X X'->KM X' b)(F:Int->Nat)(z i0 i1:Int)(hz:D z)(w:World)(hR:RO w Y B D KM)(n:Nat)(P:Nat->Prop)(hw:Kp Y B F n P w)(hP:∀b,P b->b<w.heap.size)(h0:Wf i0)(h1:Wf i1)(hne:(B z).fl≠[])(kf:FuncId)(hcf:∀(args:Array Value) (X:World),(callFunc kf args).run Tryz.prog X=.ok (.enter kf args) X)(hkm:Y.km<w.heap.size)
  (Mj:∀X,KM X Y.km->(Instr.lookup 117 (.map (some Y.km)) (.int .i64 ((B z).sty.c 0)) false).run Tryz.prog X=.ok (.func (.func kf) #[] #[]) X) (xs:List Fw.Ld) (hi:Int) (hcn:Fw.cont B (F z) z i0 i1=(xs.map (Fw.mv B i0 i1),hi)) (hDx:∀x∈xs,D x.id) (kk:Nat) (hnk:n+kk<maxLen) (hlx:xs.length<=10000)
  (g:Lit->Option Value) (hg:GM 112 w Y.pm n g) (hgv:g (klit z i0 i1)=none)
  (hkind:∀X,RO X Y B D KM->Kp Y B F n P X->(∀b,P b->b<X.heap.size)->Calls Tryz.prog kf #[.pointer (some ⟨Y.lb,0,none⟩),.agg #[.int .i64 z,.int .i64 i0,.int .i64 i1]] X λe X'=>∃R cap cs P' n',e=.returned (.agg #[.slice (some ⟨R,0,none⟩) xs.length cap,.int .i64 hi])/\X.heap.size<=R/\At X' R (.cells cs 114)/\oL cs xs/\n'<=n+kk/\Kp Y B F n' P' X'/\(∀b,P' b->P b\/X.heap.size<=b)/\¬ P' R/\Out (λb=>b=Y.pm) X X') :
  Calls Tryz.prog 119 #[.pointer (some ⟨Y.lb,0,none⟩),.agg #[.int .i64 z,.int .i64 i0,.int .i64 i1]] w λe w'=>∃v P' n',e=.returned v/\CV w' P' v (Fw.cont B (F z) z i0 i1)/\n'<=n+kk+1/\Kp Y B F n' P' w'/\(∀b,P' b->P b\/w.heap.size<=b)/\Out (λb=>b=Y.pm) w w':=by
 have HW:=Lib.hid hw;have HCN:=Lib.hid hcn;have Xp:=Lib.hid Mj;have HKD:=Lib.hid hkind;clear hw hcn Mj hkind;obtain⟨hbx,hks,_⟩:=hR.box z hz;obtain⟨es0,Ra,hpm⟩:=hR.Ey;have hbig:Below w.heap.size w ((w.alloc (.cells #[.int .i64 z,.int .i64 i0,.int .i64 i1] 112)).alloc (.cells #[.slice none 0 0,.int .i64 0] 198)):=Below.alloc' (Below.alloc' (Below.refl _ _) _) _;have hL:=λX (hb:Below ((w.alloc (.cells #[.int .i64 z,.int .i64 i0,.int .i64 i1] 112)).alloc (.cells #[.slice none 0 0,.int .i64 0] 198)).heap.size ((w.alloc (.cells #[.int .i64 z,.int .i64 i0,.int .i64 i1] 112)).alloc (.cells #[.slice none 0 0,.int .i64 0] 198)) X)=>(hR.keep hK (Below.after hbig hb)).look hz;have HR:=Lib.hid hR;have A0:At ((w.alloc (.cells #[.int .i64 z,.int .i64 i0,.int .i64 i1] 112)).alloc (.cells #[.slice none 0 0,.int .i64 0] 198)) w.heap.size (.cells #[.int .i64 z,.int .i64 i0,.int .i64 i1] 112):=At.alloc (At.new _ _) _;have A1:At ((w.alloc (.cells #[.int .i64 z,.int .i64 i0,.int .i64 i1] 112)).alloc (.cells #[.slice none 0 0,.int .i64 0] 198)) (w.heap.size+1) (.cells #[.slice none 0 0,.int .i64 0] 198):=At.new' _ Ev;have A2:=hbx.keep hbig;have AL:=hR.lay.keep hbig;have hB:=hbig;obtain⟨s,hs⟩:∃s,(B z).sty=s:=⟨_,rfl⟩;obtain⟨fl,hfl⟩:∃s,(B z).fl=s:=⟨_,rfl⟩;rw[hs]at A2;rw[hfl]at hks;obtain⟨A,cp,hvf,hI,hle,hmx,hAn⟩:=hks.ints;rw[hvf]at A2;generalize Y.va z=va at A2;generalize hib:(B z).ib=ib at A2;generalize hbz:Y.bl z=bz at *;have HS:=Lib.hid hs;have FK:=Lib.hid hfl;have qw:=Lib.hid hbx;clear hbx hR hks hs hfl hvf hib;go_enter Tryz.func119,Tryz.ntmps119
 go_upto_region 1 with(fail)
 generalize (w.alloc (.cells #[.int .i64 z,.int .i64 i0,.int .i64 i1] 112)).alloc (.cells #[.slice none 0 0,.int .i64 0] 198)=W0 at *;obtain⟨l0,aA,aB,bB⟩:=At.three A0;have Br:=AL.lt;have EU:W0.cell? ⟨Y.lb,2,none⟩=some (.map (some Y.bm)):=AL.cell 2;refine xP ?_
 (repeat (first|refine nN ?_ | refine nO ?_ (hc:=by intro w2 hS;first|with_reducible exact nI hS (jh _))|refine nP ?_))
 refine aj.bZ ?_;intro w2 hS;replace A0:=At.keep A0 hS;replace A1:=At.keep A1 hS;replace A2:=At.keep A2 hS;replace AL:=At.keep AL hS;replace hB:=Below.ay hB (ah _) hS;clear hS hL EU Br l0 aA aB bB hbig;have qp:w2.cell? ⟨bz,71,none⟩=some (.slice A fl.length cp):=aF.ext A2 16;have l2:=A2.lt;have c54:w2.cell? ⟨bz,54,none⟩=some (.int .i64 (s.c 54)):=aF.int A2 54 aG rfl;have l1:=A1.lt;have aL:w2.cell? ⟨w.heap.size+1,0,none⟩=some (.slice none 0 0):=A1.cell 0;have aM:w2.cell? ⟨w.heap.size+1,1,none⟩=some (.int .i64 0):=A1.cell 1;have fI:=A1.thaw 0;have fJ:=A1.thaw 1;have hlz:((fl.length:Int)==0)=false:=by rw[<-FK.out];simp;exact hne
 go_upto_region 4 with(fail)
 obtain⟨l0,aA,aB,bB⟩:=At.three A0;have Br:=AL.lt;have ly4:w2.cell? ⟨Y.lb,4,none⟩=some (.map (some Y.pm)):=AL.cell 4;have hzf:=HR.out.wf z hz;have hKL:=λX (hb:Below w2.heap.size w2 X)=>(hg.keep (Below.ay hB (ah _) hb)).look_ok BZ Tryz.underlying118 (yF X) (KG hzf h0 h1);simp only[hgv,Option.getD_none,Option.isSome_none,NH]at hKL;have hS0:Below w2.heap.size w2 w2.drew:=Below.drew (Below.refl _ _);refine kQ (S:=λX=>Below w2.heap.size w2 X) 12 ?_ ?_
 . exact hS0
 intro hS1;clear hS0;refine aH 0 ?_;refine aH 1 ?_;refine aH 2 ?_;refine aH 3 ?_;refine aH 4 ?_;refine aH 5 ?_;refine aH 6 ?_;refine aH 7 ?_;refine aH 8 ?_;refine tk1 9 ?_;refine aj.Step.value dQ ?_;have AN:At (w2.alloc (.cells #[.slice none 0 0,.int .i64 0] 198)).drew w2.heap.size (.cells #[.slice none 0 0,.int .i64 0] 198):=At.drew (At.new _ _);have hS2:Below w2.heap.size w2 (w2.alloc (.cells #[.slice none 0 0,.int .i64 0] 198)).drew:=Below.drew (Below.alloc' (Below.refl _ _) _);have Y3:=At.keep A1 hS2;have l1w:=l1;refine⟨λ_=>hS2,?_⟩
 (try simp only[bF,bG,bH,tks])
 generalize (w2.alloc (.cells #[.slice none 0 0,.int .i64 0] 198)).drew=w3 at *;obtain⟨ln,cn0,cn1⟩:=At.two AN;have zn0:=AN.thaw 0;have zn1:=AN.thaw 1;clear aL aM fI fJ l1;refine tk1 10 ?_;refine aj.Step.skip dQ ?_;have uG:Below w2.heap.size w2 ((w3.setCell ⟨w2.heap.size,0,none⟩ (.slice none 0 0)).setCell ⟨w2.heap.size,1,none⟩ (.int .i64 0)):=Below.setCell (Below.setCell hS2 eY _) eY _;have AN2:=At.set (At.set AN 0 (.slice none 0 0)) 1 (.int .i64 0);replace Y3:=At.off (At.off Y3 (n:=w2.heap.size) ak 0 (.slice none 0 0)) (n:=w2.heap.size) ak 1 (.int .i64 0);refine⟨λ_=>uG,?_⟩
 (try simp only[Act.put])
 generalize (w3.setCell ⟨w2.heap.size,0,none⟩ (.slice none 0 0)).setCell ⟨w2.heap.size,1,none⟩ (.int .i64 0)=w4 at *;clear hS2 AN ln cn0 cn1 zn0 zn1 hS1;refine aH 11 ?_;refine jY ?_;replace hB:=Below.ay hB (ah _) uG;replace A0:=At.keep A0 uG;replace A2:=At.keep A2 uG;replace AL:=At.keep AL uG;have hcw:w.heap.size+1<w2.heap.size:=l1w;clear uG hKL qp l2 c54 l0 aA aB bB Br ly4 l1w;generalize hnc:w2.heap.size=nc at *;clear hnc
 go_upto_region 6 with(fail)
 have hpl:=hP _ HW.out.1;have lp0:w.heap.size≠Y.pm:=by omega
 have lp1:w.heap.size+1≠Y.pm:=by omega
 have lpn:nc≠Y.pm:=by omega
 have Jj:bz≠Y.pm:=λq=>by have:=At.uniq qw.out (q▸hpm);cases this
 have lbp:Y.lb≠Y.pm:=λq=>by have:=At.uniq HR.out.lay (q▸hpm);cases this
 have ahu:=qw.out.lt;have ahv:=HR.out.lay.lt;have lbn:bz≠nc:=by omega
 have lln:Y.lb≠nc:=by omega
 have l0n:w.heap.size≠nc:=by omega
 obtain⟨l0,aA,aB,bB⟩:=At.three A0;have Br:=AL.lt;have ly3:w4.cell? ⟨Y.lb,3,none⟩=some (.map (some Y.km)):=AL.cell 3;have l2:=A2.lt;have c00:w4.cell? ⟨bz,0,none⟩=some (.int .i64 (s.c 0)):=aF.int A2 0 aG rfl;have agk:=hK _ _ _ HR.out.kinds hB
 have hkl:=λX (hO:Out (λb=>b=Y.pm\/b=nc) w4 X)=>Xp.out X (qL _ _ _ agk ⟨hO.1,λb hb hn=>by
  have hb':b=Y.km:=Classical.byContradiction hn;subst hb'
  exact hO.2 _ hb (λq=>by rcases q with q|q;exact HR.out.pmk q.symm;omega)⟩)
 rw[HS.out]at hkl;have hS0:Out (λb=>b=Y.pm\/b=nc) w4 w4.drew:=(Out.refl _ _).drew;refine kQ (S:=λX=>Out (λb=>b=Y.pm\/b=nc) w4 X) 14 ?_ ?_
 . exact hS0
 intro hS1;clear hS0;refine SG 0 ?_;refine SG 1 ?_;refine SG 2 ?_;refine SG 3 ?_;refine SG 4 ?_;refine SG 5 ?_;refine SG 6 ?_;refine SG 7 ?_;refine SG 8 ?_;refine SG 9 ?_;refine SG 10 ?_;refine SG 11 ?_;have hB4:Below w.heap.size w w4.drew:=Below.drew hB;have hcall:=HKD.out w4.drew (HR.out.keep hK hB4) (HW.out.out (M:=λ_=>False) (Out.of_below hB4) λ_ _ q=>q) (λb hb=>aR (hP b hb) hB4.size);refine tk1 12 ?_;refine aj.Step.call (f:=kf) dQ hcall ?_;rintro e w6 ⟨R,cap,cs,P5,n5,rfl,hRn,hAR,hrow,hn5,hK5,Ca,Vf,Jp⟩;have mG:Out (λb=>b=Y.pm) w4 w6:=Out.trans (Out.refl _ w4).drew Jp;refine⟨_,rfl,λ_=>mG.mono λb _ q => .inl q,?_⟩;clear hcall Jp hkl hS1
 (try simp only[bF,bG,bH,tks])
 replace A0:=A0.out lp0 mG;have AN3:=AN2.out lpn mG;obtain⟨ln,cn0,cn1⟩:=At.two AN3;have zn0:=AN3.thaw 0;have zn1:=AN3.thaw 1;refine tk1 13 ?_;refine aj.Step.skip dQ ?_;refine⟨λ_=>Out.set (Out.set (mG.mono λb _ q => .inl q) (.inr rfl) 0 _) (.inr rfl) 1 _,?_⟩
 (try simp only[Act.put])
 refine jY ?_;have AN4:At ((w6.setCell ⟨nc,0,none⟩ (.slice (some ⟨R,0,none⟩) xs.length cap)).setCell ⟨nc,1,none⟩ (.int .i64 hi)) nc (.cells #[.slice (some ⟨R,0,none⟩) xs.length cap,.int .i64 hi] 198):=At.set (At.set AN3 0 _) 1 _;have ahw:w4.heap.size<=R:=hRn;have ahx:nc<w4.heap.size:=AN2.lt;have hQ:Out (λb=>b=nc\/b=R) w6 ((w6.setCell ⟨nc,0,none⟩ (.slice (some ⟨R,0,none⟩) xs.length cap)).setCell ⟨nc,1,none⟩ (.int .i64 hi)):=Out.set (Out.set (Out.refl _ _) (.inl rfl) 0 _) (.inl rfl) 1 _;replace A0:=At.off (At.off A0 (n:=nc) l0n 0 (.slice (some ⟨R,0,none⟩) xs.length cap)) (n:=nc) l0n 1 (.int .i64 hi);have agl:=At.off (At.off (At.out Y3 lp1 mG) (n:=nc) ak 0 (.slice (some ⟨R,0,none⟩) xs.length cap)) (n:=nc) ak 1 (.int .i64 hi);have abR:R≠nc:=by omega
 replace hAR:=At.off (At.off hAR (n:=nc) abR 0 (.slice (some ⟨R,0,none⟩) xs.length cap)) (n:=nc) abR 1 (.int .i64 hi);generalize (w6.setCell ⟨nc,0,none⟩ (.slice (some ⟨R,0,none⟩) xs.length cap)).setCell ⟨nc,1,none⟩ (.int .i64 hi)=w7 at *;clear cn0 cn1 zn0 zn1 ln AN3 l0 aA aB bB Br ly3 l2 c00;obtain⟨ln,cn0,cn1⟩:=At.two AN4;have zn0:=AN4.thaw 0;have zn1:=AN4.thaw 1;have adR:=Lib.hid hlx;have adS:Out (λb=>b=Y.pm\/w.heap.size<=b) w w7:=Out.trans' ((Out.of_below hB (M:=λb=>b=Y.pm\/w.heap.size<=b)).trans (mG.mono λb _ q => .inl q)) hQ λb hb q=>by rcases q with rfl|rfl<;>omega
 obtain⟨es7,ck7,adT⟩:∃es ck,At w7 Y.pm (.map es ck):=by
  obtain⟨g5,hg5,_⟩:=hK5.2;obtain⟨es,ck,q⟩:=hg5.obj;exact⟨es,ck,q.out (by rintro(e|e)<;>omega) hQ⟩
 have lR0:w.heap.size≠R:=by omega
 have lRn:nc≠R:=λq=>abR q.symm;have lRp:Y.pm≠R:=by omega
 clear hlx;go_wp2
 go_loopw [56] (λi wr=>∃k cs',k<=xs.length/\i=.int .i64 (k:Nat)/\At wr R (.cells cs' 114)/\oL cs' (NP (Fw.mv B i0 i1) xs k)/\Out (λb=>b=R) w7 wr) (λi _=>xs.length-(intOf i).toNat)
 case atStart=>exact⟨0,cs,by omega,rfl,hAR,by rw[Vb];exact hrow,Out.refl _ _⟩
 case round =>
  obtain⟨k,cs',hkl,rfl,hA',hrow',Ez⟩:=hrel;have AN5:=AN4.out lRn Ez;have A05:=A0.out lR0 Ez;by_cases hlt:k<xs.length
  . have hrl:k<(NP (Fw.mv B i0 i1) xs k).length:=by rw[Dz];exact hlt
    have hge:=Y5 (Fw.mv B i0 i1) xs hlt;obtain⟨x,hx⟩:∃x,xs[k]=x:=⟨_,rfl⟩;have ho:=hrow'.2 k hrl 0 ak;have h5:=hrow'.2 k hrl 5 ak;have h6:=hrow'.2 k hrl 6 ak;rw[hge,hx]at ho h5 h6;have hstep:=λx0 x1=>hrow'.step hrl x0 x1;rw[hge,hx]at hstep;have hsu:=Vd (Fw.mv B i0 i1) xs hlt;rw[hx]at hsu;have hDk:D x.id:=hDx x (hx▸List.getElem_mem _);have adU:RO wr Y B D KM:=HR.out.fresh qL hkm (Out.trans' adS Ez λb hb q=>by rcases q with rfl;omega) ⟨es7,ck7,adT.out lRp Ez⟩;have hmv:=Rl hK x.id i0 i1 x.a0 x.a1 hDk R (k*7) cs' wr.drew (adU.keep hK (Below.drew (Below.refl _ _))) (At.drew hA') ho h5 h6;have hfx:∀a b,a=(if (B x.id).sty.c 1=1 then Fw.yZ (B x.id).sty 0 i0 x.a0 else x.a0)->b=(if (B x.id).sty.c 1=1 then Fw.yZ (B x.id).sty 1 i1 x.a1 else x.a1)->({ x with a0:=a,a1:=b }:Fw.Ld)=Fw.mv B i0 i1 x:=by
     rintro a b rfl rfl;unfold Fw.mv;split<;>rfl
    have HR9:Hid (oL ((cs'.setIfInBounds (k*7+5) (.int .i64 (if (B x.id).sty.c 1=1 then Fw.yZ (B x.id).sty 0 i0 x.a0 else x.a0))).setIfInBounds (k*7+6) (.int .i64 (if (B x.id).sty.c 1=1 then Fw.yZ (B x.id).sty 1 i1 x.a1 else x.a1))) (NP (Fw.mv B i0 i1) xs (k+1))):=Lib.hid (by
     have q:=hstep (if (B x.id).sty.c 1=1 then Fw.yZ (B x.id).sty 0 i0 x.a0 else x.a0) (if (B x.id).sty.c 1=1 then Fw.yZ (B x.id).sty 1 i1 x.a1 else x.a1);rw[hfx _ _ rfl rfl,hsu]at q
     exact q)
    have Jh:=Lib.hid hlt;have HMV:=Lib.hid hmv;have hcmp:(k:Int)<(xs.length:Int):=by omega
    clear hstep hsu hfx hmv hge ho h5 h6 hrow' hrl hx adU;obtain⟨l5,d0,d1⟩:=At.two AN5;obtain⟨l6,e0,e1,e2⟩:=At.three A05;have Bt:=hA'.lt
    go_upto_region 10 with(fail)
    have hS0:Out (λb=>b=R) wr wr.drew:=(Out.refl _ _).drew;refine kQ (S:=λX=>Out (λb=>b=R) wr X) 8 ?_ ?_
    . exact hS0
    intro hS1;clear hS0;refine jD 0 ?_;refine jD 1 ?_;refine jD 2 ?_;refine jD 3 ?_;refine jD 4 ?_;refine jD 5 ?_;refine jD 6 ?_;refine tk1 7 ?_;refine aj.Step.call dQ HMV.out ?_;rintro e w8 ⟨rfl,Nt,hO8⟩;have Jl:Out (λb=>b=R) wr w8:=(Out.refl _ wr).drew.trans hO8;refine⟨_,rfl,λ_=>Jl,?_⟩
    (try simp only[bF,bG,bH,tks])
    refine jY ?_;clear hS1 hO8 d0 d1 e0 e1 e2 l5 l6;have hwk:IntKind.i64.wrap ((k:Int)+1)=(k:Int)+1:=by have q1:=adR.out;have q2:=Jh.out;exact IntWalk.i64_in _ ak
    have ahy:wrap64 ((k:Int)+1)=(k:Int)+1:=by rw[<-IntWalk.i64_left];exact hwk
    go_wp2
    go_roundw
    case rel=>exact⟨k+1,_,Nat.succ_le_of_lt Jh.out,by have q1:=adR.out;have q2:=Jh.out;go_num,Nt,HR9.out,Ez.trans Jl⟩
    case measure=>exact Ve Jh.out
  . obtain rfl:k=xs.length:=by omega
    have HRW:=Lib.hid hrow';have agm:Out (λb=>b=Y.pm\/w.heap.size<=b) w wr:=Out.trans' adS Ez λb hb q=>by rcases q with rfl;omega
    have hQr:Out (λb=>b=nc\/b=R) w6 wr:=hQ.trans (Ez.mono λb _ q => .inr q)
    have hKr:Kp Y B F n5 P5 wr:=hK5.out hQr λb hb=>by
     rintro(rfl|rfl)
     . rcases Ca _ hb with q|q
       . exact absurd (hP _ q) ak
       . simp only[World.size_drew]at q;omega
     . exact Vf hb
    obtain⟨hpp,g5,hg5,agn⟩:=hKr;have hzf:=HR.out.wf z hz;obtain⟨Wp,np,hnp,hput,hgp,hOp⟩:=(hg5.keep (Below.drew (Below.refl _ _))).put (W:=wr.drew) (v:=.agg #[.slice (some ⟨R,0,none⟩) xs.length cap,.int .i64 hi]) BZ Tryz.underlying118 ak (KG hzf h0 h1);have ALr:=(AL.out lbp mG).out (M:=λb=>b=nc\/b=R) (by rintro(rfl|rfl)<;>omega) hQr;obtain⟨l5,d0,d1⟩:=At.two AN5;obtain⟨l6,e0,e1,e2⟩:=At.three A05;have llr:=ALr.lt;have ly4:wr.cell? ⟨Y.lb,4,none⟩=some (.map (some Y.pm)):=ALr.cell 4;clear hrow'
    go_upto_region 12 with(fail)
    have hS0:Out (λb=>b=Y.pm) wr wr.drew:=(Out.refl _ _).drew;refine kQ (S:=λX=>Out (λb=>b=Y.pm) wr X) 7 ?_ ?_
    . exact hS0
    intro hS1;clear hS0;refine jD 0 ?_;refine jD 1 ?_;refine jD 2 ?_;refine jD 3 ?_;refine jD 4 ?_;refine jD 5 ?_;refine tk1 6 ?_;refine aj.Step.skip (Aj (.tmp 71) (.tmp 72) (.tmp 73) rfl rfl rfl rfl hput) ?_;have Rn:Out (λb=>b=Y.pm) wr Wp:=(Out.refl _ wr).drew.trans hOp;refine⟨λ_=>Rn,?_⟩
    (try simp only[Act.put])
    refine jY ?_;have SK:Out (λb=>b=Y.pm\/w.heap.size<=b) w Wp:=Out.trans' agm Rn λb hb q => .inl q;have hAr:=hA'.out (M:=λb=>b=Y.pm) (λq=>lRp q.symm) Rn;have AN6:=AN5.out lpn Rn;have A16:=At.out (At.out agl ak Ez) lp1 Rn;obtain⟨l7,f0,f1⟩:=At.two AN6;obtain⟨l8,k0,k1⟩:=At.two A16;have zk0:=A16.thaw 0;have zk1:=A16.thaw 1;clear d0 d1 e0 e1 e2 l5 l6 ly4 llr hS1;go_wp2;generalize hW:World.setCell _ _ _=W9;have Jl:Out (λb=>b=w.heap.size+1) Wp W9:=hW▸Out.set (M:=λb=>b=w.heap.size+1) (Out.set (M:=λb=>b=w.heap.size+1) (Out.refl _ _) rfl 0 _) rfl 1 _;have A19:At W9 (w.heap.size+1) (.cells #[.slice (some ⟨R,0,none⟩) xs.length cap,.int .i64 hi] 198):=hW▸At.set (At.set A16 0 _) 1 _;obtain⟨l9,g0,g1⟩:=At.two A19
    have agp:¬ P5 (w.heap.size+1):=λhb=>by
     rcases Ca _ hb with q|q
     . exact absurd (hP _ q) ak
     . simp only[World.size_drew]at q;omega
    have hP7:∀b,(P5 b\/b=R)->¬ (b=w.heap.size+1):=λb hb q=>by
     subst q;rcases hb with hb|hb
     . exact agp hb
     . omega
    have hcv:CV W9 (λb=>P5 b\/b=R) (.agg #[.slice (some ⟨R,0,none⟩) xs.length cap,.int .i64 hi]) (Fw.cont B (F z) z i0 i1):=by
     rw[HCN.out];refine⟨some ⟨R,0,none⟩,cap,by simp,.inr ⟨R,cs',rfl,.inr rfl,hAr.out (λq=>by omega) Jl,?_⟩⟩;have q:=HRW.out;rw[Y4]at q;exact q.2
    refine bodyPost_ret (v:=.agg #[.slice (some ⟨R,0,none⟩) xs.length cap,.int .i64 hi]) Z54 rfl ⟨_,(λb=>P5 b\/b=R),np,rfl,hcv,by omega,?_,?_,?_⟩
    . refine⟨.inl hpp,_,hgp.out (λq=>lp1 q.symm) Jl,λz' a b v' hz' ha hb hg' => ?_⟩
      by_cases e:klit z' a b=klit z i0 i1
      . obtain⟨rfl,rfl,rfl⟩:=UU hz' ha hb hzf h0 h1 e
        rw[jm]at hg';injection hg' with hg';subst hg';exact hcv
      . rw[jK e]at hg'
        exact(CV.agj (P':=P5) (agn _ _ _ _ hz' ha hb hg') (adT.out lRp Ez) Rn (λb _ hn q=>hn q) λ_ q=>q).out Jl (λb hb=>hP7 b (.inl hb)) λb hb => .inl hb
    . intro b hb
      rcases hb with hb|rfl
      . rcases Ca _ hb with q|q
        . exact .inl q
        . simp only[World.size_drew]at q;exact .inr (aC hB.size q)
      . exact .inr ak
    . exact(Out.trans' SK Jl λb hb q=>by omega).mono λb hb q=>by rcases q with q|q;exact q;omega
end
theorem Cg:Maps.Keyed Tryz.prog 38:=Maps.int_keyed Tryz.underlying38
theorem PO{z:Int}(h:Wf z):keyOf Tryz.prog 38 (.int .i64 z)=some (.int .i64 z):=Maps.keyOf_int_mk Tryz.underlying38 h
def fnv(f:FuncId):Value:=.func (.func f) #[] #[]
def mW(W:World)(b:Nat):Prop:=∃n g,GM 38 W b n g/\g (.int .i64 0)=some (fnv 171)/\g (.int .i64 1)=some (fnv 172)/\g (.int .i64 2)=some (fnv 173)
theorem mW.keep(X X':World)(b:Nat)(h:mW X b)(hb:Below X.heap.size X X'):mW X' b:=by
 obtain⟨n,g,h1,h2⟩:=h;exact⟨n,g,h1.keep hb,h2⟩
theorem mW.out(X X':World)(b:Nat)(h:mW X b)(k:Out (λq=>q≠b) X X'):mW X' b:=by
 obtain⟨n,g,h1,h2⟩:=h;exact⟨n,g,h1.out (λq=>q rfl) k,h2⟩
theorem jI(w:World):Calls Tryz.prog 117 #[] w λe w'=>(∃b,e=.returned (.map (some b))/\w.heap.size<=b/\mW w' b)/\Below w.heap.size w w':=by
 have hmm:=@run_makeMap Tryz.prog;obtain⟨W1,n1,k1,p1,g1,o1⟩:=(GM.made 38 w).put (v:=fnv 171) Cg Tryz.underlying117 (by simp[maxLen]) (PO (z:=0) Z57);obtain⟨W2,n2,k2,p2,g2,o2⟩:=g1.put (v:=fnv 172) Cg Tryz.underlying117 OZ (PO (z:=1) Z57);obtain⟨W3,n3,k3,p3,g3,o3⟩:=g2.put (v:=fnv 173) Cg Tryz.underlying117 OZ (PO (z:=2) Z57);have hO:Out (λb=>w.heap.size<=b) w W3:=Out.trans' (Out.trans' (Out.trans' (Out.of_below (M:=λb=>w.heap.size<=b) (Below.alloc' (Below.refl _ _) (.map #[] 0))) o1 λb _ q=>by omega) o2 λb _ q=>by omega) o3 λb _ q=>by omega
 have hB:Below w.heap.size w W3:=hO.below (ah _) λb hb q=>by omega
 have hne:∀{a b:Int},a≠b->Lit.int .i64 a≠Lit.int .i64 b:=λh e=>h (by injection e);have hK:mW W3 w.heap.size:=⟨n3,_,g3,by rw[jK (hne aG),jK (hne aG),jm],by rw[jK (hne aG),jm],by rw[jm]⟩;have HK:=Lib.hid hK;have HB:=Lib.hid hB;clear hK hB hO g1 g2 g3 o1 o2 o3 hne k1 k2 k3;unfold fnv at p1 p2 p3;go_enter Tryz.func117,Tryz.ntmps117
 go_wp2
 go_ret
 exact⟨⟨_,rfl,ah _,HK.out⟩,HB.out⟩
theorem mW.look{X:World}{b:Nat}(h:mW X b)(z:Int)(f:FuncId)(hz:(z=0/\f=171)\/(z=1/\f=172)\/(z=2/\f=173)):(Instr.lookup 117 (.map (some b)) (.int .i64 z) false).run Tryz.prog X=.ok (.func (.func f) #[] #[]) X:=by
 obtain⟨n,g,h1,h2,h3,h4⟩:=h;have hw:Wf z:=by rw[eT];omega
 rw[h1.look Cg Tryz.underlying117 (z:=.nilFunc) fV (PO hw)];rcases hz with⟨rfl,rfl⟩|⟨rfl,rfl⟩|⟨rfl,rfl⟩
 . rw[h2];rfl
 . rw[h3];rfl
 . rw[h4];rfl
section
variable {Y:rV} {B:Int->Fw.Bx} {F:Int->Nat} {D:Int->Prop} {KM:World->Nat->Prop} {w W W':World} {n n':Nat} {P0 P P':Nat->Prop}
structure qV(Y:rV)(B:Int->Fw.Bx)(F:Int->Nat)(w:World)(P0:Nat->Prop)(n:Nat)(P:Nat->Prop)(W:World):Prop where
 out:Out (λb=>b=Y.pm\/w.heap.size<=b) w W
 kp:Kp Y B F n P W
 lt:∀b,P b->b<W.heap.size
 new:∀b,P b->P0 b\/w.heap.size<=b
theorem Kp.cut(h:Kp Y B F n P W):Kp Y B F n (λb=>P b/\b<W.heap.size) W:=by
 obtain⟨hp,g,h1,h2⟩:=h;refine⟨⟨hp,h1.lt⟩,g,h1,λz a b v hz ha hb hg => ?_⟩;obtain⟨A,cap,e,q⟩:=h2 z a b v hz ha hb hg;refine⟨A,cap,e,?_⟩;rcases q with q|⟨r,cs,e1,e2,e3,e4⟩
 . exact .inl q
 . exact .inr ⟨r,cs,e1,⟨e2,e3.lt⟩,e3,e4⟩
theorem Kp.pm(h:Kp Y B F n P W):Y.pm<W.heap.size/\∃es ck,At W Y.pm (.map es ck):=by
 obtain⟨hp,g,h1,h2⟩:=h;exact⟨h1.lt,h1.obj⟩
theorem qV.start(h:Kp Y B F n P w)(hP:∀b,P b->b<w.heap.size):qV Y B F w P n P w:=⟨Out.refl _ _,h,hP,λb hb => .inl hb⟩
theorem qV.size(h:qV Y B F w P0 n P W):w.heap.size<=W.heap.size:=h.out.size
theorem qV.ro(qL:∀(X X':World) (b:Nat),KM X b->Out (λq=>q≠b) X X'->KM X' b)(hR:RO w Y B D KM)(hkm:Y.km<w.heap.size)(h:qV Y B F w P0 n P W):RO W Y B D KM:=hR.fresh qL hkm h.out h.kp.pm.2
theorem qV.own{M:Nat->Prop}(h:qV Y B F w P0 n P W)(k:Out M W W')(hm:∀b,b<W.heap.size->M b->¬ P b/\w.heap.size<=b):qV Y B F w P0 n P W' :=
 ⟨Out.trans' h.out k λb hb q => .inr (hm b (aR hb h.size) q).2,h.kp.out k λb hb q=>(hm b (h.lt b hb) q).1 hb,λb hb=>aR (h.lt b hb) k.size,h.new⟩
theorem qV.after(h:qV Y B F w P0 n P W)(k:Below W.heap.size W W'):qV Y B F w P0 n P W':=h.own (M:=λ_=>False) (Out.of_below k) λ_ _ q=>q.elim
theorem qV.call(h:qV Y B F w P0 n P W)(k1:Kp Y B F n' P' W')(k2:∀b,P' b->P b\/W.heap.size<=b)(k3:Out (λb=>b=Y.pm) W W'):qV Y B F w P0 n' (λb=>P' b/\b<W'.heap.size) W' :=
 ⟨Out.trans' h.out k3 λb hb q => .inl q,k1.cut,λb hb=>hb.2,λb hb=>by
  rcases k2 b hb.1 with q|q
  . exact h.new b q
  . exact .inr (aC h.size q)⟩
theorem qV.fin(h:qV Y B F w P0 n P W):Out (λb=>b=Y.pm) w W:=h.out.mono λb hb q=>by
 rcases q with q|q
 . exact q
 . omega
def vF(Y:rV)(B:Int->Fw.Bx)(F:Int->Nat)(D:Int->Prop)(KM:World->Nat->Prop)(f:Nat):Prop :=
 ∀(z r0 r1 t0 t1:Int) (w:World) (n:Nat) (P:Nat->Prop),D z->F z=f->RO w Y B D KM->Kp Y B F n P w->(∀b,P b->b<w.heap.size)->Y.km<w.heap.size->n+Fw.cst B f z<maxLen ->
  Calls Tryz.prog 62 #[.pointer (some ⟨Y.lb,0,none⟩),.int .i64 z,.agg #[.int .i64 r0,.int .i64 r1],.agg #[.int .i64 t0,.int .i64 t1]] w λe w' =>
   e=.returned (.agg (eF (Fw.lay B f z r0 r1 t0 t1)))/\∃n' P',n'<=n+Fw.cst B f z/\Kp Y B F n' P' w'/\(∀b,P' b->P b\/w.heap.size<=b)/\Out (λb=>b=Y.pm) w w'
end
end Go.Proofs.YtcbcfdihofclkaaGreat.Fix
