/- What functions of the program do, in plain numbers, part 13; no conditions. -/
import Derived.Test.YtmidaiklolmkcaaGreatM12
set_option linter.unusedVariables false
set_option linter.unusedSimpArgs false
set_option linter.unusedSectionVars false
set_option maxRecDepth 100000
set_option maxHeartbeats 16000000
namespace Go.Proofs.YtmidaiklolmkcaaGreat.Fix
open Go.ChangeShapes Go.WideShapes Go.ChangeAt Go.RowKit
theorem VH{k L:Nat}(h:k<L):L-(intOf (.int .i64 ((k:Int)+1))).toNat<L-(intOf (.int .i64 (k:Int))).toNat:=by simp[intOf];omega
theorem CV.ahc{W W':World}{P P' M:Nat->Prop}{v:Value}{c:List Fw.Ld×Int}{pm:Nat}{es:Array MapEntry}{ck:Nat}(h:CV W P v c)(hp:At W pm (.map es ck))(k:Out M W W')(hm:∀b,P b->b≠pm->¬ M b)(hq:∀b,P b->P' b):CV W' P' v c:=by
 obtain⟨A,cap,e,h⟩:=h;refine⟨A,cap,e,?_⟩;rcases h with h|⟨b,cs,e,hb,hA,hc⟩
 . exact .inl h
 . exact .inr ⟨b,cs,e,hq b hb,hA.out (hm b hb λq=>by subst q;have:=At.uniq hA hp;cases this) k,hc⟩
theorem Ba{o:Oper}{a:Act}{W W':World}{t:TypeId}(m x y:Operand)(ho:o.op=.mapUpdate t m x y){vm vx vy:Value}(hm:a.eval m=vm)(hx:a.eval x=vx)(hy:a.eval y=vy)(hr:(Instr.mapUpdate t vm vx vy).run Tryz.prog W=.ok () W'):(execOp a.eval o).run Tryz.prog W=.ok .skip W':=by
 unfold execOp;simp only[ho,hm,hx,hy,Sem.run_bind,hr,Result.andThen_ok,Sem.run_pure]
section
variable {Y:sj} {B:Int->Fw.Bx} {D:Int->Prop} {KM:World->Nat->Prop}
theorem Lj(hK:∀(X X':World) (b:Nat),KM X b->Below X.heap.size X X'->KM X' b)(qR:∀(X X':World) (b:Nat),KM X b->Out (λq=>q≠b) X X'->KM X' b)(F:Int->Nat)(z i0 i1:Int)(hz:D z)(w:World)(hR:RO w Y B D KM)(n:Nat)(P:Nat->Prop)(hw:Kp Y B F n P w)(hP:∀b,P b->b<w.heap.size)(h0:Wf i0)(h1:Wf i1)(hne:(B z).fl≠[])(kf:FuncId)(hcf:∀(args:Array Value) (X:World),(callFunc kf args).run Tryz.prog X=.ok (.enter kf args) X)(hkm:Y.km<w.heap.size)
  (MP:∀X,KM X Y.km->(Instr.lookup 80 (.map (some Y.km)) (.int .i64 ((B z).sty.c 0)) false).run Tryz.prog X=.ok (.func (.func kf) #[] #[]) X) (xs:List Fw.Ld) (hi:Int) (hcn:Fw.cont B (F z) z i0 i1=(xs.map (Fw.mv B i0 i1),hi)) (hDx:∀x∈xs,D x.id) (kk:Nat) (hnk:n+kk<maxLen) (hlx:xs.length<=10000)
  (g:Lit->Option Value) (hg:GM 75 w Y.pm n g) (hgv:g (klit z i0 i1)=none)
  (hkind:∀X,RO X Y B D KM->Kp Y B F n P X->(∀b,P b->b<X.heap.size)->Calls Tryz.prog kf #[.pointer (some ⟨Y.lb,0,none⟩),.agg #[.int .i64 z,.int .i64 i0,.int .i64 i1]] X λe X'=>∃R cap cs P' n',e=.returned (.agg #[.slice (some ⟨R,0,none⟩) xs.length cap,.int .i64 hi])/\X.heap.size<=R/\At X' R (.cells cs 77)/\oV cs xs/\n'<=n+kk/\Kp Y B F n' P' X'/\(∀b,P' b->P b\/X.heap.size<=b)/\¬ P' R/\Out (λb=>b=Y.pm) X X') :
  Calls Tryz.prog 47 #[.pointer (some ⟨Y.lb,0,none⟩),.agg #[.int .i64 z,.int .i64 i0,.int .i64 i1]] w λe w'=>∃v P' n',e=.returned v/\CV w' P' v (Fw.cont B (F z) z i0 i1)/\n'<=n+kk+1/\Kp Y B F n' P' w'/\(∀b,P' b->P b\/w.heap.size<=b)/\Out (λb=>b=Y.pm) w w':=by
 have HW:=ah hw;have HCN:=ah hcn;have Yc:=ah MP;have HKD:=ah hkind;clear hw hcn MP hkind;obtain⟨hbx,hks,_⟩:=hR.box z hz;obtain⟨es0,RG,hpm⟩:=hR.EO;have hbig:Below w.heap.size w ((w.alloc (.cells #[.int .i64 z,.int .i64 i0,.int .i64 i1] 75)).alloc (.cells #[.slice none 0 0,.int .i64 0] 120)):=Below.alloc' (Below.alloc' aF _) _;have hL:=λX (hb:Below ((w.alloc (.cells #[.int .i64 z,.int .i64 i0,.int .i64 i1] 75)).alloc (.cells #[.slice none 0 0,.int .i64 0] 120)).heap.size ((w.alloc (.cells #[.int .i64 z,.int .i64 i0,.int .i64 i1] 75)).alloc (.cells #[.slice none 0 0,.int .i64 0] 120)) X)=>(hR.keep hK (Below.after hbig hb)).look hz;have HR:=ah hR;have A0:At ((w.alloc (.cells #[.int .i64 z,.int .i64 i0,.int .i64 i1] 75)).alloc (.cells #[.slice none 0 0,.int .i64 0] 120)) w.heap.size (.cells #[.int .i64 z,.int .i64 i0,.int .i64 i1] 75):=At.alloc (At.new _ _) _;have A1:At ((w.alloc (.cells #[.int .i64 z,.int .i64 i0,.int .i64 i1] 75)).alloc (.cells #[.slice none 0 0,.int .i64 0] 120)) (w.heap.size+1) (.cells #[.slice none 0 0,.int .i64 0] 120):=At.new' _ EM;have A2:=hbx.keep hbig;have AL:=hR.lay.keep hbig;have hB:=hbig;obtain⟨s,hs⟩:=aA ((B z).sty);obtain⟨fl,hfl⟩:=aA ((B z).fl);rw[hs]at A2;rw[hfl]at hks;obtain⟨A,cp,hvf,hI,hle,hmx,hAn⟩:=hks.ints;rw[hvf]at A2;generalize Y.va z=va at A2;generalize hib:(B z).ib=ib at A2;generalize hbz:Y.bl z=bz at *;have HS:=ah hs;have F5:=ah hfl;have qE:=ah hbx;clear hbx hR hks hs hfl hvf hib;go_enter Tryz.func47,Tryz.ntmps47
 go_upto_region 1 with(fail)
 generalize (w.alloc (.cells #[.int .i64 z,.int .i64 i0,.int .i64 i1] 75)).alloc (.cells #[.slice none 0 0,.int .i64 0] 120)=W0 at *;obtain⟨l0,aB,aC,bH⟩:=At.three A0;have BJ:=AL.lt;have Fu:W0.cell? ⟨Y.lb,2,none⟩=some (.map (some Y.bm)):=AL.cell 2;refine xW ?_
 (repeat (first|refine nW ?_ | refine nX ?_ (hc:=by intro w2 hS;first|with_reducible exact nR hS (jm _))|refine nY ?_))
 refine ak.cK ?_;intro w2 hS;replace A0:=At.keep A0 hS;replace A1:=At.keep A1 hS;replace A2:=At.keep A2 hS;replace AL:=At.keep AL hS;replace hB:=Below.ay hB aD hS;clear hS hL Fu BJ l0 aB aC bH hbig;have qD:w2.cell? ⟨bz,71,none⟩=some (.slice A fl.length cp):=aL.ext A2 16;have l2:=A2.lt;have c54:w2.cell? ⟨bz,54,none⟩=some (.int .i64 (s.c 54)):=aL.int A2 54 aH rfl;have l1:=A1.lt;have aP:w2.cell? ⟨w.heap.size+1,0,none⟩=some (.slice none 0 0):=A1.cell 0;have aQ:w2.cell? ⟨w.heap.size+1,1,none⟩=some (.int .i64 0):=A1.cell 1;have fO:=A1.thaw 0;have fP:=A1.thaw 1;have hlz:((fl.length:Int)==0)=false:=by rw[<-F5.out];simp;exact hne
 go_upto_region 4 with(fail)
 obtain⟨l0,aB,aC,bH⟩:=At.three A0;have BJ:=AL.lt;have ly4:w2.cell? ⟨Y.lb,4,none⟩=some (.map (some Y.pm)):=AL.cell 4;have hzf:=HR.out.wf z hz;have hKL:=λX (hb:Below w2.heap.size w2 X)=>(hg.keep (Below.ay hB aD hb)).look_ok Cq Tryz.underlying81 (yR X) (Le hzf h0 h1);simp only[hgv,Option.getD_none,Option.isSome_none,Oc]at hKL;have hS0:Below w2.heap.size w2 w2.drew:=Below.drew aF;refine lF (S:=λX=>Below w2.heap.size w2 X) 12 ?_ ?_
 . exact hS0
 intro hS1;clear hS0;refine aM 0 ?_;refine aM 1 ?_;refine aM 2 ?_;refine aM 3 ?_;refine aM 4 ?_;refine aM 5 ?_;refine aM 6 ?_;refine aM 7 ?_;refine aM 8 ?_;refine tk1 9 ?_;refine ak.Step.value dV ?_;have AN:At (w2.alloc (.cells #[.slice none 0 0,.int .i64 0] 120)).drew w2.heap.size (.cells #[.slice none 0 0,.int .i64 0] 120):=At.drew (At.new _ _);have hS2:Below w2.heap.size w2 (w2.alloc (.cells #[.slice none 0 0,.int .i64 0] 120)).drew:=Below.drew (Below.alloc' aF _);have A1':=At.keep A1 hS2;have l1w:=l1;refine⟨λ_=>hS2,?_⟩
 (try simp only[bL,bM,bN,tks])
 generalize (w2.alloc (.cells #[.slice none 0 0,.int .i64 0] 120)).drew=w3 at *;obtain⟨ln,cn0,cn1⟩:=At.two AN;have zn0:=AN.thaw 0;have zn1:=AN.thaw 1;clear aP aQ fO fP l1;refine tk1 10 ?_;refine ak.Step.skip dV ?_;have uN:Below w2.heap.size w2 ((w3.setCell ⟨w2.heap.size,0,none⟩ (.slice none 0 0)).setCell ⟨w2.heap.size,1,none⟩ (.int .i64 0)):=Below.setCell (Below.setCell hS2 eZ _) eZ _;have AN2:=At.set (At.set AN 0 (.slice none 0 0)) 1 (.int .i64 0);replace A1':=At.off (At.off A1' (n:=w2.heap.size) aj 0 (.slice none 0 0)) (n:=w2.heap.size) aj 1 (.int .i64 0);refine⟨λ_=>uN,?_⟩
 (try simp only[Act.put])
 generalize (w3.setCell ⟨w2.heap.size,0,none⟩ (.slice none 0 0)).setCell ⟨w2.heap.size,1,none⟩ (.int .i64 0)=w4 at *;clear hS2 AN ln cn0 cn1 zn0 zn1 hS1;refine aM 11 ?_;refine ko ?_;replace hB:=Below.ay hB aD uN;replace A0:=At.keep A0 uN;replace A2:=At.keep A2 uN;replace AL:=At.keep AL uN;have hcw:w.heap.size+1<w2.heap.size:=l1w;clear uN hKL qD l2 c54 l0 aB aC bH BJ ly4 l1w;generalize hnc:w2.heap.size=nc at *;clear hnc
 go_upto_region 6 with(fail)
 have hpl:=hP _ HW.out.1;have lp0:w.heap.size≠Y.pm:=by omega
 have lp1:w.heap.size+1≠Y.pm:=by omega
 have lpn:nc≠Y.pm:=by omega
 have JA:bz≠Y.pm:=λq=>by have:=At.uniq qE.out (q▸hpm);cases this
 have lbp:Y.lb≠Y.pm:=λq=>by have:=At.uniq HR.out.lay (q▸hpm);cases this
 have aiV:=qE.out.lt;have aiW:=HR.out.lay.lt;have lbn:bz≠nc:=by omega
 have lln:Y.lb≠nc:=by omega
 have l0n:w.heap.size≠nc:=by omega
 obtain⟨l0,aB,aC,bH⟩:=At.three A0;have BJ:=AL.lt;have ly3:w4.cell? ⟨Y.lb,3,none⟩=some (.map (some Y.km)):=AL.cell 3;have l2:=A2.lt;have c00:w4.cell? ⟨bz,0,none⟩=some (.int .i64 (s.c 0)):=aL.int A2 0 aH rfl;have ahd:=hK _ _ _ HR.out.kinds hB
 have hkl:=λX (hO:Out (λb=>b=Y.pm\/b=nc) w4 X)=>Yc.out X (qR _ _ _ ahd ⟨hO.1,λb hb hn=>by
  have hb':b=Y.km:=Classical.byContradiction hn;subst hb'
  exact hO.2 _ hb (λq=>by rcases q with q|q;exact HR.out.pmk q.symm;omega)⟩)
 rw[HS.out]at hkl;have hS0:Out (λb=>b=Y.pm\/b=nc) w4 w4.drew:=(Out.refl _ _).drew;refine lF (S:=λX=>Out (λb=>b=Y.pm\/b=nc) w4 X) 14 ?_ ?_
 . exact hS0
 intro hS1;clear hS0;refine TD 0 ?_;refine TD 1 ?_;refine TD 2 ?_;refine TD 3 ?_;refine TD 4 ?_;refine TD 5 ?_;refine TD 6 ?_;refine TD 7 ?_;refine TD 8 ?_;refine TD 9 ?_;refine TD 10 ?_;refine TD 11 ?_;have hB4:Below w.heap.size w w4.drew:=Below.drew hB;have hcall:=HKD.out w4.drew (HR.out.keep hK hB4) (HW.out.out (M:=λ_=>False) (Out.of_below hB4) λ_ _ q=>q) (λb hb=>aV (hP b hb) hB4.size);refine tk1 12 ?_;refine ak.Step.call (f:=kf) dV hcall ?_;rintro e w6 ⟨R,cap,cs,P5,n5,rfl,hRn,hAR,hrow,hn5,hK5,Cr,VI,JF⟩;have mP:Out (λb=>b=Y.pm) w4 w6:=Out.trans (Out.refl _ w4).drew JF;refine⟨_,rfl,λ_=>mP.mono λb _ q => .inl q,?_⟩;clear hcall JF hkl hS1
 (try simp only[bL,bM,bN,tks])
 replace A0:=A0.out lp0 mP;have AN3:=AN2.out lpn mP;obtain⟨ln,cn0,cn1⟩:=At.two AN3;have zn0:=AN3.thaw 0;have zn1:=AN3.thaw 1;refine tk1 13 ?_;refine ak.Step.skip dV ?_;refine⟨λ_=>Out.set (Out.set (mP.mono λb _ q => .inl q) (.inr rfl) 0 _) (.inr rfl) 1 _,?_⟩
 (try simp only[Act.put])
 refine ko ?_;have AN4:At ((w6.setCell ⟨nc,0,none⟩ (.slice (some ⟨R,0,none⟩) xs.length cap)).setCell ⟨nc,1,none⟩ (.int .i64 hi)) nc (.cells #[.slice (some ⟨R,0,none⟩) xs.length cap,.int .i64 hi] 120):=At.set (At.set AN3 0 _) 1 _;have aiX:w4.heap.size<=R:=hRn;have aiY:nc<w4.heap.size:=AN2.lt;have hQ:Out (λb=>b=nc\/b=R) w6 ((w6.setCell ⟨nc,0,none⟩ (.slice (some ⟨R,0,none⟩) xs.length cap)).setCell ⟨nc,1,none⟩ (.int .i64 hi)):=Out.set (Out.set (Out.refl _ _) (.inl rfl) 0 _) (.inl rfl) 1 _;replace A0:=At.off (At.off A0 (n:=nc) l0n 0 (.slice (some ⟨R,0,none⟩) xs.length cap)) (n:=nc) l0n 1 (.int .i64 hi);have ahe:=At.off (At.off (At.out A1' lp1 mP) (n:=nc) aj 0 (.slice (some ⟨R,0,none⟩) xs.length cap)) (n:=nc) aj 1 (.int .i64 hi);have acE:R≠nc:=by omega
 replace hAR:=At.off (At.off hAR (n:=nc) acE 0 (.slice (some ⟨R,0,none⟩) xs.length cap)) (n:=nc) acE 1 (.int .i64 hi);generalize (w6.setCell ⟨nc,0,none⟩ (.slice (some ⟨R,0,none⟩) xs.length cap)).setCell ⟨nc,1,none⟩ (.int .i64 hi)=w7 at *;clear cn0 cn1 zn0 zn1 ln AN3 l0 aB aC bH BJ ly3 l2 c00;obtain⟨ln,cn0,cn1⟩:=At.two AN4;have zn0:=AN4.thaw 0;have zn1:=AN4.thaw 1;have aeB:=ah hlx;have aeC:Out (λb=>b=Y.pm\/w.heap.size<=b) w w7:=Out.trans' ((Out.of_below hB (M:=λb=>b=Y.pm\/w.heap.size<=b)).trans (mP.mono λb _ q => .inl q)) hQ λb hb q=>by rcases q with rfl|rfl<;>omega
 obtain⟨es7,ck7,aeD⟩:∃es ck,At w7 Y.pm (.map es ck):=by
  obtain⟨g5,hg5,_⟩:=hK5.2;obtain⟨es,ck,q⟩:=hg5.obj;exact⟨es,ck,q.out (by rintro(e|e)<;>omega) hQ⟩
 have lR0:w.heap.size≠R:=by omega
 have lRn:nc≠R:=λq=>acE q.symm;have lRp:Y.pm≠R:=by omega
 clear hlx;go_wp2
 go_loopw [56] (λi wr=>∃k cs',k<=xs.length/\i=.int .i64 (k:Nat)/\At wr R (.cells cs' 77)/\oV cs' (Oi (Fw.mv B i0 i1) xs k)/\Out (λb=>b=R) w7 wr) (λi _=>xs.length-(intOf i).toNat)
 case atStart=>exact⟨0,cs,by omega,rfl,hAR,by rw[VF];exact hrow,Out.refl _ _⟩
 case round =>
  obtain⟨k,cs',hkl,rfl,hA',hrow',EP⟩:=hrel;have AN5:=AN4.out lRn EP;have A05:=A0.out lR0 EP;by_cases hlt:k<xs.length
  . have hrl:k<(Oi (Fw.mv B i0 i1) xs k).length:=by rw[DX];exact hlt
    have hge:=aap (Fw.mv B i0 i1) xs hlt;obtain⟨x,hx⟩:=aA (xs[k]);have ho:=hrow'.2 k hrl 0 aj;have h5:=hrow'.2 k hrl 5 aj;have h6:=hrow'.2 k hrl 6 aj;rw[hge,hx]at ho h5 h6;have hstep:=λx0 x1=>hrow'.step hrl x0 x1;rw[hge,hx]at hstep;have hsu:=VG (Fw.mv B i0 i1) xs hlt;rw[hx]at hsu;have hDk:D x.id:=hDx x (hx▸List.getElem_mem _);have aeE:RO wr Y B D KM:=HR.out.fresh qR hkm (Out.trans' aeC EP λb hb q=>by rcases q with rfl;omega) ⟨es7,ck7,aeD.out lRp EP⟩;have hmv:=RS hK x.id i0 i1 x.a0 x.a1 hDk R (k*7) cs' wr.drew (aeE.keep hK (Below.drew aF)) (At.drew hA') ho h5 h6;have hfx:∀a b,a=(if (B x.id).sty.c 1=1 then Fw.wG (B x.id).sty 0 i0 x.a0 else x.a0)->b=(if (B x.id).sty.c 1=1 then Fw.wG (B x.id).sty 1 i1 x.a1 else x.a1)->({ x with a0:=a,a1:=b }:Fw.Ld)=Fw.mv B i0 i1 x:=by
     rintro a b rfl rfl;unfold Fw.mv;split<;>rfl
    have HR9:Hid (oV ((cs'.setIfInBounds (k*7+5) (.int .i64 (if (B x.id).sty.c 1=1 then Fw.wG (B x.id).sty 0 i0 x.a0 else x.a0))).setIfInBounds (k*7+6) (.int .i64 (if (B x.id).sty.c 1=1 then Fw.wG (B x.id).sty 1 i1 x.a1 else x.a1))) (Oi (Fw.mv B i0 i1) xs (k+1))):=ah (by
     have q:=hstep (if (B x.id).sty.c 1=1 then Fw.wG (B x.id).sty 0 i0 x.a0 else x.a0) (if (B x.id).sty.c 1=1 then Fw.wG (B x.id).sty 1 i1 x.a1 else x.a1);rw[hfx _ _ rfl rfl,hsu]at q
     exact q)
    have Jz:=ah hlt;have HMV:=ah hmv;have hcmp:(k:Int)<(xs.length:Int):=by omega
    clear hstep hsu hfx hmv hge ho h5 h6 hrow' hrl hx aeE;obtain⟨l5,d0,d1⟩:=At.two AN5;obtain⟨l6,e0,e1,e2⟩:=At.three A05;have BK:=hA'.lt
    go_upto_region 10 with(fail)
    have hS0:Out (λb=>b=R) wr wr.drew:=(Out.refl _ _).drew;refine lF (S:=λX=>Out (λb=>b=R) wr X) 8 ?_ ?_
    . exact hS0
    intro hS1;clear hS0;refine jJ 0 ?_;refine jJ 1 ?_;refine jJ 2 ?_;refine jJ 3 ?_;refine jJ 4 ?_;refine jJ 5 ?_;refine jJ 6 ?_;refine tk1 7 ?_;refine ak.Step.call dV HMV.out ?_;rintro e w8 ⟨rfl,NV,hO8⟩;have JC:Out (λb=>b=R) wr w8:=(Out.refl _ wr).drew.trans hO8;refine⟨_,rfl,λ_=>JC,?_⟩
    (try simp only[bL,bM,bN,tks])
    refine ko ?_;clear hS1 hO8 d0 d1 e0 e1 e2 l5 l6;have hwk:IntKind.i64.wrap ((k:Int)+1)=(k:Int)+1:=by have q1:=aeB.out;have q2:=Jz.out;exact IntWalk.i64_in _ aj
    have aiZ:wrap64 ((k:Int)+1)=(k:Int)+1:=by rw[<-IntWalk.i64_left];exact hwk
    go_wp2
    go_roundw
    case rel=>exact⟨k+1,_,Nat.succ_le_of_lt Jz.out,by have q1:=aeB.out;have q2:=Jz.out;go_num,NV,HR9.out,EP.trans JC⟩
    case measure=>exact VH Jz.out
  . obtain rfl:k=xs.length:=by omega
    have HRW:=ah hrow';have ahf:Out (λb=>b=Y.pm\/w.heap.size<=b) w wr:=Out.trans' aeC EP λb hb q=>by rcases q with rfl;omega
    have hQr:Out (λb=>b=nc\/b=R) w6 wr:=hQ.trans (EP.mono λb _ q => .inr q)
    have hKr:Kp Y B F n5 P5 wr:=hK5.out hQr λb hb=>by
     rintro(rfl|rfl)
     . rcases Cr _ hb with q|q
       . exact absurd (hP _ q) aj
       . simp only[World.size_drew]at q;omega
     . exact VI hb
    obtain⟨hpp,g5,hg5,ahg⟩:=hKr;have hzf:=HR.out.wf z hz;obtain⟨Wp,np,hnp,hput,hgp,hOp⟩:=(hg5.keep (Below.drew aF)).put (W:=wr.drew) (v:=.agg #[.slice (some ⟨R,0,none⟩) xs.length cap,.int .i64 hi]) Cq Tryz.underlying81 aj (Le hzf h0 h1);have ALr:=(AL.out lbp mP).out (M:=λb=>b=nc\/b=R) (by rintro(rfl|rfl)<;>omega) hQr;obtain⟨l5,d0,d1⟩:=At.two AN5;obtain⟨l6,e0,e1,e2⟩:=At.three A05;have llr:=ALr.lt;have ly4:wr.cell? ⟨Y.lb,4,none⟩=some (.map (some Y.pm)):=ALr.cell 4;clear hrow'
    go_upto_region 12 with(fail)
    have hS0:Out (λb=>b=Y.pm) wr wr.drew:=(Out.refl _ _).drew;refine lF (S:=λX=>Out (λb=>b=Y.pm) wr X) 7 ?_ ?_
    . exact hS0
    intro hS1;clear hS0;refine jJ 0 ?_;refine jJ 1 ?_;refine jJ 2 ?_;refine jJ 3 ?_;refine jJ 4 ?_;refine jJ 5 ?_;refine tk1 6 ?_;refine ak.Step.skip (Ba (.tmp 71) (.tmp 72) (.tmp 73) rfl rfl rfl rfl hput) ?_;have RV:Out (λb=>b=Y.pm) wr Wp:=(Out.refl _ wr).drew.trans hOp;refine⟨λ_=>RV,?_⟩
    (try simp only[Act.put])
    refine ko ?_;have TI:Out (λb=>b=Y.pm\/w.heap.size<=b) w Wp:=Out.trans' ahf RV λb hb q => .inl q;have hAr:=hA'.out (M:=λb=>b=Y.pm) (λq=>lRp q.symm) RV;have AN6:=AN5.out lpn RV;have A16:=At.out (At.out ahe aj EP) lp1 RV;obtain⟨l7,f0,f1⟩:=At.two AN6;obtain⟨l8,k0,k1⟩:=At.two A16;have zk0:=A16.thaw 0;have zk1:=A16.thaw 1;clear d0 d1 e0 e1 e2 l5 l6 ly4 llr hS1;go_wp2;generalize hW:World.setCell _ _ _=W9;have JC:Out (λb=>b=w.heap.size+1) Wp W9:=hW▸Out.set (M:=λb=>b=w.heap.size+1) (Out.set (M:=λb=>b=w.heap.size+1) (Out.refl _ _) rfl 0 _) rfl 1 _;have A19:At W9 (w.heap.size+1) (.cells #[.slice (some ⟨R,0,none⟩) xs.length cap,.int .i64 hi] 120):=hW▸At.set (At.set A16 0 _) 1 _;obtain⟨l9,g0,g1⟩:=At.two A19
    have ahh:¬ P5 (w.heap.size+1):=λhb=>by
     rcases Cr _ hb with q|q
     . exact absurd (hP _ q) aj
     . simp only[World.size_drew]at q;omega
    have hP7:∀b,(P5 b\/b=R)->¬ (b=w.heap.size+1):=λb hb q=>by
     subst q;rcases hb with hb|hb
     . exact ahh hb
     . omega
    have hcv:CV W9 (λb=>P5 b\/b=R) (.agg #[.slice (some ⟨R,0,none⟩) xs.length cap,.int .i64 hi]) (Fw.cont B (F z) z i0 i1):=by
     rw[HCN.out];refine⟨some ⟨R,0,none⟩,cap,by simp,.inr ⟨R,cs',rfl,.inr rfl,hAr.out (λq=>by omega) JC,?_⟩⟩;have q:=HRW.out;rw[aao]at q;exact q.2
    refine bodyPost_ret (v:=.agg #[.slice (some ⟨R,0,none⟩) xs.length cap,.int .i64 hi]) Z4y rfl ⟨_,(λb=>P5 b\/b=R),np,rfl,hcv,by omega,?_,?_,?_⟩
    . refine⟨.inl hpp,_,hgp.out (λq=>lp1 q.symm) JC,λz' a b v' hz' ha hb hg' => ?_⟩
      by_cases e:klit z' a b=klit z i0 i1
      . obtain⟨rfl,rfl,rfl⟩:=Vr hz' ha hb hzf h0 h1 e
        rw[mY]at hg';injection hg' with hg';subst hg';exact hcv
      . rw[oM e]at hg'
        exact(CV.ahc (P':=P5) (ahg _ _ _ _ hz' ha hb hg') (aeD.out lRp EP) RV (λb _ hn q=>hn q) λ_ q=>q).out JC (λb hb=>hP7 b (.inl hb)) λb hb => .inl hb
    . intro b hb
      rcases hb with hb|rfl
      . rcases Cr _ hb with q|q
        . exact .inl q
        . simp only[World.size_drew]at q;exact .inr (aJ hB.size q)
      . exact .inr aj
    . exact(Out.trans' TI JC λb hb q=>by omega).mono λb hb q=>by rcases q with q|q;exact q;omega
end
theorem Cu:Maps.Keyed Tryz.prog 32:=Maps.int_keyed Tryz.underlying32
theorem Qj{z:Int}(h:Wf z):keyOf Tryz.prog 32 (.int .i64 z)=some (.int .i64 z):=Maps.keyOf_int_mk Tryz.underlying32 h
def fnv(f:FuncId):Value:=.func (.func f) #[] #[]
def nA(W:World)(b:Nat):Prop:=∃n g,GM 32 W b n g/\g (.int .i64 0)=some (fnv 66)/\g (.int .i64 1)=some (fnv 67)/\g (.int .i64 2)=some (fnv 68)
theorem nA.keep(X X':World)(b:Nat)(h:nA X b)(hb:Below X.heap.size X X'):nA X' b:=by
 obtain⟨n,g,h1,h2⟩:=h;exact⟨n,g,h1.keep hb,h2⟩
theorem nA.out(X X':World)(b:Nat)(h:nA X b)(k:Out (λq=>q≠b) X X'):nA X' b:=by
 obtain⟨n,g,h1,h2⟩:=h;exact⟨n,g,h1.out (λq=>q rfl) k,h2⟩
theorem jN(w:World):Calls Tryz.prog 44 #[] w λe w'=>(∃b,e=.returned (.map (some b))/\w.heap.size<=b/\nA w' b)/\Below w.heap.size w w':=by
 have hmm:=@run_makeMap Tryz.prog;obtain⟨W1,n1,k1,p1,g1,o1⟩:=(GM.made 32 w).put (v:=fnv 66) Cu Tryz.underlying80 (by simp[maxLen]) (Qj (z:=0) Z51);obtain⟨W2,n2,k2,p2,g2,o2⟩:=g1.put (v:=fnv 67) Cu Tryz.underlying80 Py (Qj (z:=1) Z51);obtain⟨W3,n3,k3,p3,g3,o3⟩:=g2.put (v:=fnv 68) Cu Tryz.underlying80 Py (Qj (z:=2) Z51);have hO:Out (λb=>w.heap.size<=b) w W3:=Out.trans' (Out.trans' (Out.trans' (Out.of_below (M:=λb=>w.heap.size<=b) (Below.alloc' aF (.map #[] 0))) o1 λb _ q=>by omega) o2 λb _ q=>by omega) o3 λb _ q=>by omega
 have hB:Below w.heap.size w W3:=hO.below aD λb hb q=>by omega
 have hne:∀{a b:Int},a≠b->Lit.int .i64 a≠Lit.int .i64 b:=λh e=>h (by injection e);have hK:nA W3 w.heap.size:=⟨n3,_,g3,by rw[oM (hne aH),oM (hne aH),mY],by rw[oM (hne aH),mY],by rw[mY]⟩;have HK:=ah hK;have HB:=ah hB;clear hK hB hO g1 g2 g3 o1 o2 o3 hne k1 k2 k3;unfold fnv at p1 p2 p3;go_enter Tryz.func44,Tryz.ntmps44
 go_wp2
 go_ret
 exact⟨⟨_,rfl,aG _,HK.out⟩,HB.out⟩
theorem nA.look{X:World}{b:Nat}(h:nA X b)(z:Int)(f:FuncId)(hz:(z=0/\f=66)\/(z=1/\f=67)\/(z=2/\f=68)):(Instr.lookup 80 (.map (some b)) (.int .i64 z) false).run Tryz.prog X=.ok (.func (.func f) #[] #[]) X:=by
 obtain⟨n,g,h1,h2,h3,h4⟩:=h;have hw:Wf z:=by rw[iX];omega
 rw[h1.look Cu Tryz.underlying80 (z:=.nilFunc) jD (Qj hw)];rcases hz with⟨rfl,rfl⟩|⟨rfl,rfl⟩|⟨rfl,rfl⟩
 . rw[h2];rfl
 . rw[h3];rfl
 . rw[h4];rfl
section
variable {Y:sj} {B:Int->Fw.Bx} {F:Int->Nat} {D:Int->Prop} {KM:World->Nat->Prop} {w W W':World} {n n':Nat} {P0 P P':Nat->Prop}
structure rA(Y:sj)(B:Int->Fw.Bx)(F:Int->Nat)(w:World)(P0:Nat->Prop)(n:Nat)(P:Nat->Prop)(W:World):Prop where
 out:Out (λb=>b=Y.pm\/w.heap.size<=b) w W
 kp:Kp Y B F n P W
 lt:∀b,P b->b<W.heap.size
 new:∀b,P b->P0 b\/w.heap.size<=b
theorem Kp.cut(h:Kp Y B F n P W):Kp Y B F n (λb=>P b/\b<W.heap.size) W:=by
 obtain⟨hp,g,h1,h2⟩:=h;refine⟨⟨hp,h1.lt⟩,g,h1,λz a b v hz ha hb hg => ?_⟩;obtain⟨A,cap,e,q⟩:=h2 z a b v hz ha hb hg;refine⟨A,cap,e,?_⟩;rcases q with q|⟨r,cs,e1,e2,e3,e4⟩
 . exact .inl q
 . exact .inr ⟨r,cs,e1,⟨e2,e3.lt⟩,e3,e4⟩
theorem Kp.pm(h:Kp Y B F n P W):Y.pm<W.heap.size/\∃es ck,At W Y.pm (.map es ck):=by
 obtain⟨hp,g,h1,h2⟩:=h;exact⟨h1.lt,h1.obj⟩
theorem rA.start(h:Kp Y B F n P w)(hP:∀b,P b->b<w.heap.size):rA Y B F w P n P w:=⟨Out.refl _ _,h,hP,λb hb => .inl hb⟩
theorem rA.size(h:rA Y B F w P0 n P W):w.heap.size<=W.heap.size:=h.out.size
theorem rA.ro(qR:∀(X X':World) (b:Nat),KM X b->Out (λq=>q≠b) X X'->KM X' b)(hR:RO w Y B D KM)(hkm:Y.km<w.heap.size)(h:rA Y B F w P0 n P W):RO W Y B D KM:=hR.fresh qR hkm h.out h.kp.pm.2
theorem rA.own{M:Nat->Prop}(h:rA Y B F w P0 n P W)(k:Out M W W')(hm:∀b,b<W.heap.size->M b->¬ P b/\w.heap.size<=b):rA Y B F w P0 n P W' :=
 ⟨Out.trans' h.out k λb hb q => .inr (hm b (aV hb h.size) q).2,h.kp.out k λb hb q=>(hm b (h.lt b hb) q).1 hb,λb hb=>aV (h.lt b hb) k.size,h.new⟩
theorem rA.after(h:rA Y B F w P0 n P W)(k:Below W.heap.size W W'):rA Y B F w P0 n P W':=h.own (M:=λ_=>False) (Out.of_below k) λ_ _ q=>q.elim
theorem rA.call(h:rA Y B F w P0 n P W)(k1:Kp Y B F n' P' W')(k2:∀b,P' b->P b\/W.heap.size<=b)(k3:Out (λb=>b=Y.pm) W W'):rA Y B F w P0 n' (λb=>P' b/\b<W'.heap.size) W' :=
 ⟨Out.trans' h.out k3 λb hb q => .inl q,k1.cut,λb hb=>hb.2,λb hb=>by
  rcases k2 b hb.1 with q|q
  . exact h.new b q
  . exact .inr (aJ h.size q)⟩
theorem rA.fin(h:rA Y B F w P0 n P W):Out (λb=>b=Y.pm) w W:=h.out.mono λb hb q=>by
 rcases q with q|q
 . exact q
 . omega
def vJ(Y:sj)(B:Int->Fw.Bx)(F:Int->Nat)(D:Int->Prop)(KM:World->Nat->Prop)(f:Nat):Prop :=
 ∀(z r0 r1 t0 t1:Int) (w:World) (n:Nat) (P:Nat->Prop),D z->F z=f->RO w Y B D KM->Kp Y B F n P w->(∀b,P b->b<w.heap.size)->Y.km<w.heap.size->n+Fw.cst B f z<maxLen ->
  Calls Tryz.prog 25 #[.pointer (some ⟨Y.lb,0,none⟩),.int .i64 z,.agg #[.int .i64 r0,.int .i64 r1],.agg #[.int .i64 t0,.int .i64 t1]] w λe w' =>
   e=.returned (.agg (eH (Fw.lay B f z r0 r1 t0 t1)))/\∃n' P',n'<=n+Fw.cst B f z/\Kp Y B F n' P' w'/\(∀b,P' b->P b\/w.heap.size<=b)/\Out (λb=>b=Y.pm) w w'
end
theorem DY{ops:Array Oper}{S:World->Prop}{o:Oper}{a:Act}(p:Operand){R q:Nat}{x:Im}(hw:Region.wanted o (yielded ops a.tmps)=true)(ho:o.op=.load 168 p)(hp:a.eval p=.pointer (some ⟨R,q,none⟩))(h:∀X,S X->rz X R q x):ak.Reads Tryz.prog ops S o (.agg (nS x)) a :=
 .inl ⟨hw,λX hX=>nM Vt Oe p ho hp (su x) (h X hX)⟩
structure Ll(Y:sj)(B:Int->Fw.Bx)(D:Int->Prop)(F:Int->Nat)(f:Nat)(i0:Int)(x:Im):Prop where
 d:D x.ld.id
 f:F x.ld.id=f
 bx:x.bx=Y.bl x.ld.id
 m0:x.m0=Fw.mg (B x.ld.id).sty 0 0 i0
 m1:x.m1=Fw.mg (B x.ld.id).sty 0 1 i0
 m2:x.m2=Fw.mg (B x.ld.id).sty 1 0 i0
 m3:x.m3=Fw.mg (B x.ld.id).sty 1 1 i0
def BL(B:Int->Fw.Bx)(f:Nat)(r0 r1 high:Int)(x:Im):Im :=
 if Fx.jg ((B x.ld.id).sty.c 5) r1=true then x else { x with ld:=Fw.lay B f x.ld.id r0 r1 x.ld.s0 (Fw.wr (Fx.limit (max (Fw.wr (high-ext1 x (B x.ld.id).sty)) 0) ((B x.ld.id).sty.c 9) ((B x.ld.id).sty.c 10) ((B x.ld.id).sty.c 13) ((B x.ld.id).sty.c 14) r1+Fw.wr (Fw.ed (B x.ld.id).sty 0+Fw.ed (B x.ld.id).sty 2))) }
def DZ(g:Im->Im)(l:List Im)(k:Nat):List Im:=(l.take k).map g++l.drop k
theorem j6(g:Im->Im)(l:List Im)(k:Nat):(DZ g l k).length=l.length:=by simp[DZ];omega
theorem tT(g:Im->Im)(l:List Im){k:Nat}(hk:k<l.length):(DZ g l k)[k]'(by rw[j6];exact hk)=l[k]:=by
 unfold DZ;rw[List.getElem_append_right jM];simp;congr 1;omega
theorem yS(g:Im->Im)(l:List Im){k:Nat}(hk:k<l.length):(DZ g l k).set k (g l[k])=DZ g l (k+1):=by
 unfold DZ;have e:((l.take k).map g).length=k:=by simp;omega
 rw[List.set_append,if_neg aj,e,Nat.sub_self,List.drop_eq_getElem_cons hk,List.set_cons_zero,List.take_succ_eq_append_getElem hk,List.map_append,List.append_assoc];rfl
theorem D5(g:Im->Im)(l:List Im):DZ g l 0=l:=by simp[DZ]
theorem IY(g:Im->Im)(l:List Im):DZ g l l.length=l.map g:=by simp[DZ]
theorem VJ(g:Im->Im)(l:List Im){k:Nat}(hk:k<l.length)(h:g l[k]=l[k]):DZ g l (k+1)=DZ g l k:=by
 rw[<-yS g l hk,h]
 exact List.ext_getElem eZ λi h1 h2=>by
  by_cases e:k=i
  . subst e;rw[List.getElem_set_self,tT g l hk]
  . rw[List.getElem_set_ne e]
def jh(B:Int->Fw.Bx)(f:Nat)(l:List Im)(k:Nat):Nat:=((l.take k).map λx=>Fw.cst B f x.ld.id).sum
theorem sw(B:Int->Fw.Bx)(f:Nat)(l:List Im){k:Nat}(hk:k<l.length):jh B f l (k+1)=jh B f l k+Fw.cst B f l[k].ld.id:=by
 unfold jh;rw[List.take_succ_eq_append_getElem hk];exact Z30
theorem wC(B:Int->Fw.Bx)(f:Nat)(l:List Im)(k:Nat):jh B f l k<=jh B f l l.length:=by
 unfold jh;rw[List.take_length]
 conv=>rhs;rw[<-List.take_append_drop k l,List.map_append,List.sum_append]
 omega
section
variable {Y:sj} {B:Int->Fw.Bx} {F:Int->Nat} {D:Int->Prop} {KM:World->Nat->Prop} {f:Nat} {w0:World} {P0:Nat->Prop}
theorem nJ(hL:vJ Y B F D KM f)(qR:∀(X X':World) (b:Nat),KM X b->Out (λq=>q≠b) X X'->KM X' b)(hR0:RO w0 Y B D KM)(hkm:Y.km<w0.heap.size){n:Nat}{P:Nat->Prop}{W:World}(h:rA Y B F w0 P0 n P W)(z r0 r1 t0 t1:Int)(hz:D z)(hf:F z=f)(hn:n+Fw.cst B f z<maxLen) :
  Calls Tryz.prog 25 #[.pointer (some ⟨Y.lb,0,none⟩),.int .i64 z,.agg #[.int .i64 r0,.int .i64 r1],.agg #[.int .i64 t0,.int .i64 t1]] W λe W' =>
   e=.returned (.agg (eH (Fw.lay B f z r0 r1 t0 t1)))/\∃n' P',n'<=n+Fw.cst B f z/\rA Y B F w0 P0 n' P' W'/\(∀b,b<W.heap.size->P' b->P b)/\Out (λb=>b=Y.pm) W W' :=
 (hL z r0 r1 t0 t1 W n P hz hf (h.ro qR hR0 hkm) h.kp h.lt (aV hkm h.size) hn).mono λe W' ⟨h1,n',P',h2,h3,h4,h5⟩=>⟨h1,n',_,h2,h.call h3 h4 h5,λb hb q=>by
  rcases h4 b q.1 with q|q
  . exact q
  . omega,h5⟩
theorem VK(hL:vJ Y B F D KM f)(hK:∀(X X':World) (b:Nat),KM X b->Below X.heap.size X X'->KM X' b)(qR:∀(X X':World) (b:Nat),KM X b->Out (λq=>q≠b) X X'->KM X' b)(hR0:RO w0 Y B D KM)(hkm:Y.km<w0.heap.size)
  (R q c:Nat) (i0 r0 r1 high:Int) (xs:List Im) (cs:Array Value) (w:World) (n:Nat) (P:Nat->Prop) (hS:rA Y B F w0 P0 n P w) (hA:At w R (.cells cs 168)) (hI:fE cs q xs) (hok:∀x∈xs,Ll Y B D F f i0 x) (VI:¬ P R) (ru:w0.heap.size<=R) (hn:n+jh B f xs xs.length<maxLen) (hl:xs.length<=10000) :
  Calls Tryz.prog 135 #[.pointer (some ⟨Y.lb,0,none⟩),.slice (some ⟨R,q,none⟩) xs.length c,.agg #[.int .i64 r0,.int .i64 r1],.int .i64 high] w λe w'=>e=.returned (.tuple #[]) /\
   ∃n' P' cs',n'<=n+jh B f xs xs.length/\rA Y B F w0 P0 n' P' w'/\¬ P' R/\(∀b,b<w.heap.size->P' b->P b)/\At w' R (.cells cs' 168)/\fE cs' q (xs.map (BL B f r0 r1 high))/\j5 q xs.length cs cs'/\Out (λb=>b=Y.pm\/b=R) w w':=by
 obtain⟨es0,RG,pU⟩:=hR0.EO;have ahi:Y.pm<R:=aV pU.lt ru;obtain⟨m,hm⟩:=aA xs.length;have HM:=ah hm;have HN:=ah hn;have HOK:=ah hok;have sV:=ah hR0;have hRl:=hA.lt;have b1:Below w.heap.size w (w.alloc (.cells #[.int .i64 r0,.int .i64 r1] 71)):=Below.alloc' aF _;have A0:At (w.alloc (.cells #[.int .i64 r0,.int .i64 r1] 71)) w.heap.size (.cells #[.int .i64 r0,.int .i64 r1] 71):=At.new _ _;have hS1:=hS.after b1;have hA1:=hA.keep b1;have hsz:=b1.size;have hPw:=hS.lt;rw[hm]at hl ⊢;clear hn hok hR0 hS hA hm pU;go_enter Tryz.func135,Tryz.ntmps135
 go_upto_region 1 with(fail)
 generalize w.alloc (.cells #[.int .i64 r0,.int .i64 r1] 71)=w1 at *
 go_upto_region 2 with(fail)
 go_loopw [15] (λiv wr=>∃(k n':Nat) (P':Nat->Prop) (cs':Array Value),k<=m/\iv=.int .i64 k/\n'<=n+jh B f xs k/\rA Y B F w0 P0 n' P' wr/\¬ P' R/\(∀b,b<=w.heap.size->P' b->P b)/\At wr R (.cells cs' 168)/\Hid (fE cs' q (DZ (BL B f r0 r1 high) xs k)/\j5 q m cs cs')/\At wr w.heap.size (.cells #[.int .i64 r0,.int .i64 r1] 71)/\Out (λb=>b=Y.pm\/b=R) w wr) (λiv _=>m-(intOf iv).toNat)
 case atStart=>exact⟨0,n,P,cs,fC _,rfl,by simp[jh],hS1,VI,λb hb h=>h,hA1,ah ⟨by rw[D5];exact hI,j5.refl _ _ _⟩,A0,Out.of_below b1⟩
 case round =>
  clear hS1 hA1 A0 b1 hI hsz;obtain⟨k,n',P',cs',hk,rfl,hn',hSr,wM,xP,hAr,hC,A0,hO⟩:=hrel;by_cases hlt:k<m
  . have hltz:(k:Int)<(m:Int):=by omega
    have hkx:k<xs.length:=by rw[HM.out];exact hlt
    have hkc:k<(DZ (BL B f r0 r1 high) xs k).length:=by rw[j6];exact hkx
    have qG:=hC.out.1.at_ hAr hkc;rw[tT _ _ hkx]at qG;obtain⟨x,hx⟩:=aA (xs[k]);have mI:=ah (HOK.out x (hx▸List.getElem_mem _));rw[hx]at qG;have HX:=ah hx;have hsR:True:=trivial;have hRr:=hSr.ro qR sV.out hkm;have hbx:=(hRr.box x.ld.id mI.out.d).1;rw[<-mI.out.bx]at hbx;obtain⟨s,hs⟩:=aA ((B x.ld.id).sty);rw[hs]at hbx;generalize Y.vf x.ld.id=vf at hbx;generalize Y.va x.ld.id=va at hbx;generalize (B x.ld.id).ib=ib at hbx;have HS:=ah hs;have qE:=ah hbx;have Ym:=ah qG;have qx:=ah hSr;obtain⟨l2,aR,aS,aT,aU,bC,bD,bA,bB⟩:=At.bx1 hbx;have BK:=hAr.lt;have Lm:wr.cell? ⟨R,q+k*17+12,none⟩=some (.pointer (some ⟨x.bx,0,none⟩)):=(qG 12 aj).trans rfl;have l0:=A0.lt;clear hRr hbx qG hs hx
    go_upto_region 6 with(fail)
    have b5:Below wr.heap.size wr (wr.alloc (.cells #[.int .i64 (s.c 5),.int .i64 (s.c 6),.int .i64 (s.c 9),.int .i64 (s.c 10),.int .i64 (s.c 13),.int .i64 (s.c 14)] 112)):=Below.alloc' aF _;have AE:At (wr.alloc (.cells #[.int .i64 (s.c 5),.int .i64 (s.c 6),.int .i64 (s.c 9),.int .i64 (s.c 10),.int .i64 (s.c 13),.int .i64 (s.c 14)] 112)) wr.heap.size (.cells #[.int .i64 (s.c 5),.int .i64 (s.c 6),.int .i64 (s.c 9),.int .i64 (s.c 10),.int .i64 (s.c 13),.int .i64 (s.c 14)] 112):=At.new _ _;generalize wr.alloc (.cells #[.int .i64 (s.c 5),.int .i64 (s.c 6),.int .i64 (s.c 9),.int .i64 (s.c 10),.int .i64 (s.c 13),.int .i64 (s.c 14)] 112)=W1 at *;obtain⟨e,he⟩:=aA wr.heap.size;rw[he]at AE;have hel:wr.heap.size<=e:=Nat.le_of_eq he;have ai0:e<=wr.heap.size:=Nat.le_of_eq he.symm;rw[he];have B0:=A0.keep b5;have hB1:=hAr.keep b5;have hS1:=hSr.after b5;have iA:Out (λb=>b=Y.pm\/b=R) w W1:=Out.trans' hO (Out.of_below (M:=λ_=>False) b5) λ_ _ q=>q.elim;have Bu:=ah (qE.out.keep b5);have aeF:=ah (λj hj=>(rz.keep Ym.out b5 BK) j hj);have ai1:w.heap.size<wr.heap.size:=A0.lt;clear he l2 aR aS aT aU bC bD bA bB Lm l0;obtain⟨l0,aB,aC⟩:=At.two B0;obtain⟨l1,e0,e1,e2,e3,e4,e5⟩:=At.six AE;cases hfx:Fx.jg (s.c 5) r1 with
    | true =>
      have hsame:Hid (BL B f r0 r1 high xs[k]=xs[k]):=ah (by rw[HX.out];unfold BL;rw[HS.out,hfx];rfl);have Tk:=ah hfx;clear hfx
      go_wp2_with (go_at_call 73;(with_reducible refine(jq _ _ _ _ _ _ _ _).mono ?_);rintro e' w5 ⟨rfl,hb⟩;rw[Tk.out])
      go_roundw
      case rel=>exact⟨k+1,n',P',cs',by omega,by go_num,by rw[sw B f xs hkx];omega,hS1.after hb,wM,xP,hB1.keep hb,ah (by rw[VJ _ _ hkx hsame.out];exact hC.out),B0.keep hb,Out.trans' iA (Out.of_below (M:=λ_=>False) hb) λ_ _ q=>q.elim⟩
      case measure=>simp[intOf];omega
    | false =>
      have Tk:=ah hfx;clear hfx
      go_upto_region 7 with(go_at_call 73;(with_reducible refine(jq _ _ _ _ _ _ _ _).mono ?_);rintro e' w5 ⟨rfl,hb⟩;rw[Tk.out])
      have ai2:=hb.size;have b15:=b5.size;have B5:=B0.keep hb;have AE5:=AE.keep hb;have xK:=hB1.keep hb;have hS5:=hS1.after hb;have JF:Out (λb=>b=Y.pm\/b=R) w w5:=Out.trans' iA (Out.of_below (M:=λ_=>False) hb) λ_ _ q=>q.elim;have Lp:=ah (Bu.out.keep hb);have acF:=ah (rz.keep (x:=x) aeF.out hb aj);have HSF:=ah (show BL B f r0 r1 high x={ x with ld:=Fw.lay B f x.ld.id r0 r1 x.ld.s0 (Fw.wr (Fx.limit (max (Fw.wr (high-ext1 x s)) 0) (s.c 9) (s.c 10) (s.c 13) (s.c 14) r1+Fw.wr (Fw.ed s 0+Fw.ed s 2))) }by unfold BL;rw[HS.out,Tk.out];rfl);clear hb l0 aB aC l1 e0 e1 e2 e3 e4 e5 B0 AE hB1 hS1 iA Bu aeF b5;have hSd:Below w5.heap.size w5 w5.drew:=Below.drew aF;have Rv:=λX (h:Below w5.heap.size w5 X)=>Qc x s vf va ib X (Lp.out.keep h);obtain⟨ex1,acG⟩:=aA (ext1 x s);rw[acG,<-rH (high-ex1)]at HSF;simp only[acG]at Rv;obtain⟨d1,hd1⟩:=aA (IntKind.i64.wrap (high-ex1));rw[hd1]at HSF;obtain⟨lm,hlm⟩:=aA (Fx.limit (max d1 0) (s.c 9) (s.c 10) (s.c 13) (s.c 14) r1);rw[hlm]at HSF;have nU:=λX=>rX (s.c 5) (s.c 6) (s.c 9) (s.c 10) (s.c 13) (s.c 14) (max d1 0) r1 X;simp only[hlm]at nU;clear acG hlm;obtain⟨l0,aB,aC⟩:=At.two B5;obtain⟨l1,e0,e1,e2,e3,e4,e5⟩:=At.six AE5;have Yn:=xK.lt;refine lF (S:=λX=>Below w5.heap.size w5 X) 12 ?_ ?_
      . exact hSd
      intro hx;clear hSd;refine aM 0 ?_;refine aM 1 ?_;refine aM 2 ?_;refine aM 3 ?_;refine aM 8 ?_;refine aM 9 ?_;refine rO 4 rfl (DY (.tmp 36) aX rfl rfl (λX h=>rz.keep acF.out h Yn)) ?_;refine tk1 5 ?_;refine ak.Step.call dV (Rv _ hx) ?_;rintro e' w6 ⟨rfl,hb⟩;replace hx:=Below.ay hx aD hb;clear hb;refine⟨_,rfl,λ_=>hx,?_⟩
      (try simp only[bL,bM,bN,tks])
      refine aM 6 ?_;refine aM 7 ?_;refine tk1 10 ?_;refine ak.Step.call dV (nU _) ?_;rintro e' w7 ⟨rfl,hb⟩;replace hx:=Below.ay hx aD hb;clear hb;refine⟨_,rfl,λ_=>hx,?_⟩
      (try simp only[bL,bM,bN,tks])
      refine aM 11 ?_;refine ko ?_;have b7s:=hx.size;have B7:=B5.keep hx;have MO:=xK.keep hx;have hS7:=hS5.after hx;have EP:Out (λb=>b=Y.pm\/b=R) w w7:=Out.trans' JF (Out.of_below (M:=λ_=>False) hx) λ_ _ q=>q.elim;have acH:=ah (Lp.out.keep hx);have VL:=ah (rz.keep (x:=x) acF.out hx Yn);clear hx l0 aB aC l1 e0 e1 e2 e3 e4 e5 B5 AE5 xK hS5 JF Lp acF Rv nU Yn hd1;have uI:=λX=>dX (Fw.ed s 0) (Fw.ed s 2) X;obtain⟨e02,Fv⟩:=aA (Fw.wr (Fw.ed s 0+Fw.ed s 2));rw[Fv,<-rH (lm+e02)]at HSF;simp only[Fv]at uI;obtain⟨hh,Lg⟩:=aA (IntKind.i64.wrap (lm+e02));rw[Lg]at HSF;clear Fv;have cs0:w7.cell? ⟨R,q+k*17+8,none⟩=some (.int .i64 x.ld.s0):=(VL.out 8 aj).trans rfl;have Lm:w7.cell? ⟨R,q+k*17+12,none⟩=some (.pointer (some ⟨x.bx,0,none⟩)):=(VL.out 12 aj).trans rfl;have lR7:=MO.lt;obtain⟨l2,aR,aS,aT,aU,bC,bD,bA,bB⟩:=At.bx1 acH.out;clear aR aS aT aU bC bD
      go_upto_region 8 with(fail)
      refine ak.kE (λa0 a W5=>∃(T:Nat) (u44 u45 u46 u47 u48 u49 u50 u51 u52 u53 u54 u55 u56 u57 u58 u59 u60 u61:Value),a={ a0 with tmps:=((((((((((((((((((a0.tmps.setIfInBounds 44 u44).setIfInBounds 45 u45).setIfInBounds 46 u46).setIfInBounds 47 u47).setIfInBounds 48 u48).setIfInBounds 49 u49).setIfInBounds 50 u50).setIfInBounds 51 u51).setIfInBounds 52 u52).setIfInBounds 53 u53).setIfInBounds 54 u54).setIfInBounds 55 u55).setIfInBounds 56 u56).setIfInBounds 57 u57).setIfInBounds 58 u58).setIfInBounds 59 u59).setIfInBounds 60 u60).setIfInBounds 61 u61).setIfInBounds 12 (.pointer (some ⟨T,0,none⟩)) }/\w7.heap.size<=T/\At W5 T (.cells #[.int .i64 x.ld.s0,.int .i64 hh] 71)/\Below w7.heap.size w7 W5) ?_ ?_
      . have hSd:Below w7.heap.size w7 w7.drew:=Below.drew aF
        refine lF (S:=λX=>Below w7.heap.size w7 X) 20 ?_ ?_
        . exact hSd
        intro hx;clear hSd;refine aM 0 ?_;refine aM 1 ?_;refine aM 2 ?_;refine aM 3 ?_;refine aM 4 ?_;refine aM 5 ?_;refine aM 6 ?_;refine aM 7 ?_;refine aM 8 ?_;refine aM 9 ?_;refine aM 10 ?_;refine aM 11 ?_;refine aM 12 ?_;refine aM 13 ?_;refine aM 14 ?_;clear l2 bA bB cs0 Lm lR7 VL acH EP hS7 MO B7;refine tk2 15 18 ?_ ?_
        . refine ak.Step.call dV (uI _) ?_
          rintro e' w9 ⟨rfl,hb⟩;replace hx:=Below.ay hx aD hb;clear hb;refine⟨_,rfl,λ_=>hx,?_⟩
          (try simp only[bL,bM,bN,tks])
          refine aM 16 ?_;refine aM 17 ?_;refine tk1 18 ?_;refine ak.Step.value (u:=.pointer (some ⟨w9.heap.size,0,none⟩)) (w':=w9.alloc (.cells #[.int .i64 0,.int .i64 0] 71)) dV ?_;obtain⟨je,bF,AT,gV,gT⟩:∃je,je=w9.alloc (.cells #[.int .i64 0,.int .i64 0] 71)/\At je w9.heap.size (.cells #[.int .i64 0,.int .i64 0] 71)/\Below w9.heap.size w9 je/\w7.heap.size<=w9.heap.size:=⟨_,rfl,At.new _ _,Below.alloc' aF _,hx.size⟩;rw[<-bF];clear bF;replace hx:=Below.ay hx aD gV;generalize w9.heap.size=T at *;refine⟨λ_=>hx,?_⟩
          (try simp only[bL,bM,bN,tks])
          exact Z1g
        . refine ak.Step.value (u:=.pointer (some ⟨w7.drew.heap.size,0,none⟩)) (w':=w7.drew.alloc (.cells #[.int .i64 0,.int .i64 0] 71)) dV ?_
          obtain⟨je,bF,AT,gV,gT⟩:∃je,je=w7.drew.alloc (.cells #[.int .i64 0,.int .i64 0] 71)/\At je w7.drew.heap.size (.cells #[.int .i64 0,.int .i64 0] 71)/\Below w7.drew.heap.size w7.drew je/\w7.heap.size<=w7.drew.heap.size:=⟨_,rfl,At.new _ _,Below.alloc' aF _,hx.size⟩;rw[<-bF];clear bF;replace hx:=Below.ay hx aD gV;generalize w7.drew.heap.size=T at *;refine⟨λ_=>hx,?_⟩
          (try simp only[bL,bM,bN,tks])
          refine tk1 15 ?_;refine ak.Step.call dV (uI _) ?_;rintro e' w9 ⟨rfl,hb⟩;replace hx:=Below.ay hx aD hb;replace AT:=AT.keep hb;clear hb;refine⟨_,rfl,λ_=>hx,?_⟩
          (try simp only[bL,bM,bN,tks])
          refine aM 16 ?_;refine aM 17 ?_;exact Z1g
      . rintro a W9 ⟨T,u44,u45,u46,u47,u48,u49,u50,u51,u52,u53,u54,u55,u56,u57,u58,u59,u60,u61,rfl,gT,AT,gV⟩
        simp only[List.setIfInBounds_toArray,List.set_cons_zero,List.set_cons_succ];clear uI Lg l2 bA bB cs0 Lm;have b9s:=gV.size;have B9:=B7.keep gV;have qF:=MO.keep gV;have MQ:=(hS7.after gV).after ((Below.refl W9.heap.size W9).drew);have JC:Out (λb=>b=Y.pm\/b=R) w W9:=Out.trans' EP (Out.of_below (M:=λ_=>False) gV) λ_ _ q=>q.elim;have hid:W9.cell? ⟨R,q+k*17+5,none⟩=some (.int .i64 x.ld.id):=(rz.keep VL.out gV lR7 5 aj).trans rfl;have lR9:=qF.lt;have hcs1:=sw B f xs hkx;rw[HX.out]at hcs1;have hcs2:=wC B f xs (k+1);have hnn:=HN.out;have kr:=nJ hL qR sV.out hkm MQ x.ld.id r0 r1 x.ld.s0 hh mI.out.d mI.out.f aj;have M9:=ah (show q+k*17+5+7<=cs'.size by have:=hC.out.1.1;rw[j6]at this;have h2:k*17+17<=xs.length*17:=aj;omega);have acI:Fw.lay B f x.ld.id r0 r1 x.ld.s0 hh={ Fw.lay B f x.ld.id r0 r1 x.ld.s0 hh with id:=x.ld.id }:=rfl;obtain⟨ly,qI⟩:=aA (Fw.lay B f x.ld.id r0 r1 x.ld.s0 hh);have JJ:ly.id=x.ld.id:=by rw[<-qI];rfl
        rw[qI]at kr;have ahj:=ah (show BL B f r0 r1 high x={ x with ld:=ly }by rw[HSF.out,<-qI]);clear acI qI HSF hS7 MO B7 EP VL acH gV lR7;obtain⟨l0,aB,aC⟩:=At.two B9;obtain⟨lT,cT0,cT1⟩:=At.two AT;have n1:w.heap.size≠Y.pm:=by omega
        have n2:w.heap.size≠R:=by omega
        have n3:T≠Y.pm:=by omega
        have n4:T≠R:=by omega
        have hSd:Out (λb=>b=Y.pm\/b=R) W9 W9.drew/\W9.drew.cell? ⟨R,q+k*17+5,none⟩=some (.int .i64 x.ld.id):=⟨(Out.refl _ _).drew,hid⟩
        go_upto_region 9 with(fail)
        refine lF (S:=λX=>Out (λb=>b=Y.pm\/b=R) W9 X/\X.cell? ⟨R,q+k*17+5,none⟩=some (.int .i64 x.ld.id)) 14 ?_ ?_
        . exact hSd
        intro hx;clear hSd;refine gJ 0 ?_;refine gJ 1 ?_;refine gJ 2 ?_;refine gJ 3 ?_;refine gJ 4 ?_;refine gJ 5 ?_;refine gJ 6 ?_;refine gJ 7 ?_;refine gJ 8 ?_;refine gJ 9 ?_;refine tk1 10 ?_;refine ak.Step.call dV kr ?_;rintro e' je ⟨rfl,n2',P2,hn2,nV,Cz,kV⟩;have Oj:Out (λb=>b=Y.pm) W9 je:=(Out.refl _ W9).drew.trans kV;have oo:=qF.out (M:=λb=>b=Y.pm) aj Oj;have uE:je.cell? ⟨R,q+k*17+5,none⟩=some (.int .i64 x.ld.id):=(Out.cell Oj (q+k*17+5) lR9 aj).trans hid;have B10:=B9.out (M:=λb=>b=Y.pm) n1 Oj;have IZ:Out (λb=>b=Y.pm\/b=R) W9 je/\je.cell? ⟨R,q+k*17+5,none⟩=some (.int .i64 x.ld.id):=⟨Oj.mono λb _ h => .inl h,uE⟩;refine⟨_,rfl,λ_=>IZ,?_⟩
        (try simp only[bL,bM,bN,tks])
        refine gJ 11 ?_;refine gJ 12 ?_;refine tk1 13 ?_;refine ak.Step.skip (fB og (.tmp 74) (.tmp 72) rfl rfl rfl oo (dG ly) M9.out (pJ ly)) ?_;have pz:At (je.setRow R (splice cs' (q+k*17+5) (eH ly))) R (.cells (splice cs' (q+k*17+5) (eH ly)) 168):=At.setRow oo _;have jL:Out (λb=>b=R) je (je.setRow R (splice cs' (q+k*17+5) (eH ly))):=Out.setRow (M:=λb=>b=R) (Out.refl _ _) rfl _;have Bb:(je.setRow R (splice cs' (q+k*17+5) (eH ly))).cell? ⟨R,q+k*17+5,none⟩=some (.int .i64 x.ld.id):=by
         exact Z22
        refine⟨λ_=>⟨(Oj.mono λb _ h => .inl h).trans (jL.mono λb _ h => .inr h),Bb⟩,?_⟩
        (try simp only[bL,bM,bN,tks])
        refine ko ?_;have rC:¬ P2 R:=λh=>wM (Cz R (by simpa using lR9) h);have hput:=hC.out.1.Qg hkc ly;rw[tT _ _ hkx,HX.out]at hput
        have VN:Hid (fE (splice cs' (q+k*17+5) (eH ly)) q (DZ (BL B f r0 r1 high) xs (k+1))/\j5 q m cs (splice cs' (q+k*17+5) (eH ly))):=ah ⟨by
         rw[<-yS _ _ hkx,HX.out,ahj.out]
         exact hput.1,hC.out.2.trans (by have:=hput.2;rw[j6,HM.out]at this;exact this)⟩
        have rD:=nV.own (M:=λb=>b=R) jL λb hb h=>by subst h;exact⟨rC,ru⟩
        have pE:Out (λb=>b=Y.pm\/b=R) w (je.setRow R (splice cs' (q+k*17+5) (eH ly))):=(JC.trans (Oj.mono λb _ h => .inl h)).trans (jL.mono λb _ h => .inr h);have B11:=B10.out (M:=λb=>b=R) n2 jL;have acJ:∀b,b<=w.heap.size->P2 b->P b:=λb hb h=>xP b hb (Cz b (by simp only[World.size_drew];omega) h);generalize je.setRow R (splice cs' (q+k*17+5) (eH ly))=cZ at *;generalize splice cs' (q+k*17+5) (eH ly)=cs2 at *;clear hx hput oo jL Bb uE B10 B9 qF MQ JC Oj kV hid AT l0 aB aC lT cT0 cT1 Cz nV;go_wp2
        go_roundw
        case rel=>exact⟨k+1,n2',P2,cs2,by omega,by go_num,by omega,rD,rC,acJ,pz,VN,B11,pE⟩
        case measure=>simp[intOf];omega
  . obtain rfl:k=m:=by omega
    go_wp2
    go_end0
    refine⟨rfl,n',P',cs',by rw[<-HM.out]at hn' ⊢;exact hn',hSr,wM,λb hb h=>xP b aj h,hAr,?_,hC.out.2,hO⟩;have:=hC.out.1;rw[<-HM.out,IY]at this;exact this
end
theorem Bc(kind s room:Int)(w:World):Calls Tryz.prog 103 #[.int .i64 kind,.int .i64 s,.int .i64 room] w λe w'=>e=.returned (.int .i64 (Ju.across kind s room))/\w=w':=by
 by_cases h2:kind=2
 . subst h2
   have Hr:Hid (Ju.across 2 s room=Fx.div (Fx.sub room s) 2):=ah (by unfold Ju.across;simp);exact Z1z
 . by_cases h3:kind=3
   . subst h3
     have Hr:Hid (Ju.across 3 s room=Fx.sub room s):=ah (by unfold Ju.across;simp);exact Z1z
   . have Hr:Hid (Ju.across kind s room=0):=ah (by unfold Ju.across;rw[if_neg h2,if_neg h3])
     have g2:(kind==2)=false:=by simp[h2]
     have g3:(kind==3)=false:=by simp[h3]
     exact Z1z
theorem Ls(left p s q k:Int)(n b1 b2 b3 b4:Nat)(w:World)(c1:w.cell? ⟨b1,0,none⟩=some (.int .i64 left))(c2:w.cell? ⟨b2,0,none⟩=some (.int .i64 p))(c3:w.cell? ⟨b3,0,none⟩=some (.int .i64 s))(c4:w.cell? ⟨b4,0,none⟩=some (.int .i64 q))(p0:0<=p)(p1:p<=1)(s0:0<=s)(s2:s<=2)(k0:0<=k)(k1:k<=100000) :
  Calls Tryz.prog 158 #[.int .i64 k,.pointer (some ⟨b1,0,none⟩),.pointer (some ⟨b2,0,none⟩),.pointer (some ⟨b3,0,none⟩),.pointer (some ⟨b4,0,none⟩)] w λe w'=>e=.returned (.int .i64 (Ju.fr left p s q k))/\Below w.heap.size w w':=by
 have l1:b1<w.heap.size:=World.block_lt_of_cell? _ _ c1;have l2:b2<w.heap.size:=World.block_lt_of_cell? _ _ c2;have l3:b3<w.heap.size:=World.block_lt_of_cell? _ _ c3;have l4:b4<w.heap.size:=World.block_lt_of_cell? _ _ c4;obtain⟨m1,m2⟩:0<=s*k/\s*k<=2*100000:=Fx.zH s0 s2 k0 k1;have hw1:IntKind.i64.wrap (s*k)=s*k:=IntWalk.i64_in _ aj;have hw2:IntKind.i64.wrap (p+s*k)=p+s*k:=IntWalk.i64_in _ aj;go_enter Tryz.func158,Tryz.ntmps158
 go_upto_region 1 with(fail)
 refine xW ?_
 (repeat (first|refine nW ?_ | refine nX ?_ (hc:=by intro w2 hS;first|with_reducible exact J9 hS (Y' _ _ _)|with_reducible exact J9 hS (Pw _ _ _))|refine nY ?_))
 refine ak.cK ?_;intro w2 hS;go_wp2
 go_ret
 exact⟨rfl,hS⟩
structure bY(w:World)(b1 b2 b3 b4:Nat)(left p s q:Int):Prop where
 a1:At w b1 (.cells #[.int .i64 left] 3)
 a2:At w b2 (.cells #[.int .i64 p] 3)
 a3:At w b3 (.cells #[.int .i64 s] 3)
 a4:At w b4 (.cells #[.int .i64 q] 3)
 n12:b1≠b2
 n13:b1≠b3
 n14:b1≠b4
 n23:b2≠b3
 n24:b2≠b4
 n34:b3≠b4
theorem bY.keep{w w':World}{b1 b2 b3 b4:Nat}{left p s q:Int}(h:bY w b1 b2 b3 b4 left p s q)(hb:Below w.heap.size w w'):bY w' b1 b2 b3 b4 left p s q:=⟨h.a1.keep hb,h.a2.keep hb,h.a3.keep hb,h.a4.keep hb,h.n12,h.n13,h.n14,h.n23,h.n24,h.n34⟩
theorem bY.QI{w:World}{b1 b2 b3 b4:Nat}{left p s q:Int}(h:bY w b1 b2 b3 b4 left p s q)(x:Int):bY (w.setCell ⟨b2,0,none⟩ (.int .i64 x)) b1 b2 b3 b4 left x s q :=
 ⟨h.a1.off h.n12 _ _,h.a2.set 0 _,h.a3.off h.n23.symm _ _,h.a4.off h.n24.symm _ _,h.n12,h.n13,h.n14,h.n23,h.n24,h.n34⟩
theorem bY.acK{w:World}{b1 b2 b3 b4:Nat}{left p s q:Int}(h:bY w b1 b2 b3 b4 left p s q)(x:Int):bY (w.setCell ⟨b3,0,none⟩ (.int .i64 x)) b1 b2 b3 b4 left p x q :=
 ⟨h.a1.off h.n13 _ _,h.a2.off h.n23 _ _,h.a3.set 0 _,h.a4.off h.n34.symm _ _,h.n12,h.n13,h.n14,h.n23,h.n24,h.n34⟩
theorem bY.Ua{w:World}{b1 b2 b3 b4:Nat}{left p s q:Int}(h:bY w b1 b2 b3 b4 left p s q)(x:Int):bY (w.setCell ⟨b4,0,none⟩ (.int .i64 x)) b1 b2 b3 b4 left p s x :=
 ⟨h.a1.off h.n14 _ _,h.a2.off h.n24 _ _,h.a3.off h.n34 _ _,h.a4.set 0 _,h.n12,h.n13,h.n14,h.n23,h.n24,h.n34⟩
theorem oh(w:World)(left:Int):bY ((((w.alloc (.cells #[.int .i64 left] 3)).alloc (.cells #[.int .i64 0] 3)).alloc (.cells #[.int .i64 0] 3)).alloc (.cells #[.int .i64 1] 3)) w.heap.size (w.heap.size+1) (w.heap.size+1+1) (w.heap.size+1+1+1) left 0 0 1 :=
 ⟨At.alloc (At.alloc (At.alloc (At.new _ _) _) _) _,At.alloc (At.alloc (At.new' _ eZ) _) _,At.alloc (At.new' _ eZ) _,At.new' _ eZ,by omega,by omega,by omega,by omega,by omega,by omega⟩
theorem mX(w:World)(a b c d:Obj):Below w.heap.size w ((((w.alloc a).alloc b).alloc c).alloc d) :=
 Below.alloc' (Below.alloc' (Below.alloc' (Below.alloc' aF _) _) _) _
theorem bY.cells{w:World}{b1 b2 b3 b4:Nat}{left p s q:Int}(h:bY w b1 b2 b3 b4 left p s q) :
  w.cell? ⟨b1,0,none⟩=some (.int .i64 left)/\w.cell? ⟨b2,0,none⟩=some (.int .i64 p)/\w.cell? ⟨b3,0,none⟩=some (.int .i64 s)/\w.cell? ⟨b4,0,none⟩=some (.int .i64 q) :=
 ⟨h.a1.cell 0,h.a2.cell 0,h.a3.cell 0,h.a4.cell 0⟩
theorem bY.FU{w:World}{b1 b2 b3 b4:Nat}{left p s q:Int}(h:bY w b1 b2 b3 b4 left p s q) :
  w.frozen? ⟨b2,0,none⟩=false/\w.frozen? ⟨b3,0,none⟩=false/\w.frozen? ⟨b4,0,none⟩=false/\b2<w.heap.size/\b3<w.heap.size/\b4<w.heap.size :=
 ⟨h.a2.thaw 0,h.a3.thaw 0,h.a4.thaw 0,h.a2.lt,h.a3.lt,h.a4.lt⟩
theorem RX(left n:Int)(w:World)(n0:0<=n)(n1:n<=100000):Calls Tryz.prog 139 #[.int .i64 1,.int .i64 left,.int .i64 n] w λe w'=>(∃b1 b2 b3 b4,e=.returned (.func (.func 158) #[] #[.pointer (some ⟨b1,0,none⟩),.pointer (some ⟨b2,0,none⟩),.pointer (some ⟨b3,0,none⟩),.pointer (some ⟨b4,0,none⟩)])/\bY w' b1 b2 b3 b4 left (1) (0) (1))/\Below w.heap.size w w':=by
 have JM:∀(fn:Fn) (first cap:Array Value) (w:World),(Instr.makeFunc fn first cap).run Tryz.prog w=.ok (.func fn first cap) w:=λ_ _ _ _=>rfl;go_enter Tryz.func139,Tryz.ntmps139
 go_upto_region 2 with(fail)
 generalize hW:World.alloc (World.alloc (World.alloc (World.alloc _ _) _) _) _=W1;have hX:bY W1 w.heap.size (w.heap.size+1) (w.heap.size+1+1) (w.heap.size+1+1+1) left 0 0 1:=hW▸oh w left;have hB:Below w.heap.size w W1:=hW▸mX w _ _ _ _;clear hW;obtain⟨m2,m3,m4⟩:w.heap.size<=w.heap.size+1/\w.heap.size<=w.heap.size+1+1/\w.heap.size<=w.heap.size+1+1+1:=⟨by omega,by omega,by omega⟩;generalize w.heap.size+1+1+1=b4 at *;generalize w.heap.size+1+1=b3 at *;generalize w.heap.size+1=b2 at *;have HX:=ah hX;obtain⟨c1,c2,c3,c4⟩:=hX.cells;obtain⟨z2,z3,z4,l2,l3,l4⟩:=hX.FU;have l1:=hX.a1.lt;have n23:=hX.n23;have n24:=hX.n24;have n34:=hX.n34;have n32:=hX.n23.symm;have n42:=hX.n24.symm;have n43:=hX.n34.symm;clear hX;go_wp2
 go_ret
 exact⟨⟨_,_,_,_,rfl,(HX.out.QI (1))⟩,(Below.setCell hB m2 _)⟩
theorem RY(left n:Int)(w:World)(n0:0<=n)(n1:n<=100000):Calls Tryz.prog 139 #[.int .i64 2,.int .i64 left,.int .i64 n] w λe w'=>(∃b1 b2 b3 b4,e=.returned (.func (.func 158) #[] #[.pointer (some ⟨b1,0,none⟩),.pointer (some ⟨b2,0,none⟩),.pointer (some ⟨b3,0,none⟩),.pointer (some ⟨b4,0,none⟩)])/\bY w' b1 b2 b3 b4 left (1) (0) (2))/\Below w.heap.size w w':=by
 have JM:∀(fn:Fn) (first cap:Array Value) (w:World),(Instr.makeFunc fn first cap).run Tryz.prog w=.ok (.func fn first cap) w:=λ_ _ _ _=>rfl;exact Zk
theorem Lv(left n:Int)(w:World)(n0:0<=n)(n1:n<=100000)(h1:0<left)(h2:1<n):Calls Tryz.prog 139 #[.int .i64 3,.int .i64 left,.int .i64 n] w λe w'=>(∃b1 b2 b3 b4,e=.returned (.func (.func 158) #[] #[.pointer (some ⟨b1,0,none⟩),.pointer (some ⟨b2,0,none⟩),.pointer (some ⟨b3,0,none⟩),.pointer (some ⟨b4,0,none⟩)])/\bY w' b1 b2 b3 b4 left (0) (1) (n-1))/\Below w.heap.size w w':=by
 have JM:∀(fn:Fn) (first cap:Array Value) (w:World),(Instr.makeFunc fn first cap).run Tryz.prog w=.ok (.func fn first cap) w:=λ_ _ _ _=>rfl;go_enter Tryz.func139,Tryz.ntmps139
 go_upto_region 2 with(fail)
 generalize hW:World.alloc (World.alloc (World.alloc (World.alloc _ _) _) _) _=W1;have hX:bY W1 w.heap.size (w.heap.size+1) (w.heap.size+1+1) (w.heap.size+1+1+1) left 0 0 1:=hW▸oh w left;have hB:Below w.heap.size w W1:=hW▸mX w _ _ _ _;clear hW;obtain⟨m2,m3,m4⟩:w.heap.size<=w.heap.size+1/\w.heap.size<=w.heap.size+1+1/\w.heap.size<=w.heap.size+1+1+1:=⟨by omega,by omega,by omega⟩;generalize w.heap.size+1+1+1=b4 at *;generalize w.heap.size+1+1=b3 at *;generalize w.heap.size+1=b2 at *;have HX:=ah hX;obtain⟨c1,c2,c3,c4⟩:=hX.cells;obtain⟨z2,z3,z4,l2,l3,l4⟩:=hX.FU;have l1:=hX.a1.lt;have n23:=hX.n23;have n24:=hX.n24;have n34:=hX.n34;have n32:=hX.n23.symm;have n42:=hX.n24.symm;have n43:=hX.n34.symm;clear hX;go_wp2
 go_ret
 exact⟨⟨_,_,_,_,rfl,((HX.out.acK (1)).Ua (n-1))⟩,(Below.setCell (Below.setCell hB m3 _) m4 _)⟩
theorem D7(left n:Int)(w:World)(n0:0<=n)(n1:n<=100000)(h1:left<=0):Calls Tryz.prog 139 #[.int .i64 3,.int .i64 left,.int .i64 n] w λe w'=>(∃b1 b2 b3 b4,e=.returned (.func (.func 158) #[] #[.pointer (some ⟨b1,0,none⟩),.pointer (some ⟨b2,0,none⟩),.pointer (some ⟨b3,0,none⟩),.pointer (some ⟨b4,0,none⟩)])/\bY w' b1 b2 b3 b4 left (0) (0) (1))/\Below w.heap.size w w':=by
 have JM:∀(fn:Fn) (first cap:Array Value) (w:World),(Instr.makeFunc fn first cap).run Tryz.prog w=.ok (.func fn first cap) w:=λ_ _ _ _=>rfl;have e1:decide (0<left)=false:=by simp;omega
 exact Zo
theorem BM(left n:Int)(w:World)(n0:0<=n)(n1:n<=100000)(h1:0<left)(h2:n<=1):Calls Tryz.prog 139 #[.int .i64 3,.int .i64 left,.int .i64 n] w λe w'=>(∃b1 b2 b3 b4,e=.returned (.func (.func 158) #[] #[.pointer (some ⟨b1,0,none⟩),.pointer (some ⟨b2,0,none⟩),.pointer (some ⟨b3,0,none⟩),.pointer (some ⟨b4,0,none⟩)])/\bY w' b1 b2 b3 b4 left (0) (0) (1))/\Below w.heap.size w w':=by
 have JM:∀(fn:Fn) (first cap:Array Value) (w:World),(Instr.makeFunc fn first cap).run Tryz.prog w=.ok (.func fn first cap) w:=λ_ _ _ _=>rfl;have e2:decide (1<n)=false:=by simp;omega
 exact Zo
theorem Ol(left n:Int)(w:World)(n0:0<=n)(n1:n<=100000)(h1:0<left):Calls Tryz.prog 139 #[.int .i64 4,.int .i64 left,.int .i64 n] w λe w'=>(∃b1 b2 b3 b4,e=.returned (.func (.func 158) #[] #[.pointer (some ⟨b1,0,none⟩),.pointer (some ⟨b2,0,none⟩),.pointer (some ⟨b3,0,none⟩),.pointer (some ⟨b4,0,none⟩)])/\bY w' b1 b2 b3 b4 left (1) (2) (2*n))/\Below w.heap.size w w':=by
 have JM:∀(fn:Fn) (first cap:Array Value) (w:World),(Instr.makeFunc fn first cap).run Tryz.prog w=.ok (.func fn first cap) w:=λ_ _ _ _=>rfl;go_enter Tryz.func139,Tryz.ntmps139
 go_upto_region 2 with(fail)
 generalize hW:World.alloc (World.alloc (World.alloc (World.alloc _ _) _) _) _=W1;have hX:bY W1 w.heap.size (w.heap.size+1) (w.heap.size+1+1) (w.heap.size+1+1+1) left 0 0 1:=hW▸oh w left;have hB:Below w.heap.size w W1:=hW▸mX w _ _ _ _;clear hW;obtain⟨m2,m3,m4⟩:w.heap.size<=w.heap.size+1/\w.heap.size<=w.heap.size+1+1/\w.heap.size<=w.heap.size+1+1+1:=⟨by omega,by omega,by omega⟩;generalize w.heap.size+1+1+1=b4 at *;generalize w.heap.size+1+1=b3 at *;generalize w.heap.size+1=b2 at *;have HX:=ah hX;obtain⟨c1,c2,c3,c4⟩:=hX.cells;obtain⟨z2,z3,z4,l2,l3,l4⟩:=hX.FU;have l1:=hX.a1.lt;have n23:=hX.n23;have n24:=hX.n24;have n34:=hX.n34;have n32:=hX.n23.symm;have n42:=hX.n24.symm;have n43:=hX.n34.symm;clear hX;go_wp2
 go_ret
 exact⟨⟨_,_,_,_,rfl,(((HX.out.QI (1)).acK (2)).Ua (2*n))⟩,(Below.setCell (Below.setCell (Below.setCell hB m2 _) m3 _) m4 _)⟩
theorem Fy(left n:Int)(w:World)(n0:0<=n)(n1:n<=100000)(h1:left<=0):Calls Tryz.prog 139 #[.int .i64 4,.int .i64 left,.int .i64 n] w λe w'=>(∃b1 b2 b3 b4,e=.returned (.func (.func 158) #[] #[.pointer (some ⟨b1,0,none⟩),.pointer (some ⟨b2,0,none⟩),.pointer (some ⟨b3,0,none⟩),.pointer (some ⟨b4,0,none⟩)])/\bY w' b1 b2 b3 b4 left (1) (0) (2))/\Below w.heap.size w w':=by
 exact Z31
theorem Om(left n:Int)(w:World)(n0:0<=n)(n1:n<=100000)(h1:0<left):Calls Tryz.prog 139 #[.int .i64 5,.int .i64 left,.int .i64 n] w λe w'=>(∃b1 b2 b3 b4,e=.returned (.func (.func 158) #[] #[.pointer (some ⟨b1,0,none⟩),.pointer (some ⟨b2,0,none⟩),.pointer (some ⟨b3,0,none⟩),.pointer (some ⟨b4,0,none⟩)])/\bY w' b1 b2 b3 b4 left (1) (1) (n+1))/\Below w.heap.size w w':=by
 have JM:∀(fn:Fn) (first cap:Array Value) (w:World),(Instr.makeFunc fn first cap).run Tryz.prog w=.ok (.func fn first cap) w:=λ_ _ _ _=>rfl;go_enter Tryz.func139,Tryz.ntmps139
 go_upto_region 2 with(fail)
 generalize hW:World.alloc (World.alloc (World.alloc (World.alloc _ _) _) _) _=W1;have hX:bY W1 w.heap.size (w.heap.size+1) (w.heap.size+1+1) (w.heap.size+1+1+1) left 0 0 1:=hW▸oh w left;have hB:Below w.heap.size w W1:=hW▸mX w _ _ _ _;clear hW;obtain⟨m2,m3,m4⟩:w.heap.size<=w.heap.size+1/\w.heap.size<=w.heap.size+1+1/\w.heap.size<=w.heap.size+1+1+1:=⟨by omega,by omega,by omega⟩;generalize w.heap.size+1+1+1=b4 at *;generalize w.heap.size+1+1=b3 at *;generalize w.heap.size+1=b2 at *;have HX:=ah hX;obtain⟨c1,c2,c3,c4⟩:=hX.cells;obtain⟨z2,z3,z4,l2,l3,l4⟩:=hX.FU;have l1:=hX.a1.lt;have n23:=hX.n23;have n24:=hX.n24;have n34:=hX.n34;have n32:=hX.n23.symm;have n42:=hX.n24.symm;have n43:=hX.n34.symm;clear hX;go_wp2
 go_ret
 exact⟨⟨_,_,_,_,rfl,(((HX.out.QI (1)).acK (1)).Ua (n+1))⟩,(Below.setCell (Below.setCell (Below.setCell hB m2 _) m3 _) m4 _)⟩
theorem Fz(left n:Int)(w:World)(n0:0<=n)(n1:n<=100000)(h1:left<=0):Calls Tryz.prog 139 #[.int .i64 5,.int .i64 left,.int .i64 n] w λe w'=>(∃b1 b2 b3 b4,e=.returned (.func (.func 158) #[] #[.pointer (some ⟨b1,0,none⟩),.pointer (some ⟨b2,0,none⟩),.pointer (some ⟨b3,0,none⟩),.pointer (some ⟨b4,0,none⟩)])/\bY w' b1 b2 b3 b4 left (1) (0) (2))/\Below w.heap.size w w':=by
 exact Z31
theorem Oo(kind left n:Int)(w:World)(n0:0<=n)(n1:n<=100000)(h1:¬ kind=1)(h2:¬ kind=2)(h3:¬ kind=3)(h4:¬ kind=4)(h5:¬ kind=5):Calls Tryz.prog 139 #[.int .i64 kind,.int .i64 left,.int .i64 n] w λe w'=>(∃b1 b2 b3 b4,e=.returned (.func (.func 158) #[] #[.pointer (some ⟨b1,0,none⟩),.pointer (some ⟨b2,0,none⟩),.pointer (some ⟨b3,0,none⟩),.pointer (some ⟨b4,0,none⟩)])/\bY w' b1 b2 b3 b4 left (0) (0) (1))/\Below w.heap.size w w':=by
 have JM:∀(fn:Fn) (first cap:Array Value) (w:World),(Instr.makeFunc fn first cap).run Tryz.prog w=.ok (.func fn first cap) w:=λ_ _ _ _=>rfl;have g1:(kind==1)=false:=by simp[h1]
 have g2:(kind==2)=false:=by simp[h2]
 have g3:(kind==3)=false:=by simp[h3]
 have g4:(kind==4)=false:=by simp[h4]
 have g5:(kind==5)=false:=by simp[h5]
 exact Zo
theorem Oq(kind left n:Int)(w:World)(n0:0<=n)(n1:n<=100000):Calls Tryz.prog 139 #[.int .i64 kind,.int .i64 left,.int .i64 n] w λe w'=>(∃b1 b2 b3 b4,e=.returned (.func (.func 158) #[] #[.pointer (some ⟨b1,0,none⟩),.pointer (some ⟨b2,0,none⟩),.pointer (some ⟨b3,0,none⟩),.pointer (some ⟨b4,0,none⟩)])/\bY w' b1 b2 b3 b4 left ((Ju.pq kind left n).1) ((Ju.pq kind left n).2.1) ((Ju.pq kind left n).2.2))/\Below w.heap.size w w':=by
 by_cases h1:kind=1
 . subst h1;exact RX left n w n0 n1
 by_cases h2:kind=2
 . subst h2;exact RY left n w n0 n1
 by_cases h3:kind=3
 . subst h3
   by_cases hl:0<left
   . by_cases hn:1<n
     . rw[show Ju.pq 3 left n=(0,1,n-1)by unfold Ju.pq;simp[hl,hn]];exact Lv left n w n0 n1 hl hn
     . rw[show Ju.pq 3 left n=(0,0,1)by unfold Ju.pq;simp[hn]];exact BM left n w n0 n1 hl aj
   . rw[show Ju.pq 3 left n=(0,0,1)by unfold Ju.pq;simp[hl]];exact D7 left n w n0 n1 aj
 by_cases h4:kind=4
 . subst h4
   by_cases hl:0<left
   . rw[show Ju.pq 4 left n=(1,2,2*n)by unfold Ju.pq;simp[hl]];exact Ol left n w n0 n1 hl
   . rw[show Ju.pq 4 left n=(1,0,2)by unfold Ju.pq;simp[hl]];exact Fy left n w n0 n1 aj
 by_cases h5:kind=5
 . subst h5
   by_cases hl:0<left
   . rw[show Ju.pq 5 left n=(1,1,n+1)by unfold Ju.pq;simp[hl]];exact Om left n w n0 n1 hl
   . rw[show Ju.pq 5 left n=(1,0,2)by unfold Ju.pq;simp[hl]];exact Fz left n w n0 n1 aj
 rw[show Ju.pq kind left n=(0,0,1)by unfold Ju.pq;simp[h1,h2,h3,h4,h5]];exact Oo kind left n w n0 n1 h1 h2 h3 h4 h5
theorem tV(s gap x:Int)(w:World):Calls Tryz.prog 138 #[.int .i64 s,.int .i64 gap,.int .i64 x] w λe w'=>e=.returned (.int .i64 (Li.next gap s x))/\w=w':=by
 go_enter Tryz.func138,Tryz.ntmps138
 go_wp2_with (first|(go_at_call 125;with_reducible refine wR (pO _ _ _) ?_))
 exact EL
theorem LA(A:Option Addr)(l:List Int)(n c:Nat)(gap:Int)(w:World)(hI:Ints w A l)(hl:l.length=n)(hc:n<=c)(hn:n<=100000):Calls Tryz.prog 101 #[.slice A n c,.int .i64 gap] w λe w'=>e=.returned (.int .i64 (Li.long gap l))/\w=w':=by
 rcases Nat.eq_zero_or_pos n with rfl|h0
 . obtain rfl:=List.eq_nil_of_length_eq_zero hl
   go_enter Tryz.func101,Tryz.ntmps101
   go_wp2;exact EL
 . have HI:=ah hI
   have HL:=ah hl;have I1:=hI.from_ 1 c aj aj;have F1:=ah (qo A n c 1 aj);obtain⟨b,off,rfl,lb,cb⟩:=hI.at_ (k:=0) aj;generalize hA1:(if c=1 then some (⟨b,off,none⟩:Addr)else (some (⟨b,off,none⟩:Addr)).map (·.add (1*1)))=A1 at *;have H1:=ah I1;have hz:((n:Int)==0)=false:=by simp;omega
   have HX:Hid (Fx.cut (l.getD 0 0)=Li.long gap (l.take 1)):=ah (Li.wS gap l aj).symm;have HT:Hid (l.take n=l):=ah (by rw[<-hl];exact List.take_length);have HM:Hid (n-1+1=n):=ah aj;simp only[Nat.add_zero]at cb;generalize l.getD 0 0=x at *;clear hA1 I1 hI hl;obtain⟨m,m1,m2⟩:∃m,m+1<=n/\n<=m+1:=⟨n-1,by omega,by omega⟩;have HN:Hid (n-1=m):=ah aj;replace F1:=ah F1.out;rw[HN.out]at F1;go_enter Tryz.func101,Tryz.ntmps101
   go_wp2_with (first|(refine qY rfl aX (F1.out _) ?_)|first|(go_at_call 46;with_reducible refine wR (fI _ _) ?_))
   go_loopw [5,7,18] (λvs _ vi wr=>∃k:Nat,k<=m/\vi=.int .i64 k/\vs=.int .i64 (Li.long gap (l.take (k+1)))/\w=wr) (λ_ _ vi _=>n-(intOf vi).toNat)
   case atStart=>exact⟨0,by omega,rfl,by rw[HX.out],rfl⟩
   case round =>
    obtain⟨k,hk,rfl,rfl,rfl⟩:=hrel;by_cases hlt:k<m
    . have hltz:(k:Int)<(m:Int):=by omega
      obtain⟨b1,o1,hA1,l1,c1⟩:=H1.out.at_ (k:=k) (by rw[List.length_drop,HL.out];omega);subst hA1
      have HS:Hid (Li.next gap (Li.long gap (l.take (k+1))) ((l.drop 1).getD k 0)=Li.long gap (l.take (k+1+1))):=ah (by
       rw[Li.zK gap l (k:=k+1) aj Z52];congr 1
       simp[List.getD])
      generalize (l.drop 1).getD k 0=y at *
      go_wp2_with (first|(go_at_call 138;with_reducible refine wR (tV _ _ _ _) ?_))
      go_roundw
      case rel=>exact⟨k+1,by omega,by go_num,by rw[HS.out],trivial⟩
      case measure=>simp[intOf];omega
    . have hltz:¬ (k:Int)<(m:Int):=by omega
      have HE:Hid (k+1=n):=ah aj;go_wp2
      go_ret
      exact⟨bO (by rw[HE.out,HT.out]),rfl⟩
theorem RZ(A:Option Addr)(l:List Int)(n c:Nat)(room gap:Int)(wrap:Bool)(w:World)(hI:Ints w A l)(hl:l.length=n)(h0:0<n)(hn:n<=100000) :
  Calls Tryz.prog 155 #[.slice A n c,.int .i64 room,.int .i64 gap,.bool wrap] w λe w'=>e=.returned (.int .i64 (Li.cnt room gap wrap l:Nat))/\w=w':=by
 have HI:=ah hI;have HL:=ah hl;obtain⟨b,off,rfl,lb,cb⟩:=hI.at_ (k:=0) aj;have HX:Hid (Fx.cut (l.getD 0 0)=Li.long gap (l.take 1)):=ah (Li.wS gap l aj).symm;simp only[Nat.add_zero]at cb;generalize l.getD 0 0=x at *;obtain⟨q,q1,q2,q3⟩:∃q,q<=n/\q<=64/\(n<=q\/64<=q):=⟨min n 64,by omega,by omega,by omega⟩;have hmin:min (n:Int) 64=(q:Int):=by omega
 clear hI hl;cases wrap
 all_goals
  go_enter Tryz.func155,Tryz.ntmps155
  go_wp2_with (first|(go_at_call 46;with_reducible refine wR (fI _ _) ?_))
 . go_loopw [9,11] (λvm vs wr=>∃m:Nat,1<=m/\m<=q/\vm=.int .i64 m/\vs=.int .i64 (Li.long gap (l.take m))/\w=wr/\Hid (∀k,1<=k->k<m->Li.goes room gap false l k=true)) (λvm _ _=>n-(intOf vm).toNat)
   case atStart=>exact⟨1,by omega,by omega,rfl,by rw[HX.out],rfl,ah (λk k1 k2=>by omega)⟩
   case round =>
    obtain⟨m,hm1,hmq,rfl,rfl,rfl,HG⟩:=hrel;by_cases hlt:m<q
    . have hltz:(m:Int)<(q:Int):=by omega
      obtain⟨b1,o1,hA1,l1,c1⟩:=HI.out.at_ (k:=m) Z52;injection hA1 with hA1;injection hA1 with hb1 ho1;subst hb1 ho1;have HS:Hid (Li.next gap (Li.long gap (l.take m)) (l.getD m 0)=Li.long gap (l.take (m+1))):=ah (Li.zK gap l aj Z52).symm;generalize l.getD m 0=y at *
      go_wp2_with (first|(go_at_call 138;with_reducible refine wR (tV _ _ _ _) ?_))
      go_roundw
      case rel=>exact⟨m+1,by omega,by omega,by go_num,by rw[HS.out],trivial,ah (λk k1 k2=>by
       rcases Nat.lt_or_ge k m with h|h
       . exact HG.out k k1 h
       . obtain rfl:k=m:=by omega
         exact Li.qc.2 ⟨by rw[HL.out];omega,by omega,λh=>by cases h⟩)⟩
      case measure=>simp[intOf];omega
    . have hltz:¬ (m:Int)<(q:Int):=by omega
      have HC:Hid (Li.cnt room gap false l=m):=ah (Li.uw.eq ⟨hm1,HG.out,by
       cases h:Li.goes room gap false l m with
       | false=>rfl
       | true=>have:=Li.qc.1 h;rw[HL.out]at this;omega⟩)
      go_wp2
      go_ret
      exact⟨bO (by rw[HC.out]),rfl⟩
 . go_loopw [9,11] (λvm vs wr=>∃m:Nat,1<=m/\m<=q/\vm=.int .i64 m/\vs=.int .i64 (Li.long gap (l.take m))/\w=wr/\Hid (∀k,1<=k->k<m->Li.goes room gap true l k=true)) (λvm _ _=>n-(intOf vm).toNat)
   case atStart=>exact⟨1,by omega,by omega,rfl,by rw[HX.out],rfl,ah (λk k1 k2=>by omega)⟩
   case round =>
    obtain⟨m,hm1,hmq,rfl,rfl,rfl,HG⟩:=hrel;by_cases hlt:m<q
    . have hltz:(m:Int)<(q:Int):=by omega
      obtain⟨b1,o1,hA1,l1,c1⟩:=HI.out.at_ (k:=m) Z52;injection hA1 with hA1;injection hA1 with hb1 ho1;subst hb1 ho1;have HS:Hid (Li.next gap (Li.long gap (l.take m)) (l.getD m 0)=Li.long gap (l.take (m+1))):=ah (Li.zK gap l aj Z52).symm;generalize l.getD m 0=y at *;obtain⟨z,hz⟩:=aA (Li.next gap (Li.long gap (l.take m)) y);have HZ:=ah hz;by_cases hr:room<z
      . have HC:Hid (Li.cnt room gap true l=m):=ah (Li.uw.eq ⟨hm1,HG.out,by
         cases h:Li.goes room gap true l m with
         | false=>rfl
         | true=>have:=(Li.qc.1 h).2.2 rfl;rw[<-HS.out,HZ.out]at this;omega⟩)
        go_wp2_with (first|(go_at_call 138;with_reducible refine wR (tV _ _ _ _) ?_))
        go_ret
        exact⟨bO (by rw[HC.out]),rfl⟩
      . have hr2:decide (room<z)=false:=decide_eq_false hr
        go_wp2_with (first|(go_at_call 138;with_reducible refine wR (tV _ _ _ _) ?_))
        go_roundw
        case rel=>exact⟨m+1,by omega,by omega,by go_num,by rw[<-HS.out,HZ.out],trivial,ah (λk k1 k2=>by
         rcases Nat.lt_or_ge k m with h|h
         . exact HG.out k k1 h
         . obtain rfl:k=m:=by omega
           exact Li.qc.2 ⟨by rw[HL.out];omega,by omega,λ_=>by rw[<-HS.out,HZ.out];omega⟩)⟩
        case measure=>simp[intOf];omega
    . have hltz:¬ (m:Int)<(q:Int):=by omega
      have HC:Hid (Li.cnt room gap true l=m):=ah (Li.uw.eq ⟨hm1,HG.out,by
       cases h:Li.goes room gap true l m with
       | false=>rfl
       | true=>have:=Li.qc.1 h;rw[HL.out]at this;omega⟩)
      go_wp2
      go_ret
      exact⟨bO (by rw[HC.out]),rfl⟩
theorem gM{w:World}{b:Nat}{T:TypeId}(f:Nat->Int)(n:Nat)(hn:n<=maxLen)(h:At w b (.cells (aO f n n) T)):Ints w (some ⟨b,0,none⟩) (Ju.row f n):=by
 refine⟨by rw[Ju.qd];exact hn,λh0=>⟨b,0,rfl,λk hk => ?_⟩⟩;rw[Ju.qd]at hk;rw[h.cell,Nat.zero_add,dh _ hk,Ju.Ig _ hk];simp[hk]
theorem bY.off{w:World}{b1 b2 b3 b4 n:Nat}{left p s q:Int}(h:bY w b1 b2 b3 b4 left p s q)(hn:b1≠n/\b2≠n/\b3≠n/\b4≠n)(i:Nat)(x:Value):bY (w.setCell ⟨n,i,none⟩ x) b1 b2 b3 b4 left p s q :=
 ⟨h.a1.off hn.1 _ _,h.a2.off hn.2.1 _ _,h.a3.off hn.2.2.1 _ _,h.a4.off hn.2.2.2 _ _,h.n12,h.n13,h.n14,h.n23,h.n24,h.n34⟩
theorem D8(A:Option Addr)(l:List Int)(n c:Nat)(kind room gap:Int)(w:World)(hI:Ints w A l)(hl:l.length=n)(hc:n<=c)(hn:n<=1000) :
  Calls Tryz.prog 102 #[.int .i64 kind,.slice A n c,.int .i64 room,.int .i64 gap] w λe w'=>(∃b,e=.returned (.slice (some ⟨b,0,none⟩) n n)/\w.heap.size<=b/\Ints w' (some ⟨b,0,none⟩) (Ju.row (Ju.starts kind room gap l) n))/\Below w.heap.size w w':=by
 obtain⟨i0,hi0,hz0,hz1,hz2⟩:=info_parts intZero;have hf0:∀lf,Fx.sub room (Li.long gap l)=lf->Ju.fr lf (Ju.pq kind lf (n:Int)).1 (Ju.pq kind lf (n:Int)).2.1 (Ju.pq kind lf (n:Int)).2.2 ((0:Nat):Int)=Ju.starts kind room gap l 0:=by
  rintro lf rfl;rw[<-hl];rfl
 have hfs:∀lf,Fx.sub room (Li.long gap l)=lf->∀k:Nat,Fx.add (Fx.add (Fx.add (Ju.starts kind room gap l k) (l.getD k 0)) gap) (Fx.sub (Ju.fr lf (Ju.pq kind lf (n:Int)).1 (Ju.pq kind lf (n:Int)).2.1 (Ju.pq kind lf (n:Int)).2.2 ((k+1:Nat):Int)) (Ju.fr lf (Ju.pq kind lf (n:Int)).1 (Ju.pq kind lf (n:Int)).2.1 (Ju.pq kind lf (n:Int)).2.2 (k:Int)))=Ju.starts kind room gap l (k+1):=by
  rintro lf rfl k;rw[<-hl];rfl
 generalize Ju.starts kind room gap l=f at *;have HI:=ah hI;have HF0:=ah hf0;have HFS:=ah hfs;have HL:=ah hl;clear hI hf0 hfs hl;go_enter Tryz.func102,Tryz.ntmps102
 go_upto_region 3 with(first|(go_at_call 101;refine(LA A l n c gap _ HI.out HL.out hc aj).mono ?_;rintro e w' ⟨rfl,rfl⟩)|first|(go_at_call 124;with_reducible refine wR (vW _ _ _) ?_)|(go_at_call 139;refine(Oq kind _ (n:Int) _ aj aj).mono ?_;rintro e w1 ⟨⟨b1,b2,b3,b4,rfl,hX⟩,hB⟩))
 replace HF0:=ah (HF0.out _ rfl);replace HFS:=ah (HFS.out _ rfl);obtain⟨p0,p1,s0,s2⟩:=Ju.aby kind (Fx.sub room (Li.long gap l)) (n:Int);generalize Fx.sub room (Li.long gap l)=lf at *;generalize (Ju.pq kind lf (n:Int)).1=p at *;generalize (Ju.pq kind lf (n:Int)).2.1=s at *;generalize (Ju.pq kind lf (n:Int)).2.2=q at *
 go_upto_region 4 with(at_make;refine wpList_make_row _ rfl _ _ 30 rfl 3 i0 (.int .i64 0) Tryz.underlying30 hi0 hz0 hz1 rfl .i64 .i64 n rfl rfl QS aj ?_)
 have HN0:Hid (b1≠w1.heap.size/\b2≠w1.heap.size/\b3≠w1.heap.size/\b4≠w1.heap.size):=ah ⟨dB hX.a1.lt,dB hX.a2.lt,dB hX.a3.lt,dB hX.a4.lt⟩;have HBS:=ah hB.size;generalize hb0:w1.heap.size=b0 at *;generalize hW:World.alloc _ _=W2;have hA:At W2 b0 (.cells (aO f n 0) 3):=by rw[<-hW,<-hb0,<-jT];exact At.new _ _
 replace hX:bY W2 b1 b2 b3 b4 lf p s q:=hW▸hX.keep (Below.alloc' aF _);replace hB:Below w.heap.size w W2:=hW▸Below.alloc' hB _;have HN1:Hid (w.heap.size<=b0):=HBS;clear hW hb0;go_wp2
 go_loopw [30] (λi wr=>∃k:Nat,k<=n/\i=.int .i64 k/\At wr b0 (.cells (aO f n k) 3)/\bY wr b1 b2 b3 b4 lf p s q/\Below w.heap.size w wr) (λi _=>n-(intOf i).toNat)
 case atStart=>exact⟨0,by omega,rfl,hA,hX,hB⟩
 case round =>
  obtain⟨k,hk,rfl,hA,hX,hB⟩:=hrel;by_cases hlt:k<n
  . rcases Nat.eq_zero_or_pos k with rfl|h0
    . have acL:=ah (ku f hlt)
      have HFZ:=HF0;obtain⟨c1,c2,c3,c4⟩:=hX.cells
      go_upto_region 12 with((go_at_call 158;refine(Ls lf p s q _ n b1 b2 b3 b4 _ c1 c2 c3 c4 p0 p1 s0 s2 aj aj).mono ?_;rintro e w2 ⟨rfl,hb⟩;clear c1 c2 c3 c4;replace hX:=hX.keep hb;replace hA:=hA.keep hb;replace hB:=Below.ay hB aD hb;obtain⟨c1,c2,c3,c4⟩:=hX.cells;have hz:=hA.thaw 0;have hcc:=hA.cell 0;rw[dh _ hlt]at hcc;have acM:=hA.lt))
      generalize hW:World.setCell _ _ _=W4;replace hA:At W4 b0 (.cells (aO f n 1) 3):=by
       rw[<-hW,<-acL.out,<-HFZ.out];exact hA.set 0 _
      replace hX:bY W4 b1 b2 b3 b4 lf p s q:=hW▸hX.off HN0.out _ _;replace hB:Below w.heap.size w W4:=hW▸Below.setCell hB HN1.out _;clear hW hz hcc acM c1 c2 c3 c4;go_wp2
      go_roundw
      case rel=>exact⟨1,by omega,by go_num,hA,hX,hB⟩
      case measure=>simp[intOf];omega
    . obtain⟨m,hm⟩:∃m,k=m+1:=⟨k-1,by omega⟩
      have HST:Hid (Fx.add (Fx.add (Fx.add (f m) (l.getD m 0)) gap) (Fx.sub (Ju.fr lf p s q (k:Int)) (Ju.fr lf p s q (m:Int)))=f k):=ah (by subst hm;exact HFS.out m);have acL:=ah (ku f hlt);have hz0:((k:Int)==0)=false:=by simp;omega
      have hw:IntKind.i64.wrap ((k:Int)-1)=(m:Int):=by rw[IntWalk.i64_in _ aj];omega
      have hmn:m<n:=by omega
      have hmk:m<k:=by omega
      obtain⟨b5,o5,xK,l5,c5⟩:=(HI.out.after hB).at_ (k:=m) (by rw[HL.out];exact hmn);have c6:=hA.cell m;rw[dh _ hmn,if_pos hmk]at c6;have l6:=hA.lt;generalize l.getD m 0=y at *;generalize f m=x at *;subst xK;have HM:=ah hm;clear hm
      go_upto_region 9 with(fail)
      refine xW ?_
      (repeat (first|refine nW ?_ | refine nX ?_ (hc:=by intro w2 hS;first|with_reducible exact J9 hS (pO _ _ _))|refine nY ?_))
      refine ak.cK ?_;intro w2 hS;replace hX:=hX.keep hS;replace hA:=hA.keep hS;replace hB:=Below.ay hB aD hS;obtain⟨c1,c2,c3,c4⟩:=hX.cells;clear hS c5 c6 l5 l6
      go_upto_region 11 with(first|(go_at_call 158;refine(Ls lf p s q _ n b1 b2 b3 b4 _ c1 c2 c3 c4 p0 p1 s0 s2 aj aj).mono ?_;rintro e w2 ⟨rfl,hb⟩;clear c1 c2 c3 c4;replace hX:=hX.keep hb;replace hA:=hA.keep hb;replace hB:=Below.ay hB aD hb;obtain⟨c1,c2,c3,c4⟩:=hX.cells)|first|(go_at_call 124;with_reducible refine wR (vW _ _ _) ?_))
      have hz:=hA.thaw k;have hcc:=hA.cell k;rw[dh _ hlt]at hcc;have acM:=hA.lt
      go_upto_region 12 with(first|(go_at_call 125;with_reducible refine wR (pO _ _ _) ?_))
      generalize hW:World.setCell _ _ _=W4;replace hA:At W4 b0 (.cells (aO f n (k+1)) 3):=by
       rw[<-hW,<-acL.out,<-HST.out];exact hA.set k _
      replace hX:bY W4 b1 b2 b3 b4 lf p s q:=hW▸hX.off HN0.out _ _;replace hB:Below w.heap.size w W4:=hW▸Below.setCell hB HN1.out _;clear hW hz hcc acM c1 c2 c3 c4;go_wp2
      go_roundw
      case rel=>exact⟨k+1,by omega,by go_num,hA,hX,hB⟩
      case measure=>simp[intOf];omega
  . obtain rfl:k=n:=by omega
    go_wp2;refine bodyPost_ret (v:=.slice (some ⟨b0,0,none⟩) k k) (by simp[results,Tryz.results102,go_sem, *];first|done|exact⟨rfl,rfl⟩|rfl) rfl ⟨⟨b0,rfl,HN1.out,gM f k JK hA⟩,hB⟩
end Go.Proofs.YtmidaiklolmkcaaGreat.Fix
