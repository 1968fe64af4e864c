/- Steps of the program (9); no conditions. -/
import Derived.Test.YtdnggaapcgomhaaGreatM08
set_option linter.all false
set_option maxRecDepth 100000
set_option maxHeartbeats 16000000
namespace Go.Proofs.YtdnggaapcgomhaaGreat.Fix
open Go.ChangeShapes Go.WideShapes Go.ChangeAt Go.RowKit
open Go.Proofs.Tryz renaming prog → ja0
open List renaming set_cons_zero → ja2,ext_getElem → jb5,length_map → jb7,getElem_mem → jc3,take_succ_eq_append_getElem → jc8,length_take → jc9
open World renaming alloc → ja4,setCell → ja5
variable {left p s q:Int}{b1 b2 b3 b4 k:Nat}{w W W':World}
theorem GM.put{k t e:TypeId}{W:World}{b n:Nat}{g:Lit->Option Value}(h:GM k W b n g)(K:Maps.Keyed ja0 k)(ht:Tryz.prog.underlying t=some (.map k e))(hn:n<maxLen){key v:Value}{kl:Lit}(hkey:keyOf ja0 k key=some kl) :
  ∃W' n',n'<=n+1/\(Instr.mapUpdate t (.map (some b)) key v).run ja0 W=.ok () W'/\GM k W' b n' (xO g kl v)/\Out (λx=>x=b) W W':=by
 obtain⟨D,h1,h2,h3⟩:=h;obtain⟨W',hr,ho,ht⟩:=h1.store K ht hn hkey (val:=v) rfl;have hle:=ho.size_le;refine⟨W',Maps.size (D.put kl (.held v)),hle,hr,⟨_,XJ ho,rfl,λy hy => ?_⟩,Out.turned ht⟩;exact Z1p
section
variable {Y:p9} {B:Int->Fw.Bx} {D:Int->Prop} {KM:World->Nat->Prop}
theorem RO.fresh(rY:∀(X X':World) (b:Nat),KM X b->Out (λq=>q≠b) X X'->KM X' b)(h:RO W Y B D KM)(hkm:Y.km<W.heap.size)(k:Out (λb=>b=Y.pm\/W.heap.size<=b) W W')(hp:∃es ck,At W' Y.pm (.map es ck)):RO W' Y B D KM:=by
 obtain⟨es0,UJ,hpm⟩:=h.FJ
 have cell:∀{b:Nat} {cs:Array Value} {T:TypeId},At W b (.cells cs T)->¬ (b=Y.pm\/W.heap.size<=b):=λ{b cs T} ha q=>by
  rcases q with rfl|q
  . have:=At.uniq ha hpm;cases this
  . exact absurd ha.lt ak
 have ks:∀{v:Value} {l:List Int},KS W v l->KS W' v l:=λ{v l} hk=>hk.out (λg hg q=>by
  obtain⟨cur,ha⟩:=hk.rowAt hg
  exact cell ha q) k
 refine⟨h.lay.out (cell h.lay) k,?_,λz hz => ?_,?_,h.wf,hp,h.pmb,h.pmk,h.pmr⟩
 . obtain⟨n,g,h1,h2⟩:=h.boxes
   exact⟨n,g,h1.out (λq=>by rcases q with q|q;exact h.pmb q.symm;exact absurd h1.lt ak) k,h2⟩
 . obtain⟨h1,h2,h3⟩:=h.box z hz
   exact⟨At.out h1 (cell h1) k,ks h2,ks h3⟩
 . refine rY _ _ _ h.kinds ⟨k.1,λb hb hn => ?_⟩
   have hb':b=Y.km:=Classical.byContradiction hn;subst hb';exact k.2 _ hb (λq=>by rcases q with q|q;exact h.pmk q.symm;omega)
end
def nH(cs:Array Value)(l:List Fw.Ld):Prop:=l.length*7<=cs.size/\∀i (h:i<l.length) j,j<7->cs[i*7+j]? = (dV l[i])[j]?
theorem nH.step{cs:Array Value}{l:List Fw.Ld}(h:nH cs l)(hk:k<l.length)(x0 x1:Int) :
  nH ((cs.setIfInBounds (k*7+5) (.int .i64 x0)).setIfInBounds (k*7+6) (.int .i64 x1)) (l.set k { l[k]with a0:=x0,a1:=x1 }):=by
 refine⟨by simpa using h.1,λi hi j hj => ?_⟩;have hi':i<l.length:=by simpa using hi
 have hs:=h.1;simp only[Array.getElem?_setIfInBounds,Array.size_setIfInBounds,List.getElem_set];by_cases e:k=i
 . subst e
   rw[if_pos rfl];have h0:=h.2 k hi' j hj;by_cases e6:k*7+6=k*7+j
   . obtain rfl:j=6:=by omega
     rw[if_pos rfl,if_pos ak];rfl
   . rw[if_neg e6]
     by_cases e5:k*7+5=k*7+j
     . obtain rfl:j=5:=by omega
       rw[if_pos rfl,if_pos ak];rfl
     . rw[if_neg e5,h0]
       rcases(show j=0\/j=1\/j=2\/j=3\/j=4 by omega)with rfl|rfl|rfl|rfl|rfl<;>rfl
 . rw[if_neg e,if_neg ak,if_neg ak]
   exact h.2 i hi' j hj
def Qb(f:Fw.Ld->Fw.Ld)(l:List Fw.Ld)(k:Nat):List Fw.Ld:=(l.take k).map f++l.drop k
theorem Yj(f:Fw.Ld->Fw.Ld)(l:List Fw.Ld):Qb f l 0=l:=by simp[Qb]
theorem abR(f:Fw.Ld->Fw.Ld)(l:List Fw.Ld):Qb f l l.length=l.map f:=by simp[Qb]
theorem Ep(f:Fw.Ld->Fw.Ld)(l:List Fw.Ld)(k:Nat):(Qb f l k).length=l.length:=by simp[Qb];omega
theorem abS(f:Fw.Ld->Fw.Ld)(l:List Fw.Ld)(hk:k<l.length):(Qb f l k)[k]'(by rw[Ep];exact hk)=l[k]:=by
 simp only[Qb];rw[List.getElem_append_right iJ];simp only[jb7,jc9,List.getElem_drop];congr 1;omega
theorem Yk(f:Fw.Ld->Fw.Ld)(l:List Fw.Ld)(hk:k<l.length):(Qb f l k).set k (f l[k])=Qb f l (k+1):=by
 apply jb5
 . simp[Qb];omega
 . intro i h1 h2
   simp only[Qb,List.getElem_set,List.getElem_append,jb7,jc9,List.getElem_map,List.getElem_take,List.getElem_drop];by_cases e:k=i
   . subst e;rw[if_pos rfl,dif_pos ak]
   . rw[if_neg e]
     by_cases hl:i<k
     . rw[dif_pos ak,dif_pos ak]
     . rw[dif_neg ak,dif_neg ak]
       congr 1;omega
theorem Yl{k L:Nat}(h:k<L):L-(intOf (.int .i64 ((k:Int)+1))).toNat<L-(intOf (.int .i64 (k:Int))).toNat:=by simp[intOf];omega
theorem CV.aiQ{P P' M:Nat->Prop}{v:Value}{c:List Fw.Ld×Int}{pm:Nat}{es:Array MapEntry}{ck:Nat}(h:CV W P v c)(hp:At W pm (.map es ck))(k:Out M W W')(hm:∀b,P b->b≠pm->¬ M b)(hq:∀b,P b->P' b):CV W' P' v c:=by
 obtain⟨A,cap,e,h⟩:=h;refine⟨A,cap,e,?_⟩;rcases h with h|⟨b,cs,e,hb,hA,hc⟩
 . exact .inl h
 . exact .inr ⟨b,cs,e,hq b hb,hA.out (hm b hb λq=>by subst q;have:=At.uniq hA hp;cases this) k,hc⟩
theorem nI{o:Oper}{a:Act}{t:TypeId}(m x y:Operand)(ho:o.op=.mapUpdate t m x y){vm vx vy:Value}(hm:a.eval m=vm)(hx:a.eval x=vx)(hy:a.eval y=vy)(hr:(Instr.mapUpdate t vm vx vy).run ja0 W=.ok () W'):(execOp a.eval o).run ja0 W=.ok .skip W':=by
 unfold execOp;simp only[ho,hm,hx,hy,Sem.run_bind,hr,Result.andThen_ok,Sem.run_pure]
section
variable {Y:p9} {B:Int->Fw.Bx} {D:Int->Prop} {KM:World->Nat->Prop}
theorem MO(hK:∀(X X':World) (b:Nat),KM X b->Below X X X'->KM X' b)(rY:∀(X X':World) (b:Nat),KM X b->Out (λq=>q≠b) X X'->KM X' b)(F:Int->Nat)(z i0 i1:Int)(hz:D z)(w:World)(hR:RO w Y B D KM)(n:Nat)(P:Nat->Prop)(hw:Kp Y B F n P w)(hP:∀b,P b->b<w.heap.size)(h0:Wf i0)(h1:Wf i1)(hne:(B z).fl≠[])(kf:FuncId)(hcf:∀(args:Array Value) (X:World),(callFunc kf args).run ja0 X=.ok (.enter kf args) X)(hkm:Y.km<w.heap.size)
  (Ol:∀X,KM X Y.km->(Instr.lookup 104 (.map (some Y.km)) (.int .i64 ((B z).sty.c 0)) false).run ja0 X=.ok (.func (.func kf) #[] #[]) X) (xs:List Fw.Ld) (hi:Int) (hcn:Fw.cont B (F z) z i0 i1=(xs.map (Fw.mv B i0 i1),hi)) (hDx:∀x∈xs,D x.id) (kk:Nat) (hnk:n+kk<maxLen) (hlx:xs.length<=10000)
  (g:Lit->Option Value) (hg:GM 99 w Y.pm n g) (hgv:g (klit z i0 i1)=none)
  (hkind:∀X,RO X Y B D KM->Kp Y B F n P X->(∀b,P b->b<X.heap.size)->Calls ja0 kf #[Y.lb,.agg #[z,i0,i1]] X λe X'=>∃R cap cs P' n',e=.returned (.agg #[.slice (some ⟨R,0,none⟩) xs.length cap,hi])/\X.heap.size<=R/\At X' R (.cells cs 101)/\nH cs xs/\n'<=n+kk/\Kp Y B F n' P' X'/\(∀b,P' b->P b\/X.heap.size<=b)/\¬ P' R/\Out (λb=>b=Y.pm) X X') :
  Calls ja0 83 #[Y.lb,.agg #[z,i0,i1]] w λe w'=>∃v P' n',e=.returned v/\CV w' P' v (Fw.cont B (F z) z i0 i1)/\n'<=n+kk+1/\Kp Y B F n' P' w'/\(∀b,P' b->P b\/w.heap.size<=b)/\Out (λb=>b=Y.pm) w w':=by
 have HW:=ah hw;have HCN:=ah hcn;have HKF:=ah Ol;have HKD:=ah hkind;clear hw hcn Ol hkind;obtain⟨hbx,hks,_⟩:=hR.box z hz;obtain⟨es0,UJ,hpm⟩:=hR.FJ;have hbig:Below w w ((w.alloc (.cells #[z,i0,i1] 99)).alloc (.cells #[.slice none 0 0,()] 167)):=aB (aB aD _) _;have hL:=λX (hb:Below ((w.alloc (.cells #[z,i0,i1] 99)).alloc (.cells #[.slice none 0 0,()] 167)).heap.size ((w.alloc (.cells #[z,i0,i1] 99)).alloc (.cells #[.slice none 0 0,()] 167)) X)=>(hR.keep hK (Below.after hbig hb)).look hz;have HR:=ah hR;have A0:At ((w.alloc (.cells #[z,i0,i1] 99)).alloc (.cells #[.slice none 0 0,()] 167)) w.heap.size (.cells #[z,i0,i1] 99):=At.alloc (At.new _ _) _;have A1:At ((w.alloc (.cells #[z,i0,i1] 99)).alloc (.cells #[.slice none 0 0,()] 167)) (w.heap.size+1) (.cells #[.slice none 0 0,()] 167):=At.new' _ Ku;have A2:=hbx.keep hbig;have AL:=hR.lay.keep hbig;have hB:=hbig;obtain⟨s,hs⟩:=aA ((B z).sty);obtain⟨fl,hfl⟩:=aA ((B z).fl);rw[hs]at A2;rw[hfl]at hks;obtain⟨A,cp,hvf,hI,hle,hmx,hAn⟩:=hks.ints;rw[hvf]at A2;generalize Y.va z=va at A2;generalize hib:(B z).ib=ib at A2;generalize hbz:Y.bl z=bz at *;have HS:=ah hs;have GJ:=ah hfl;have pG:=ah hbx;clear hbx hR hks hs hfl hvf hib;go_enter Tryz.func83,Tryz.ntmps83
 go_upto_region 1 with(fail)
 generalize (w.alloc (.cells #[z,i0,i1] 99)).alloc (.cells #[.slice none 0 0,()] 167)=W0 at *;have c0:=A0.lc;have Ca:=AL.lt;have Gd:W0.cell? ⟨Y.lb,2,none⟩=some (.map (some Y.bm)):=AL.cell 2;refine rZ ?_
 (repeat (first|refine jc ?_ | refine jd ?_ (hc:=by intro w2 hS;first|with_reducible exact iq hS (iO _))|refine je ?_))
 refine aj.bD ?_;intro w2 hS;replace A0:=At.keep A0 hS;replace A1:=At.keep A1 hS;replace A2:=At.keep A2 hS;replace AL:=At.keep AL hS;replace hB:=Below.ay hB aC hS;clear hS hL Gd Ca c0 hbig;have nU:w2.cell? ⟨bz,71,none⟩=some (.slice A fl.length cp):=aL.ext A2 16;have l2:=A2.lt;have c54:w2.cell? ⟨bz,54,none⟩=some (.int .i64 (s.c 54)):=aL.int A2 54 aG rfl;have l1:=A1.lt;have ML:w2.cell? ⟨w.heap.size+1,0,none⟩=some (.slice none 0 0):=A1.cell 0;have MN:w2.cell? ⟨w.heap.size+1,1,none⟩=some (.int .i64 0):=A1.cell 1;have z1:=A1.thaw;have hlz:((fl.length:Int)==0)=false:=by rw[<-GJ.out];simp;exact hne
 go_upto_region 4 with(fail)
 have c0:=A0.lc;have Ca:=AL.lt;have ly4:w2.cell? ⟨Y.lb,4,none⟩=some (.map (some Y.pm)):=AL.cell 4;have hzf:=HR.out.wf z hz;have hKL:=λX (hb:Below w2 w2 X)=>(hg.keep (Below.ay hB aC hb)).look_ok CJ Tryz.underlying105 (yQ X) (Ms hzf h0 h1);simp only[hgv,Option.getD_none,Option.isSome_none,PL]at hKL;have hS0:Below w2 w2 w2.drew:=Below.drew aD;refine iC (S:=λX=>Below w2 w2 X) 12 ?_ ?_
 . exact hS0
 intro hS1;clear hS0;refine aF 0 ?_;refine aF 1 ?_;refine aF 2 ?_;refine aF 3 ?_;refine aF 4 ?_;refine aF 5 ?_;refine aF 6 ?_;refine aF 7 ?_;refine aF 8 ?_;refine tk1 9 ?_;refine aj.Step.value eD ?_;have AN:At (w2.alloc (.cells #[.slice none 0 0,()] 167)).drew w2.heap.size (.cells #[.slice none 0 0,()] 167):=At.drew (At.new _ _);have hS2:Below w2 w2 (w2.alloc (.cells #[.slice none 0 0,()] 167)).drew:=Below.drew (aB aD _);have zo:=At.keep A1 hS2;have l1w:=l1;refine⟨λ_=>hS2,?_⟩
 (try simp only[bM,bN,bO,tks])
 generalize (w2.alloc (.cells #[.slice none 0 0,()] 167)).drew=w3 at *;obtain⟨ln,cn0,cn1⟩:=At.two AN;have zn0:=AN.thaw 0;have zn1:=AN.thaw 1;clear ML MN z1 l1;refine tk1 10 ?_;refine aj.Step.skip eD ?_;have qz:Below w2 w2 ((w3.setCell ⟨w2,0,none⟩ (.slice none 0 0)).setCell ⟨w2,1,none⟩ (.int .i64 0)):=Below.setCell (Below.setCell hS2 aW _) aW _;have AN2:=At.set (At.set AN 0 (.slice none 0 0)) 1 (.int .i64 0);replace zo:=At.off (At.off zo (n:=w2.heap.size) ak 0 (.slice none 0 0)) (n:=w2.heap.size) ak 1 (.int .i64 0);refine⟨λ_=>qz,?_⟩
 (try simp only[Act.put])
 generalize (w3.setCell ⟨w2,0,none⟩ (.slice none 0 0)).setCell ⟨w2,1,none⟩ (.int .i64 0)=w4 at *;clear hS2 AN ln cn0 cn1 zn0 zn1 hS1;refine aF 11 ?_;refine gZ ?_;replace hB:=Below.ay hB aC qz;replace A0:=At.keep A0 qz;replace A2:=At.keep A2 qz;replace AL:=At.keep AL qz;have hcw:w.heap.size+1<w2.heap.size:=l1w;clear qz hKL nU l2 c54 c0 Ca ly4 l1w;generalize hnc:w2.heap.size=nc at *;clear hnc
 go_upto_region 6 with(fail)
 have hpl:=hP _ HW.out.1;have lp0:w.heap.size≠Y.pm:=by omega
 have lp1:w.heap.size+1≠Y.pm:=by omega
 have lpn:nc≠Y.pm:=by omega
 have Kt:bz≠Y.pm:=λq=>by have:=At.uniq pG.out (q▸hpm);cases this
 have lbp:Y.lb≠Y.pm:=λq=>by have:=At.uniq HR.out.lay (q▸hpm);cases this
 have akF:=pG.out.lt;have akG:=HR.out.lay.lt;have lbn:bz≠nc:=by omega
 have lln:Y.lb≠nc:=by omega
 have l0n:w.heap.size≠nc:=by omega
 have c0:=A0.lc;have Ca:=AL.lt;have ly3:w4.cell? ⟨Y.lb,3,none⟩=some (.map (some Y.km)):=AL.cell 3;have l2:=A2.lt;have c00:w4.cell? ⟨bz,0,none⟩=some (.int .i64 (s.c 0)):=aL.int A2 0 aG rfl;have aiR:=hK _ _ _ HR.out.kinds hB
 have hkl:=λX (hO:Out (λb=>b=Y.pm\/b=nc) w4 X)=>HKF.out X (rY _ _ _ aiR ⟨hO.1,λb hb hn=>by
  have hb':b=Y.km:=Classical.byContradiction hn;subst hb'
  exact hO.2 _ hb (λq=>by rcases q with q|q;exact HR.out.pmk q.symm;omega)⟩)
 rw[HS.out]at hkl;have hS0:Out (λb=>b=Y.pm\/b=nc) w4 w4.drew:=(Out.refl _ _).drew;refine iC (S:=λX=>Out (λb=>b=Y.pm\/b=nc) w4 X) 14 ?_ ?_
 . exact hS0
 intro hS1;clear hS0;refine Wh 0 ?_;refine Wh 1 ?_;refine Wh 2 ?_;refine Wh 3 ?_;refine Wh 4 ?_;refine Wh 5 ?_;refine Wh 6 ?_;refine Wh 7 ?_;refine Wh 8 ?_;refine Wh 9 ?_;refine Wh 10 ?_;refine Wh 11 ?_;have hB4:Below w w w4.drew:=Below.drew hB;have hcall:=HKD.out w4.drew (HR.out.keep hK hB4) (HW.out.out (M:=λ_=>False) (Out.of_below hB4) λ_ _ q=>q) (λb hb=>aT (hP b hb) hB4.size);refine tk1 12 ?_;refine aj.Step.call (f:=kf) eD hcall ?_;rintro e w6 ⟨R,cap,cs,P5,n5,rfl,hRn,hAR,hrow,hn5,hK5,CU,Ym,BI⟩;have iV:Out (λb=>b=Y.pm) w4 w6:=Out.trans (Out.refl _ w4).drew BI;refine⟨_,rfl,λ_=>iV.mono λb _ q => .inl q,?_⟩;clear hcall BI hkl hS1
 (try simp only[bM,bN,bO,tks])
 replace A0:=A0.out lp0 iV;have AN3:=AN2.out lpn iV;obtain⟨ln,cn0,cn1⟩:=At.two AN3;have zn0:=AN3.thaw 0;have zn1:=AN3.thaw 1;refine tk1 13 ?_;refine aj.Step.skip eD ?_;refine⟨λ_=>Out.set (Out.set (iV.mono λb _ q => .inl q) (.inr rfl) 0 _) (.inr rfl) 1 _,?_⟩
 (try simp only[Act.put])
 refine gZ ?_;have AN4:At ((w6.setCell ⟨nc,0,none⟩ (.slice R xs.length cap)).setCell ⟨nc,1,none⟩ (.int .i64 hi)) nc (.cells #[.slice R xs.length cap,hi] 167):=At.set (At.set AN3 0 _) 1 _;have akH:w4.heap.size<=R:=hRn;have akI:nc<w4.heap.size:=AN2.lt;have hQ:Out (λb=>b=nc\/b=R) w6 ((w6.setCell ⟨nc,0,none⟩ (.slice R xs.length cap)).setCell ⟨nc,1,none⟩ (.int .i64 hi)):=Out.set (Out.set (Out.refl _ _) (.inl rfl) 0 _) (.inl rfl) 1 _;replace A0:=At.off (At.off A0 (n:=nc) l0n 0 (.slice R xs.length cap)) (n:=nc) l0n 1 (.int .i64 hi);have aiS:=At.off (At.off (At.out zo lp1 iV) (n:=nc) ak 0 (.slice R xs.length cap)) (n:=nc) ak 1 (.int .i64 hi);have aeb:R≠nc:=by omega
 replace hAR:=At.off (At.off hAR (n:=nc) aeb 0 (.slice R xs.length cap)) (n:=nc) aeb 1 (.int .i64 hi);generalize (w6.setCell ⟨nc,0,none⟩ (.slice R xs.length cap)).setCell ⟨nc,1,none⟩ (.int .i64 hi)=w7 at *;clear cn0 cn1 zn0 zn1 ln AN3 c0 Ca ly3 l2 c00;obtain⟨ln,cn0,cn1⟩:=At.two AN4;have zn0:=AN4.thaw 0;have zn1:=AN4.thaw 1;have agc:=ah hlx;have agd:Out (λb=>b=Y.pm\/w.heap.size<=b) w w7:=Out.trans' ((Out.of_below hB (M:=λb=>b=Y.pm\/w.heap.size<=b)).trans (iV.mono λb _ q => .inl q)) hQ λb hb q=>by rcases q with rfl|rfl<;>omega
 obtain⟨es7,ck7,agf⟩:∃es ck,At w7 Y.pm (.map es ck):=by
  obtain⟨g5,hg5,_⟩:=hK5.2;obtain⟨es,ck,q⟩:=hg5.obj;exact⟨es,ck,q.out (by rintro(e|e)<;>omega) hQ⟩
 have lR0:w.heap.size≠R:=by omega
 have lRn:nc≠R:=λq=>aeb q.symm;have lRp:Y.pm≠R:=by omega
 clear hlx;go_wp2
 go_loopw [56] (λi wr=>∃k cs',k<=xs.length/\i=.int .i64 (k:Nat)/\At wr R (.cells cs' 101)/\nH cs' (Qb (Fw.mv B i0 i1) xs k)/\Out (λb=>b=R) w7 wr) (λi _=>xs.length-(intOf i).toNat)
 case atStart=>exact⟨0,cs,by omega,rfl,hAR,by rw[Yj];exact hrow,Out.refl _ _⟩
 case round =>
  obtain⟨k,cs',hkl,rfl,hA',hrow',Bg⟩:=hrel;have AN5:=AN4.out lRn Bg;have A05:=A0.out lR0 Bg;by_cases hlt:k<xs.length
  . have hrl:k<(Qb (Fw.mv B i0 i1) xs k).length:=by rw[Ep];exact hlt
    have hge:=abS (Fw.mv B i0 i1) xs hlt;obtain⟨x,hx⟩:=aA (xs[k]);have ho:=hrow'.2 k hrl 0 ak;have h5:=hrow'.2 k hrl 5 ak;have h6:=hrow'.2 k hrl 6 ak;rw[hge,hx]at ho h5 h6;have hstep:=λx0 x1=>hrow'.step hrl x0 x1;rw[hge,hx]at hstep;have hsu:=Yk (Fw.mv B i0 i1) xs hlt;rw[hx]at hsu;have hDk:D x.id:=hDx x (hx▸jc3 _);have agh:RO wr Y B D KM:=HR.out.fresh rY hkm (Out.trans' agd Bg λb hb q=>by rcases q with rfl;omega) ⟨es7,ck7,agf.out lRp Bg⟩;have hmv:=UU hK x.id i0 i1 x.a0 x.a1 hDk R (k*7) cs' wr.drew (agh.keep hK (Below.drew aD)) (At.drew hA') ho h5 h6;have hfx:∀a b,a=(if (B x.id).sty.c 1=1 then Fw.zw (B x.id).sty 0 i0 x.a0 else x.a0)->b=(if (B x.id).sty.c 1=1 then Fw.zw (B x.id).sty 1 i1 x.a1 else x.a1)->({ x with a0:=a,a1:=b }:Fw.Ld)=Fw.mv B i0 i1 x:=by
     rintro a b rfl rfl;unfold Fw.mv;split<;>rfl
    have HR9:Hid (nH ((cs'.setIfInBounds (k*7+5) (.int .i64 (if (B x.id).sty.c 1=1 then Fw.zw (B x.id).sty 0 i0 x.a0 else x.a0))).setIfInBounds (k*7+6) (.int .i64 (if (B x.id).sty.c 1=1 then Fw.zw (B x.id).sty 1 i1 x.a1 else x.a1))) (Qb (Fw.mv B i0 i1) xs (k+1))):=ah (by
     have q:=hstep (if (B x.id).sty.c 1=1 then Fw.zw (B x.id).sty 0 i0 x.a0 else x.a0) (if (B x.id).sty.c 1=1 then Fw.zw (B x.id).sty 1 i1 x.a1 else x.a1);rw[hfx _ _ rfl rfl,hsu]at q
     exact q)
    have Db:=ah hlt;have HMV:=ah hmv;have hcmp:(k:Int)<(xs.length:Int):=by omega
    clear hstep hsu hfx hmv hge ho h5 h6 hrow' hrl hx agh;obtain⟨l5,d0,d1⟩:=At.two AN5;obtain⟨l6,e0,e1,e2⟩:=At.three A05;have Cc:=hA'.lt
    go_upto_region 10 with(fail)
    have hS0:Out (λb=>b=R) wr wr.drew:=(Out.refl _ _).drew;refine iC (S:=λX=>Out (λb=>b=R) wr X) 8 ?_ ?_
    . exact hS0
    intro hS1;clear hS0;refine yc 0 ?_;refine yc 1 ?_;refine yc 2 ?_;refine yc 3 ?_;refine yc 4 ?_;refine yc 5 ?_;refine yc 6 ?_;refine tk1 7 ?_;refine aj.Step.call eD HMV.out ?_;rintro e w8 ⟨rfl,Po,hO8⟩;have Hz:Out (λb=>b=R) wr w8:=(Out.refl _ wr).drew.trans hO8;refine⟨_,rfl,λ_=>Hz,?_⟩
    (try simp only[bM,bN,bO,tks])
    refine gZ ?_;clear hS1 hO8 d0 d1 e0 e1 e2 l5 l6;have hwk:IntKind.i64.wrap ((k:Int)+1)=(k:Int)+1:=by have q1:=agc.out;have q2:=Db.out;exact IntWalk.i64_in _ ak
    have akJ:wrap64 ((k:Int)+1)=(k:Int)+1:=by rw[<-IntWalk.i64_left];exact hwk
    go_wp2
    go_roundw
    case rel=>exact⟨k+1,_,Nat.succ_le_of_lt Db.out,by have q1:=agc.out;have q2:=Db.out;go_num,Po,HR9.out,Bg.trans Hz⟩
    case measure=>exact Yl Db.out
  . obtain rfl:k=xs.length:=by omega
    have HRW:=ah hrow';have aiT:Out (λb=>b=Y.pm\/w.heap.size<=b) w wr:=Out.trans' agd Bg λb hb q=>by rcases q with rfl;omega
    have hQr:Out (λb=>b=nc\/b=R) w6 wr:=hQ.trans (Bg.mono λb _ q => .inr q)
    have hKr:Kp Y B F n5 P5 wr:=hK5.out hQr λb hb=>by
     rintro(rfl|rfl)
     . rcases CU _ hb with q|q
       . exact absurd (hP _ q) ak
       . simp only[World.size_drew]at q;omega
     . exact Ym hb
    obtain⟨hpp,g5,hg5,aiU⟩:=hKr;have hzf:=HR.out.wf z hz;obtain⟨Wp,np,hnp,hput,hgp,hOp⟩:=(hg5.keep (Below.drew aD)).put (W:=wr.drew) (v:=.agg #[.slice R xs.length cap,hi]) CJ Tryz.underlying105 ak (Ms hzf h0 h1);have ALr:=(AL.out lbp iV).out (M:=λb=>b=nc\/b=R) (by rintro(rfl|rfl)<;>omega) hQr;obtain⟨l5,d0,d1⟩:=At.two AN5;obtain⟨l6,e0,e1,e2⟩:=At.three A05;have llr:=ALr.lt;have ly4:wr.cell? ⟨Y.lb,4,none⟩=some (.map (some Y.pm)):=ALr.cell 4;clear hrow'
    go_upto_region 12 with(fail)
    have hS0:Out (λb=>b=Y.pm) wr wr.drew:=(Out.refl _ _).drew;refine iC (S:=λX=>Out (λb=>b=Y.pm) wr X) 7 ?_ ?_
    . exact hS0
    intro hS1;clear hS0;refine yc 0 ?_;refine yc 1 ?_;refine yc 2 ?_;refine yc 3 ?_;refine yc 4 ?_;refine yc 5 ?_;refine tk1 6 ?_;refine aj.Step.skip (nI (.tmp 71) (.tmp 72) (.tmp 73) rfl rfl rfl rfl hput) ?_;have UY:Out (λb=>b=Y.pm) wr Wp:=(Out.refl _ wr).drew.trans hOp;refine⟨λ_=>UY,?_⟩
    (try simp only[Act.put])
    refine gZ ?_;have MP:Out (λb=>b=Y.pm\/w.heap.size<=b) w Wp:=Out.trans' aiT UY λb hb q => .inl q;have hAr:=hA'.out (M:=λb=>b=Y.pm) (λq=>lRp q.symm) UY;have AN6:=AN5.out lpn UY;have A16:=At.out (At.out aiS ak Bg) lp1 UY;obtain⟨l7,f0,f1⟩:=At.two AN6;obtain⟨l8,k0,k1⟩:=At.two A16;have zk0:=A16.thaw 0;have zk1:=A16.thaw 1;clear d0 d1 e0 e1 e2 l5 l6 ly4 llr hS1;go_wp2;generalize hW:ja5 _ _ _=W9;have Hz:Out (λb=>b=w.heap.size+1) Wp W9:=hW▸Out.set (M:=λb=>b=w.heap.size+1) (Out.set (M:=λb=>b=w.heap.size+1) (Out.refl _ _) rfl 0 _) rfl 1 _;have A19:At W9 (w.heap.size+1) (.cells #[.slice R xs.length cap,hi] 167):=hW▸At.set (At.set A16 0 _) 1 _;obtain⟨l9,g0,g1⟩:=At.two A19
    have aiV:¬ P5 (w.heap.size+1):=λhb=>by
     rcases CU _ hb with q|q
     . exact absurd (hP _ q) ak
     . simp only[World.size_drew]at q;omega
    have hP7:∀b,(P5 b\/b=R)->¬ (b=w.heap.size+1):=λb hb q=>by
     subst q;rcases hb with hb|hb
     . exact aiV hb
     . omega
    have hcv:CV W9 (λb=>P5 b\/b=R) (.agg #[.slice R xs.length cap,hi]) (Fw.cont B (F z) z i0 i1):=by
     rw[HCN.out];refine⟨some ⟨R,0,none⟩,cap,by simp,.inr ⟨R,cs',rfl,.inr rfl,hAr.out (λq=>by omega) Hz,?_⟩⟩;have q:=HRW.out;rw[abR]at q;exact q.2
    refine bodyPost_ret (v:=.agg #[.slice R xs.length cap,hi]) Z4b rfl ⟨_,(λb=>P5 b\/b=R),np,rfl,hcv,by omega,?_,?_,?_⟩
    . refine⟨.inl hpp,_,hgp.out (λq=>lp1 q.symm) Hz,λz' a b v' hz' ha hb hg' => ?_⟩
      by_cases e:klit z' a b=klit z i0 i1
      . obtain⟨rfl,rfl,rfl⟩:=XL hz' ha hb hzf h0 h1 e
        rw[iU]at hg';injection hg' with hg';subst hg';exact hcv
      . rw[jZ e]at hg'
        exact(CV.aiQ (P':=P5) (aiU _ _ _ _ hz' ha hb hg') (agf.out lRp Bg) UY (λb _ hn q=>hn q) λ_ q=>q).out Hz (λb hb=>hP7 b (.inl hb)) λb hb => .inl hb
    . intro b hb
      rcases hb with hb|rfl
      . rcases CU _ hb with q|q
        . exact .inl q
        . simp only[World.size_drew]at q;exact .inr (aJ hB.size q)
      . exact .inr ak
    . exact(Out.trans' MP Hz λb hb q=>by omega).mono λb hb q=>by rcases q with q|q;exact q;omega
end
theorem CX:Maps.Keyed ja0 54:=Maps.int_keyed Tryz.underlying54
theorem Sb{z:Int}(h:Wf z):keyOf ja0 54 (.int .i64 z)=some (.int .i64 z):=Maps.keyOf_int_mk Tryz.underlying54 h
def fnv(f:FuncId):Value:=.func (.func f) #[] #[]
def nP(W:World)(b:Nat):Prop:=∃n g,GM 54 W b n g/\g (.int .i64 0)=some (fnv 111)/\g (.int .i64 1)=some (fnv 112)/\g (.int .i64 2)=some (fnv 113)
theorem nP.keep(X X':World)(b:Nat)(h:nP X b)(hb:Below X X X'):nP X' b:=by
 obtain⟨n,g,h1,h2⟩:=h;exact⟨n,g,h1.keep hb,h2⟩
theorem nP.out(X X':World)(b:Nat)(h:nP X b)(k:Out (λq=>q≠b) X X'):nP X' b:=by
 obtain⟨n,g,h1,h2⟩:=h;exact⟨n,g,h1.out (λq=>q rfl) k,h2⟩
theorem Qc(w:World):Calls ja0 80 #[] w λe w'=>(∃b,e=.returned (.map (some b))/\w.heap.size<=b/\nP w' b)/\Below w w w':=by
 have hmm:=@run_makeMap ja0;obtain⟨W1,n1,k1,p1,g1,o1⟩:=(GM.made 54 w).put (v:=fnv 111) CX Tryz.underlying104 (by simp[maxLen]) (Sb (z:=0) Z4e);obtain⟨W2,n2,k2,p2,g2,o2⟩:=g1.put (v:=fnv 112) CX Tryz.underlying104 Oi (Sb (z:=1) Z4e);obtain⟨W3,n3,k3,p3,g3,o3⟩:=g2.put (v:=fnv 113) CX Tryz.underlying104 Oi (Sb (z:=2) Z4e);have hO:Out (λb=>w.heap.size<=b) w W3:=Out.trans' (Out.trans' (Out.trans' (Out.of_below (M:=λb=>w.heap.size<=b) (aB aD (.map #[] 0))) o1 λb _ q=>by omega) o2 λb _ q=>by omega) o3 λb _ q=>by omega
 have hB:Below w w W3:=hO.below aC λb hb q=>by omega
 have hne:∀{a b:Int},a≠b->Lit.int .i64 a≠Lit.int .i64 b:=λh e=>h (by injection e);have hK:nP W3 w.heap.size:=⟨n3,_,g3,by rw[jZ (hne aG),jZ (hne aG),iU],by rw[jZ (hne aG),iU],by rw[iU]⟩;have HK:=ah hK;have HB:=ah hB;clear hK hB hO g1 g2 g3 o1 o2 o3 hne k1 k2 k3;unfold fnv at p1 p2 p3;go_enter Tryz.func80,Tryz.ntmps80
 go_wp2
 go_ret
 exact⟨⟨_,rfl,aH _,HK.out⟩,HB.out⟩
theorem nP.look{X:World}{b:Nat}(h:nP X b)(z:Int)(f:FuncId)(hz:(z=0/\f=111)\/(z=1/\f=112)\/(z=2/\f=113)):(Instr.lookup 104 (.map (some b)) (.int .i64 z) false).run ja0 X=.ok (.func (.func f) #[] #[]) X:=by
 obtain⟨n,g,h1,h2,h3,h4⟩:=h;have hw:Wf z:=by rw[iQ];omega
 rw[h1.look CX Tryz.underlying104 (z:=.nilFunc) aV (Sb hw)];rcases hz with⟨rfl,rfl⟩|⟨rfl,rfl⟩|⟨rfl,rfl⟩
 . rw[h2];rfl
 . rw[h3];rfl
 . rw[h4];rfl
section
variable {Y:p9} {B:Int->Fw.Bx} {F:Int->Nat} {D:Int->Prop} {KM:World->Nat->Prop} {w W W':World} {n n':Nat} {P0 P P':Nat->Prop}
structure pJ(Y:p9)(B:Int->Fw.Bx)(F:Int->Nat)(w:World)(P0:Nat->Prop)(n:Nat)(P:Nat->Prop)(W:World):Prop where
 out:Out (λb=>b=Y.pm\/w.heap.size<=b) w W
 kp:Kp Y B F n P W
 lt:∀b,P b->b<W.heap.size
 new:∀b,P b->P0 b\/w.heap.size<=b
theorem Kp.cut(h:Kp Y B F n P W):Kp Y B F n (λb=>P b/\b<W.heap.size) W:=by
 obtain⟨hp,g,h1,h2⟩:=h;refine⟨⟨hp,h1.lt⟩,g,h1,λz a b v hz ha hb hg => ?_⟩;obtain⟨A,cap,e,q⟩:=h2 z a b v hz ha hb hg;refine⟨A,cap,e,?_⟩;rcases q with q|⟨r,cs,e1,e2,e3,e4⟩
 . exact .inl q
 . exact .inr ⟨r,cs,e1,⟨e2,e3.lt⟩,e3,e4⟩
theorem Kp.pm(h:Kp Y B F n P W):Y.pm<W.heap.size/\∃es ck,At W Y.pm (.map es ck):=by
 obtain⟨hp,g,h1,h2⟩:=h;exact⟨h1.lt,h1.obj⟩
theorem pJ.start(h:Kp Y B F n P w)(hP:∀b,P b->b<w.heap.size):pJ Y B F w P n P w:=⟨Out.refl _ _,h,hP,λb hb => .inl hb⟩
theorem pJ.size(h:pJ Y B F w P0 n P W):w.heap.size<=W.heap.size:=h.out.size
theorem pJ.ro(rY:∀(X X':World) (b:Nat),KM X b->Out (λq=>q≠b) X X'->KM X' b)(hR:RO w Y B D KM)(hkm:Y.km<w.heap.size)(h:pJ Y B F w P0 n P W):RO W Y B D KM:=hR.fresh rY hkm h.out h.kp.pm.2
theorem pJ.own{M:Nat->Prop}(h:pJ Y B F w P0 n P W)(k:Out M W W')(hm:∀b,b<W.heap.size->M b->¬ P b/\w.heap.size<=b):pJ Y B F w P0 n P W' :=
 ⟨Out.trans' h.out k λb hb q => .inr (hm b (aT hb h.size) q).2,h.kp.out k λb hb q=>(hm b (h.lt b hb) q).1 hb,λb hb=>aT (h.lt b hb) k.size,h.new⟩
theorem pJ.after(h:pJ Y B F w P0 n P W)(k:Below W W W'):pJ Y B F w P0 n P W':=h.own (M:=λ_=>False) (Out.of_below k) λ_ _ q=>q.elim
theorem pJ.call(h:pJ Y B F w P0 n P W)(k1:Kp Y B F n' P' W')(k2:∀b,P' b->P b\/W.heap.size<=b)(k3:Out (λb=>b=Y.pm) W W'):pJ Y B F w P0 n' (λb=>P' b/\b<W'.heap.size) W' :=
 ⟨Out.trans' h.out k3 λb hb q => .inl q,k1.cut,λb hb=>hb.2,λb hb=>by
  rcases k2 b hb.1 with q|q
  . exact h.new b q
  . exact .inr (aJ h.size q)⟩
theorem pJ.fin(h:pJ Y B F w P0 n P W):Out (λb=>b=Y.pm) w W:=h.out.mono λb hb q=>by
 rcases q with q|q
 . exact q
 . omega
def vO(Y:p9)(B:Int->Fw.Bx)(F:Int->Nat)(D:Int->Prop)(KM:World->Nat->Prop)(f:Nat):Prop :=
 ∀(z r0 r1 t0 t1:Int) (w:World) (n:Nat) (P:Nat->Prop),D z->F z=f->RO w Y B D KM->Kp Y B F n P w->(∀b,P b->b<w.heap.size)->Y.km<w.heap.size->n+Fw.cst B f z<maxLen ->
  Calls ja0 45 #[Y.lb,z,.agg #[r0,r1],.agg #[t0,t1]] w λe w' =>
   e=.returned (.agg (dV (Fw.lay B f z r0 r1 t0 t1)))/\∃n' P',n'<=n+Fw.cst B f z/\Kp Y B F n' P' w'/\(∀b,P' b->P b\/w.heap.size<=b)/\Out (λb=>b=Y.pm) w w'
end
theorem Er{ops:Array Oper}{S:World->Prop}{o:Oper}{a:Act}(p:Operand){R q:Nat}{x:Im}(hw:Region.wanted o (yielded ops a.tmps)=true)(ho:o.op=.load 232 p)(hp:a.eval p=.pointer (some ⟨R,q,none⟩))(h:∀X,S X->qE X R q x):aj.Reads ja0 ops S o (.agg (lZ x)) a :=
 .inl ⟨hw,λX hX=>fM X8 P8 p ho hp (rH x) (h X hX)⟩
structure MQ(Y:p9)(B:Int->Fw.Bx)(D:Int->Prop)(F:Int->Nat)(f:Nat)(i0:Int)(x:Im):Prop where
 d:D x.ld.id
 f:F x.ld.id=f
 bx:x.bx=Y.bl x.ld.id
 m0:x.m0=Fw.mg (B x.ld.id).sty 0 0 i0
 m1:x.m1=Fw.mg (B x.ld.id).sty 0 1 i0
 m2:x.m2=Fw.mg (B x.ld.id).sty 1 0 i0
 m3:x.m3=Fw.mg (B x.ld.id).sty 1 1 i0
def Ce(B:Int->Fw.Bx)(f:Nat)(r0 r1 high:Int)(x:Im):Im :=
 if Fx.dD ((B x.ld.id).sty.c 5) r1=true then x else { x with ld:=Fw.lay B f x.ld.id r0 r1 x.ld.s0 (Fw.wr (Fx.limit (max (Fw.wr (high-ext1 x (B x.ld.id).sty)) 0) ((B x.ld.id).sty.c 9) ((B x.ld.id).sty.c 10) ((B x.ld.id).sty.c 13) ((B x.ld.id).sty.c 14) r1+Fw.wr (Fw.ed (B x.ld.id).sty 0+Fw.ed (B x.ld.id).sty 2))) }
def Es(g:Im->Im)(l:List Im)(k:Nat):List Im:=(l.take k).map g++l.drop k
theorem jy(g:Im->Im)(l:List Im)(k:Nat):(Es g l k).length=l.length:=by simp[Es];omega
theorem tF(g:Im->Im)(l:List Im)(hk:k<l.length):(Es g l k)[k]'(by rw[jy];exact hk)=l[k]:=by
 unfold Es;rw[List.getElem_append_right iJ];simp;congr 1;omega
theorem yR(g:Im->Im)(l:List Im)(hk:k<l.length):(Es g l k).set k (g l[k])=Es g l (k+1):=by
 unfold Es;have e:((l.take k).map g).length=k:=by simp;omega
 rw[List.set_append,if_neg ak,e,Nat.sub_self,List.drop_eq_getElem_cons hk,ja2,jc8 hk,List.map_append,List.append_assoc];rfl
theorem Et(g:Im->Im)(l:List Im):Es g l 0=l:=by simp[Es]
theorem JM(g:Im->Im)(l:List Im):Es g l l.length=l.map g:=by simp[Es]
theorem Yn(g:Im->Im)(l:List Im)(hk:k<l.length)(h:g l[k]=l[k]):Es g l (k+1)=Es g l k:=by
 rw[<-yR g l hk,h]
 exact jb5 aW λi h1 h2=>by
  by_cases e:k=i
  . subst e;rw[List.getElem_set_self,tF g l hk]
  . rw[List.getElem_set_ne e]
def iK(B:Int->Fw.Bx)(f:Nat)(l:List Im)(k:Nat):Nat:=((l.take k).map λx=>Fw.cst B f x.ld.id).sum
theorem rJ(B:Int->Fw.Bx)(f:Nat)(l:List Im)(hk:k<l.length):iK B f l (k+1)=iK B f l k+Fw.cst B f l[k].ld.id:=by
 unfold iK;rw[jc8 hk];exact Z2a
theorem wL(B:Int->Fw.Bx)(f:Nat)(l:List Im)(k:Nat):iK B f l k<=iK B f l l.length:=by
 unfold iK;rw[List.take_length]
 conv=>rhs;rw[<-List.take_append_drop k l,List.map_append,List.sum_append]
 omega
section
variable {Y:p9} {B:Int->Fw.Bx} {F:Int->Nat} {D:Int->Prop} {KM:World->Nat->Prop} {f:Nat} {w0:World} {P0:Nat->Prop}
theorem rM(hL:vO Y B F D KM f)(rY:∀(X X':World) (b:Nat),KM X b->Out (λq=>q≠b) X X'->KM X' b)(hR0:RO w0 Y B D KM)(hkm:Y.km<w0.heap.size){n:Nat}{P:Nat->Prop}{W:World}(h:pJ Y B F w0 P0 n P W)(z r0 r1 t0 t1:Int)(hz:D z)(hf:F z=f)(hn:n+Fw.cst B f z<maxLen) :
  Calls ja0 45 #[Y.lb,z,.agg #[r0,r1],.agg #[t0,t1]] W λe W' =>
   e=.returned (.agg (dV (Fw.lay B f z r0 r1 t0 t1)))/\∃n' P',n'<=n+Fw.cst B f z/\pJ Y B F w0 P0 n' P' W'/\(∀b,b<W.heap.size->P' b->P b)/\Out (λb=>b=Y.pm) W W' :=
 (hL z r0 r1 t0 t1 W n P hz hf (h.ro rY hR0 hkm) h.kp h.lt (aT hkm h.size) hn).mono λe W' ⟨h1,n',P',h2,h3,h4,h5⟩=>⟨h1,n',_,h2,h.call h3 h4 h5,λb hb q=>by
  rcases h4 b q.1 with q|q
  . exact q
  . omega,h5⟩
theorem Yo(hL:vO Y B F D KM f)(hK:∀(X X':World) (b:Nat),KM X b->Below X X X'->KM X' b)(rY:∀(X X':World) (b:Nat),KM X b->Out (λq=>q≠b) X X'->KM X' b)(hR0:RO w0 Y B D KM)(hkm:Y.km<w0.heap.size)
  (R q c:Nat) (i0 r0 r1 high:Int) (xs:List Im) (cs:Array Value) (w:World) (n:Nat) (P:Nat->Prop) (hS:pJ Y B F w0 P0 n P w) (hA:At w R (.cells cs 232)) (hI:fq cs q xs) (hok:∀x∈xs,MQ Y B D F f i0 x) (Ym:¬ P R) (sU:w0.heap.size<=R) (hn:n+iK B f xs xs.length<maxLen) (hl:xs.length<=10000) :
  Calls ja0 189 #[Y.lb,.slice (some ⟨R,q,none⟩) xs.length c,.agg #[r0,r1],high] w λe w'=>e=.returned (.tuple #[]) /\
   ∃n' P' cs',n'<=n+iK B f xs xs.length/\pJ Y B F w0 P0 n' P' w'/\¬ P' R/\(∀b,b<w.heap.size->P' b->P b)/\At w' R (.cells cs' 232)/\fq cs' q (xs.map (Ce B f r0 r1 high))/\jw q xs.length cs cs'/\Out (λb=>b=Y.pm\/b=R) w w':=by
 obtain⟨es0,UJ,oz⟩:=hR0.FJ;have aiW:Y.pm<R:=aT oz.lt sU;obtain⟨m,hm⟩:=aA xs.length;have HM:=ah hm;have HN:=ah hn;have HOK:=ah hok;have uN:=ah hR0;have hRl:=hA.lt;have b1:Below w w (w.alloc (.cells #[r0,r1] 95)):=aB aD _;have A0:At (w.alloc (.cells #[r0,r1] 95)) w.heap.size (.cells #[r0,r1] 95):=At.new _ _;have hS1:=hS.after b1;have hA1:=hA.keep b1;have hsz:=b1.size;have hPw:=hS.lt;rw[hm]at hl ⊢;clear hn hok hR0 hS hA hm oz;go_enter Tryz.func189,Tryz.ntmps189
 go_upto_region 1 with(fail)
 generalize w.alloc (.cells #[r0,r1] 95)=w1 at *
 go_upto_region 2 with(fail)
 go_loopw [15] (λiv wr=>∃(k n':Nat) (P':Nat->Prop) (cs':Array Value),k<=m/\iv=.int .i64 k/\n'<=n+iK B f xs k/\pJ Y B F w0 P0 n' P' wr/\¬ P' R/\(∀b,b<=w.heap.size->P' b->P b)/\At wr R (.cells cs' 232)/\Hid (fq cs' q (Es (Ce B f r0 r1 high) xs k)/\jw q m cs cs')/\At wr w (.cells #[r0,r1] 95)/\Out (λb=>b=Y.pm\/b=R) w wr) (λiv _=>m-(intOf iv).toNat)
 case atStart=>exact⟨0,n,P,cs,eX _,rfl,by simp[iK],hS1,Ym,λb hb h=>h,hA1,ah ⟨by rw[Et];exact hI,jw.refl _ _ _⟩,A0,Out.of_below b1⟩
 case round =>
  clear hS1 hA1 A0 b1 hI hsz;obtain⟨k,n',P',cs',hk,rfl,hn',hSr,wS,xQ,hAr,hC,A0,hO⟩:=hrel;by_cases hlt:k<m
  . have hltz:(k:Int)<(m:Int):=by omega
    have hkx:k<xs.length:=by rw[HM.out];exact hlt
    have hkc:k<(Es (Ce B f r0 r1 high) xs k).length:=by rw[jy];exact hkx
    have pK:=hC.out.1.at_ hAr hkc;rw[tF _ _ hkx]at pK;obtain⟨x,hx⟩:=aA (xs[k]);have kg:=ah (HOK.out x (hx▸jc3 _));rw[hx]at pK;have HX:=ah hx;have hsR:True:=trivial;have hRr:=hSr.ro rY uN.out hkm;have hbx:=(hRr.box x.ld.id kg.out.d).1;rw[<-kg.out.bx]at hbx;obtain⟨s,hs⟩:=aA ((B x.ld.id).sty);rw[hs]at hbx;generalize Y.vf x.ld.id=vf at hbx;generalize Y.va x.ld.id=va at hbx;generalize (B x.ld.id).ib=ib at hbx;have HS:=ah hs;have pG:=ah hbx;have HIM:=ah pK;have oZ:=ah hSr;obtain⟨l2,bS,bX,bY,bZ,cu,cK,bU,bV⟩:=At.bx1 hbx;have Cc:=hAr.lt;have MR:wr.cell? ⟨R,q+k*17+12,none⟩=some (.pointer x.bx):=(pK 12 ak).trans rfl;have l0:=A0.lt;clear hRr hbx pK hs hx
    go_upto_region 6 with(fail)
    have b5:Below wr wr (wr.alloc (.cells #[s.c 5,s.c 6,s.c 9,s.c 10,s.c 13,s.c 14] 157)):=aB aD _;have AE:At (wr.alloc (.cells #[s.c 5,s.c 6,s.c 9,s.c 10,s.c 13,s.c 14] 157)) wr.heap.size (.cells #[s.c 5,s.c 6,s.c 9,s.c 10,s.c 13,s.c 14] 157):=At.new _ _;generalize wr.alloc (.cells #[s.c 5,s.c 6,s.c 9,s.c 10,s.c 13,s.c 14] 157)=W1 at *;obtain⟨e,he⟩:=aA wr.heap.size;rw[he]at AE;have hel:wr.heap.size<=e:=Nat.le_of_eq he;have akK:e<=wr.heap.size:=Nat.le_of_eq he.symm;rw[he];have B0:=A0.keep b5;have hB1:=hAr.keep b5;have hS1:=hSr.after b5;have gJ:Out (λb=>b=Y.pm\/b=R) w W1:=Out.trans' hO (Out.of_below (M:=λ_=>False) b5) λ_ _ q=>q.elim;have BL:=ah (pG.out.keep b5);have agi:=ah (λj hj=>(qE.keep HIM.out b5 Cc) j hj);have akL:w.heap.size<wr.heap.size:=A0.lt;clear he l2 bS bX bY bZ cu cK bU bV MR l0;obtain⟨l0,fu,fA⟩:=At.two B0;obtain⟨l1,e0,e1,e2,e3,e4,e5⟩:=At.six AE;cases hfx:Fx.dD (s.c 5) r1 with
    | true =>
      have hsame:Hid (Ce B f r0 r1 high xs[k]=xs[k]):=ah (by rw[HX.out];unfold Ce;rw[HS.out,hfx];rfl);have V6:=ah hfx;clear hfx
      go_wp2_with (go_at_call 118;(with_reducible refine(jY _ _ _ _ _ _ _ _).mono ?_);rintro e' w5 ⟨rfl,hb⟩;rw[V6.out])
      go_roundw
      case rel=>exact⟨k+1,n',P',cs',by omega,by go_num,by rw[rJ B f xs hkx];omega,hS1.after hb,wS,xQ,hB1.keep hb,ah (by rw[Yn _ _ hkx hsame.out];exact hC.out),B0.keep hb,Out.trans' gJ (Out.of_below (M:=λ_=>False) hb) λ_ _ q=>q.elim⟩
      case measure=>simp[intOf];omega
    | false =>
      have V6:=ah hfx;clear hfx
      go_upto_region 7 with(go_at_call 118;(with_reducible refine(jY _ _ _ _ _ _ _ _).mono ?_);rintro e' w5 ⟨rfl,hb⟩;rw[V6.out])
      have akM:=hb.size;have b15:=b5.size;have B5:=B0.keep hb;have AE5:=AE.keep hb;have xJ:=hB1.keep hb;have hS5:=hS1.after hb;have BI:Out (λb=>b=Y.pm\/b=R) w w5:=Out.trans' gJ (Out.of_below (M:=λ_=>False) hb) λ_ _ q=>q.elim;have MS:=ah (BL.out.keep hb);have aec:=ah (qE.keep (x:=x) agi.out hb ak);have HSF:=ah (show Ce B f r0 r1 high x={ x with ld:=Fw.lay B f x.ld.id r0 r1 x.ld.s0 (Fw.wr (Fx.limit (max (Fw.wr (high-ext1 x s)) 0) (s.c 9) (s.c 10) (s.c 13) (s.c 14) r1+Fw.wr (Fw.ed s 0+Fw.ed s 2))) }by unfold Ce;rw[HS.out,V6.out];rfl);clear hb l0 fu fA l1 e0 e1 e2 e3 e4 e5 B0 AE hB1 hS1 gJ BL agi b5;have hSd:Below w5 w5 w5.drew:=Below.drew aD;have Uq:=λX (h:Below w5 w5 X)=>RY x s vf va ib X (MS.out.keep h);obtain⟨ex1,aed⟩:=aA (ext1 x s);rw[aed,<-qK (high-ex1)]at HSF;simp only[aed]at Uq;obtain⟨d1,hd1⟩:=aA (IntKind.i64.wrap (high-ex1));rw[hd1]at HSF;obtain⟨lm,hlm⟩:=aA (Fx.limit (max d1 0) (s.c 9) (s.c 10) (s.c 13) (s.c 14) r1);rw[hlm]at HSF;have mD:=λX=>rA (s.c 5) (s.c 6) (s.c 9) (s.c 10) (s.c 13) (s.c 14) (max d1 0) r1 X;simp only[hlm]at mD;clear aed hlm;obtain⟨l0,fu,fA⟩:=At.two B5;obtain⟨l1,e0,e1,e2,e3,e4,e5⟩:=At.six AE5;have lR5:=xJ.lt;refine iC (S:=λX=>Below w5 w5 X) 12 ?_ ?_
      . exact hSd
      intro hx;clear hSd;refine aF 0 ?_;refine aF 1 ?_;refine aF 2 ?_;refine aF 3 ?_;refine aF 8 ?_;refine aF 9 ?_;refine jh 4 rfl (Er (.tmp 36) aR rfl rfl (λX h=>qE.keep aec.out h lR5)) ?_;refine tk1 5 ?_;refine aj.Step.call eD (Uq _ hx) ?_;rintro e' w6 ⟨rfl,hb⟩;replace hx:=Below.ay hx aC hb;clear hb;refine⟨_,rfl,λ_=>hx,?_⟩
      (try simp only[bM,bN,bO,tks])
      refine aF 6 ?_;refine aF 7 ?_;refine tk1 10 ?_;refine aj.Step.call eD (mD _) ?_;rintro e' w7 ⟨rfl,hb⟩;replace hx:=Below.ay hx aC hb;clear hb;refine⟨_,rfl,λ_=>hx,?_⟩
      (try simp only[bM,bN,bO,tks])
      refine aF 11 ?_;refine gZ ?_;have b7s:=hx.size;have B7:=B5.keep hx;have Oj:=xJ.keep hx;have hS7:=hS5.after hx;have Bg:Out (λb=>b=Y.pm\/b=R) w w7:=Out.trans' BI (Out.of_below (M:=λ_=>False) hx) λ_ _ q=>q.elim;have aee:=ah (MS.out.keep hx);have Yp:=ah (qE.keep (x:=x) aec.out hx lR5);clear hx l0 fu fA l1 e0 e1 e2 e3 e4 e5 B5 AE5 xJ hS5 BI MS aec Uq mD lR5 hd1;have uI:=λX=>eY (Fw.ed s 0) (Fw.ed s 2) X;obtain⟨e02,Gf⟩:=aA (Fw.wr (Fw.ed s 0+Fw.ed s 2));rw[Gf,<-qK (lm+e02)]at HSF;simp only[Gf]at uI;obtain⟨hh,MJ⟩:=aA (IntKind.i64.wrap (lm+e02));rw[MJ]at HSF;clear Gf;have cs0:w7.cell? ⟨R,q+k*17+8,none⟩=some (.int .i64 x.ld.s0):=(Yp.out 8 ak).trans rfl;have MR:w7.cell? ⟨R,q+k*17+12,none⟩=some (.pointer x.bx):=(Yp.out 12 ak).trans rfl;have lR7:=Oj.lt;obtain⟨l2,bS,bX,bY,bZ,cu,cK,bU,bV⟩:=At.bx1 aee.out;clear bS bX bY bZ cu cK
      go_upto_region 8 with(fail)
      refine aj.fQ (λa0 a W5=>∃(T:Nat) (u44 u45 u46 u47 u48 u49 u50 u51 u52 u53 u54 u55 u56 u57 u58 u59 u60 u61:Value),a={ a0 with tmps:=((((((((((((((((((a0.tmps.setIfInBounds 44 u44).setIfInBounds 45 u45).setIfInBounds 46 u46).setIfInBounds 47 u47).setIfInBounds 48 u48).setIfInBounds 49 u49).setIfInBounds 50 u50).setIfInBounds 51 u51).setIfInBounds 52 u52).setIfInBounds 53 u53).setIfInBounds 54 u54).setIfInBounds 55 u55).setIfInBounds 56 u56).setIfInBounds 57 u57).setIfInBounds 58 u58).setIfInBounds 59 u59).setIfInBounds 60 u60).setIfInBounds 61 u61).setIfInBounds 12 (.pointer T) }/\w7.heap.size<=T/\At W5 T (.cells #[x.ld.s0,hh] 95)/\Below w7 w7 W5) ?_ ?_
      . have hSd:Below w7 w7 w7.drew:=Below.drew aD
        refine iC (S:=λX=>Below w7 w7 X) 20 ?_ ?_
        . exact hSd
        intro hx;clear hSd;refine aF 0 ?_;refine aF 1 ?_;refine aF 2 ?_;refine aF 3 ?_;refine aF 4 ?_;refine aF 5 ?_;refine aF 6 ?_;refine aF 7 ?_;refine aF 8 ?_;refine aF 9 ?_;refine aF 10 ?_;refine aF 11 ?_;refine aF 12 ?_;refine aF 13 ?_;refine aF 14 ?_;clear l2 bU bV cs0 MR lR7 Yp aee Bg hS7 Oj B7;refine tk2 15 18 ?_ ?_
        . refine aj.Step.call eD (uI _) ?_
          rintro e' w9 ⟨rfl,hb⟩;replace hx:=Below.ay hx aC hb;clear hb;refine⟨_,rfl,λ_=>hx,?_⟩
          (try simp only[bM,bN,bO,tks])
          refine aF 16 ?_;refine aF 17 ?_;refine tk1 18 ?_;refine aj.Step.value (u:=.pointer w9) (w':=w9.alloc (.cells #[(),()] 95)) eD ?_;obtain⟨iL,uM,AT,fK,gT⟩:∃iL,iL=w9.alloc (.cells #[(),()] 95)/\At iL w9 (.cells #[(),()] 95)/\Below w9 w9 iL/\w7.heap.size<=w9.heap.size:=⟨_,rfl,At.new _ _,aB aD _,hx.size⟩;rw[<-uM];clear uM;replace hx:=Below.ay hx aC fK;generalize w9.heap.size=T at *;refine⟨λ_=>hx,?_⟩
          (try simp only[bM,bN,bO,tks])
          exact Zr
        . refine aj.Step.value (u:=.pointer w7.drew) (w':=w7.drew.alloc (.cells #[(),()] 95)) eD ?_
          obtain⟨iL,uM,AT,fK,gT⟩:∃iL,iL=w7.drew.alloc (.cells #[(),()] 95)/\At iL w7.drew (.cells #[(),()] 95)/\Below w7.drew w7.drew iL/\w7.heap.size<=w7.drew.heap.size:=⟨_,rfl,At.new _ _,aB aD _,hx.size⟩;rw[<-uM];clear uM;replace hx:=Below.ay hx aC fK;generalize w7.drew.heap.size=T at *;refine⟨λ_=>hx,?_⟩
          (try simp only[bM,bN,bO,tks])
          refine tk1 15 ?_;refine aj.Step.call eD (uI _) ?_;rintro e' w9 ⟨rfl,hb⟩;replace hx:=Below.ay hx aC hb;replace AT:=AT.keep hb;clear hb;refine⟨_,rfl,λ_=>hx,?_⟩
          (try simp only[bM,bN,bO,tks])
          refine aF 16 ?_;refine aF 17 ?_;exact Zr
      . rintro a W9 ⟨T,u44,u45,u46,u47,u48,u49,u50,u51,u52,u53,u54,u55,u56,u57,u58,u59,u60,u61,rfl,gT,AT,fK⟩
        simp only[List.setIfInBounds_toArray,ja2,List.set_cons_succ];clear uI MJ l2 bU bV cs0 MR;have b9s:=fK.size;have B9:=B7.keep fK;have pI:=Oj.keep fK;have Om:=(hS7.after fK).after ((Below.refl W9.heap.size W9).drew);have Hz:Out (λb=>b=Y.pm\/b=R) w W9:=Out.trans' Bg (Out.of_below (M:=λ_=>False) fK) λ_ _ q=>q.elim;have hid:W9.cell? ⟨R,q+k*17+5,none⟩=some (.int .i64 x.ld.id):=(qE.keep Yp.out fK lR7 5 ak).trans rfl;have lR9:=pI.lt;have hcs1:=rJ B f xs hkx;rw[HX.out]at hcs1;have hcs2:=wL B f xs (k+1);have hnn:=HN.out;have qF:=rM hL rY uN.out hkm Om x.ld.id r0 r1 x.ld.s0 hh kg.out.d kg.out.f ak;have OC:=ah (show q+k*17+5+7<=cs'.size by have:=hC.out.1.1;rw[jy]at this;have h2:k*17+17<=xs.length*17:=ak;omega);have aef:Fw.lay B f x.ld.id r0 r1 x.ld.s0 hh={ Fw.lay B f x.ld.id r0 r1 x.ld.s0 hh with id:=x.ld.id }:=rfl;obtain⟨ly,wK⟩:=aA (Fw.lay B f x.ld.id r0 r1 x.ld.s0 hh);have KQ:ly.id=x.ld.id:=by rw[<-wK];rfl
        rw[wK]at qF;have aiX:=ah (show Ce B f r0 r1 high x={ x with ld:=ly }by rw[HSF.out,<-wK]);clear aef wK HSF hS7 Oj B7 Bg Yp aee fK lR7;obtain⟨l0,fu,fA⟩:=At.two B9;obtain⟨lT,cT0,cT1⟩:=At.two AT;have n1:w.heap.size≠Y.pm:=by omega
        have n2:w.heap.size≠R:=by omega
        have n3:T≠Y.pm:=by omega
        have n4:T≠R:=by omega
        have hSd:Out (λb=>b=Y.pm\/b=R) W9 W9.drew/\W9.drew.cell? ⟨R,q+k*17+5,none⟩=some (.int .i64 x.ld.id):=⟨(Out.refl _ _).drew,hid⟩
        go_upto_region 9 with(fail)
        refine iC (S:=λX=>Out (λb=>b=Y.pm\/b=R) W9 X/\X.cell? ⟨R,q+k*17+5,none⟩=some (.int .i64 x.ld.id)) 14 ?_ ?_
        . exact hSd
        intro hx;clear hSd;refine fJ 0 ?_;refine fJ 1 ?_;refine fJ 2 ?_;refine fJ 3 ?_;refine fJ 4 ?_;refine fJ 5 ?_;refine fJ 6 ?_;refine fJ 7 ?_;refine fJ 8 ?_;refine fJ 9 ?_;refine tk1 10 ?_;refine aj.Step.call eD qF ?_;rintro e' iL ⟨rfl,n2',P2,hn2,mF,H7,jQ⟩;have Qd:Out (λb=>b=Y.pm) W9 iL:=(Out.refl _ W9).drew.trans jQ;have mJ:=pI.out (M:=λb=>b=Y.pm) ak Qd;have uD:iL.cell? ⟨R,q+k*17+5,none⟩=some (.int .i64 x.ld.id):=(Out.cell Qd (q+k*17+5) lR9 ak).trans hid;have B10:=B9.out (M:=λb=>b=Y.pm) n1 Qd;have JN:Out (λb=>b=Y.pm\/b=R) W9 iL/\iL.cell? ⟨R,q+k*17+5,none⟩=some (.int .i64 x.ld.id):=⟨Qd.mono λb _ h => .inl h,uD⟩;refine⟨_,rfl,λ_=>JN,?_⟩
        (try simp only[bM,bN,bO,tks])
        refine fJ 11 ?_;refine fJ 12 ?_;refine tk1 13 ?_;refine aj.Step.skip (aY mP (.tmp 74) (.tmp 72) rfl rfl rfl mJ (dB ly) OC.out (ou ly)) ?_;have nN:At (iL.setRow R (splice cs' (q+k*17+5) (dV ly))) R (.cells (splice cs' (q+k*17+5) (dV ly)) 232):=At.setRow mJ _;have jg:Out (λb=>b=R) iL (iL.setRow R (splice cs' (q+k*17+5) (dV ly))):=Out.setRow (M:=λb=>b=R) (Out.refl _ _) rfl _;have Bh:(iL.setRow R (splice cs' (q+k*17+5) (dV ly))).cell? ⟨R,q+k*17+5,none⟩=some (.int .i64 x.ld.id):=by
         exact Z1f
        refine⟨λ_=>⟨(Qd.mono λb _ h => .inl h).trans (jg.mono λb _ h => .inr h),Bh⟩,?_⟩
        (try simp only[bM,bN,bO,tks])
        refine gZ ?_;have qG:¬ P2 R:=λh=>wS (H7 R (by simpa using lR9) h);have hput:=hC.out.1.R6 hkc ly;rw[tF _ _ hkx,HX.out]at hput
        have Yq:Hid (fq (splice cs' (q+k*17+5) (dV ly)) q (Es (Ce B f r0 r1 high) xs (k+1))/\jw q m cs (splice cs' (q+k*17+5) (dV ly))):=ah ⟨by
         rw[<-yR _ _ hkx,HX.out,aiX.out]
         exact hput.1,hC.out.2.trans (by have:=hput.2;rw[jy,HM.out]at this;exact this)⟩
        have qH:=mF.own (M:=λb=>b=R) jg λb hb h=>by subst h;exact⟨qG,sU⟩
        have nR:Out (λb=>b=Y.pm\/b=R) w (iL.setRow R (splice cs' (q+k*17+5) (dV ly))):=(Hz.trans (Qd.mono λb _ h => .inl h)).trans (jg.mono λb _ h => .inr h);have B11:=B10.out (M:=λb=>b=R) n2 jg;have aeg:∀b,b<=w.heap.size->P2 b->P b:=λb hb h=>xQ b hb (H7 b (by simp only[World.size_drew];omega) h);generalize iL.setRow R (splice cs' (q+k*17+5) (dV ly))=qh at *;generalize splice cs' (q+k*17+5) (dV ly)=cs2 at *;clear hx hput mJ jg Bh uD B10 B9 pI Om Hz Qd jQ hid AT l0 fu fA lT cT0 cT1 H7 mF;go_wp2
        go_roundw
        case rel=>exact⟨k+1,n2',P2,cs2,by omega,by go_num,by omega,qH,qG,aeg,nN,Yq,B11,nR⟩
        case measure=>simp[intOf];omega
  . obtain rfl:k=m:=by omega
    go_wp2
    go_end0
    refine⟨rfl,n',P',cs',by rw[<-HM.out]at hn' ⊢;exact hn',hSr,wS,λb hb h=>xQ b ak h,hAr,?_,hC.out.2,hO⟩;have:=hC.out.1;rw[<-HM.out,JM]at this;exact this
end
theorem Bj(kind s room:Int)(w:World):Calls ja0 156 #[kind,s,room] w λe w'=>e=.returned (.int .i64 (Ju.across kind s room))/\w=w':=by
 by_cases h2:kind=2
 . subst h2
   have Hr:Hid (Ju.across 2 s room=Fx.div (Fx.sub room s) 2):=ah (by unfold Ju.across;simp);exact Z1b
 . by_cases h3:kind=3
   . subst h3
     have Hr:Hid (Ju.across 3 s room=Fx.sub room s):=ah (by unfold Ju.across;simp);exact Z1b
   . have Hr:Hid (Ju.across kind s room=0):=ah (by unfold Ju.across;rw[if_neg h2,if_neg h3])
     have g2:(kind==2)=false:=by simp[h2]
     have g3:(kind==3)=false:=by simp[h3]
     exact Z1b
theorem MU(left p s q k:Int)(n b1 b2 b3 b4:Nat)(w:World)(c1:w.cell? ⟨b1,0,none⟩=some (.int .i64 left))(c2:w.cell? ⟨b2,0,none⟩=some (.int .i64 p))(c3:w.cell? ⟨b3,0,none⟩=some (.int .i64 s))(c4:w.cell? ⟨b4,0,none⟩=some (.int .i64 q))(p0:0<=p)(p1:p<=1)(s0:0<=s)(s2:s<=2)(k0:0<=k)(k1:k<=100000) :
  Calls ja0 215 #[k,b1,b2,b3,b4] w λe w'=>e=.returned (.int .i64 (Ju.fr left p s q k))/\Below w w w':=by
 have l1:b1<w.heap.size:=World.block_lt_of_cell? _ _ c1;have l2:b2<w.heap.size:=World.block_lt_of_cell? _ _ c2;have l3:b3<w.heap.size:=World.block_lt_of_cell? _ _ c3;have l4:b4<w.heap.size:=World.block_lt_of_cell? _ _ c4;obtain⟨m1,m2⟩:0<=s*k/\s*k<=2*100000:=Fx.zJ s0 s2 k0 k1;have hw1:IntKind.i64.wrap (s*k)=s*k:=IntWalk.i64_in _ ak;have hw2:IntKind.i64.wrap (p+s*k)=p+s*k:=IntWalk.i64_in _ ak;go_enter Tryz.func215,Tryz.ntmps215
 go_upto_region 1 with(fail)
 refine rZ ?_
 (repeat (first|refine jc ?_ | refine jd ?_ (hc:=by intro w2 hS;first|with_reducible exact zn hS (abg _ _ _)|with_reducible exact zn hS (Ri _ _ _))|refine je ?_))
 refine aj.bD ?_;intro w2 hS;go_wp2
 go_ret
 exact⟨rfl,hS⟩
structure cO(w:World)(b1 b2 b3 b4:Nat)(left p s q:Int):Prop where
 a1:At w b1 (.cells #[left] 3)
 a2:At w b2 (.cells #[p] 3)
 a3:At w b3 (.cells #[s] 3)
 a4:At w b4 (.cells #[q] 3)
 n12:b1≠b2
 n13:b1≠b3
 n14:b1≠b4
 n23:b2≠b3
 n24:b2≠b4
 n34:b3≠b4
theorem cO.keep{w w':World}(h:cO w b1 b2 b3 b4 left p s q)(hb:Below w w w'):cO w' b1 b2 b3 b4 left p s q:=⟨h.a1.keep hb,h.a2.keep hb,h.a3.keep hb,h.a4.keep hb,h.n12,h.n13,h.n14,h.n23,h.n24,h.n34⟩
theorem cO.SK(h:cO w b1 b2 b3 b4 left p s q)(x:Int):cO (w.setCell ⟨b2,0,none⟩ (.int .i64 x)) b1 b2 b3 b4 left x s q :=
 ⟨h.a1.off h.n12 _ _,h.a2.set 0 _,h.a3.off h.n23.symm _ _,h.a4.off h.n24.symm _ _,h.n12,h.n13,h.n14,h.n23,h.n24,h.n34⟩
theorem cO.aeh(h:cO w b1 b2 b3 b4 left p s q)(x:Int):cO (w.setCell ⟨b3,0,none⟩ (.int .i64 x)) b1 b2 b3 b4 left p x q :=
 ⟨h.a1.off h.n13 _ _,h.a2.off h.n23 _ _,h.a3.set 0 _,h.a4.off h.n34.symm _ _,h.n12,h.n13,h.n14,h.n23,h.n24,h.n34⟩
theorem cO.SV(h:cO w b1 b2 b3 b4 left p s q)(x:Int):cO (w.setCell ⟨b4,0,none⟩ (.int .i64 x)) b1 b2 b3 b4 left p s x :=
 ⟨h.a1.off h.n14 _ _,h.a2.off h.n24 _ _,h.a3.off h.n34 _ _,h.a4.set 0 _,h.n12,h.n13,h.n14,h.n23,h.n24,h.n34⟩
theorem mG(w:World)(left:Int):cO ((((w.alloc (.cells #[left] 3)).alloc (.cells #[()] 3)).alloc (.cells #[()] 3)).alloc (.cells #[.int .i64 1] 3)) w.heap.size (w.heap.size+1) (w.heap.size+1+1) (w.heap.size+1+1+1) left 0 0 1 :=
 ⟨At.alloc (At.alloc (At.alloc (At.new _ _) _) _) _,At.alloc (At.alloc (At.new' _ aW) _) _,At.alloc (At.new' _ aW) _,At.new' _ aW,by omega,by omega,by omega,by omega,by omega,by omega⟩
theorem kZ(w:World)(a b c d:Obj):Below w w ((((w.alloc a).alloc b).alloc c).alloc d) :=
 aB (aB (aB (aB aD _) _) _) _
theorem cO.cells(h:cO w b1 b2 b3 b4 left p s q) :
  w.cell? ⟨b1,0,none⟩=some (.int .i64 left)/\w.cell? ⟨b2,0,none⟩=some (.int .i64 p)/\w.cell? ⟨b3,0,none⟩=some (.int .i64 s)/\w.cell? ⟨b4,0,none⟩=some (.int .i64 q) :=
 ⟨h.a1.cell 0,h.a2.cell 0,h.a3.cell 0,h.a4.cell 0⟩
theorem cO.GD(h:cO w b1 b2 b3 b4 left p s q) :
  w.frozen? ⟨b2,0,none⟩=false/\w.frozen? ⟨b3,0,none⟩=false/\w.frozen? ⟨b4,0,none⟩=false/\b2<w.heap.size/\b3<w.heap.size/\b4<w.heap.size :=
 ⟨h.a2.thaw 0,h.a3.thaw 0,h.a4.thaw 0,h.a2.lt,h.a3.lt,h.a4.lt⟩
theorem UZ(left n:Int)(w:World)(n0:0<=n)(n1:n<=100000):Calls ja0 193 #[.int .i64 1,left,n] w λe w'=>(∃b1 b2 b3 b4,e=.returned (.func (.func 215) #[] #[.pointer (some ⟨b1,0,none⟩),.pointer (some ⟨b2,0,none⟩),.pointer (some ⟨b3,0,none⟩),.pointer (some ⟨b4,0,none⟩)])/\cO w' b1 b2 b3 b4 left (1) (0) (1))/\Below w w w':=by
 have Jp:=@ru;go_enter Tryz.func193,Tryz.ntmps193
 go_upto_region 2 with(fail)
 generalize hW:ja4 (ja4 (ja4 (ja4 _ _) _) _) _=W1;have hX:cO W1 w.heap.size (w.heap.size+1) (w.heap.size+1+1) (w.heap.size+1+1+1) left 0 0 1:=hW▸mG w left;have hB:Below w w W1:=hW▸kZ w _ _ _ _;clear hW;obtain⟨m2,m3,m4⟩:w.heap.size<=w.heap.size+1/\w.heap.size<=w.heap.size+1+1/\w.heap.size<=w.heap.size+1+1+1:=⟨by omega,by omega,by omega⟩;generalize w.heap.size+1+1+1=b4 at *;generalize w.heap.size+1+1=b3 at *;generalize w.heap.size+1=b2 at *;have HX:=ah hX;obtain⟨c1,c2,c3,c4⟩:=hX.cells;obtain⟨z2,z3,z4,l2,l3,l4⟩:=hX.GD;have l1:=hX.a1.lt;have n23:=hX.n23;have n24:=hX.n24;have n34:=hX.n34;have n32:=hX.n23.symm;have n42:=hX.n24.symm;have n43:=hX.n34.symm;clear hX;go_wp2
 go_ret
 exact⟨⟨_,_,_,_,rfl,(HX.out.SK (1))⟩,(Below.setCell hB m2 _)⟩
theorem U0(left n:Int)(w:World)(n0:0<=n)(n1:n<=100000):Calls ja0 193 #[.int .i64 2,left,n] w λe w'=>(∃b1 b2 b3 b4,e=.returned (.func (.func 215) #[] #[.pointer (some ⟨b1,0,none⟩),.pointer (some ⟨b2,0,none⟩),.pointer (some ⟨b3,0,none⟩),.pointer (some ⟨b4,0,none⟩)])/\cO w' b1 b2 b3 b4 left (1) (0) (2))/\Below w w w':=by
 have Jp:=@ru;exact Z8
theorem MV(left n:Int)(w:World)(n0:0<=n)(n1:n<=100000)(h1:0<left)(h2:1<n):Calls ja0 193 #[.int .i64 3,left,n] w λe w'=>(∃b1 b2 b3 b4,e=.returned (.func (.func 215) #[] #[.pointer (some ⟨b1,0,none⟩),.pointer (some ⟨b2,0,none⟩),.pointer (some ⟨b3,0,none⟩),.pointer (some ⟨b4,0,none⟩)])/\cO w' b1 b2 b3 b4 left (0) (1) (n-1))/\Below w w w':=by
 have Jp:=@ru;go_enter Tryz.func193,Tryz.ntmps193
 go_upto_region 2 with(fail)
 generalize hW:ja4 (ja4 (ja4 (ja4 _ _) _) _) _=W1;have hX:cO W1 w.heap.size (w.heap.size+1) (w.heap.size+1+1) (w.heap.size+1+1+1) left 0 0 1:=hW▸mG w left;have hB:Below w w W1:=hW▸kZ w _ _ _ _;clear hW;obtain⟨m2,m3,m4⟩:w.heap.size<=w.heap.size+1/\w.heap.size<=w.heap.size+1+1/\w.heap.size<=w.heap.size+1+1+1:=⟨by omega,by omega,by omega⟩;generalize w.heap.size+1+1+1=b4 at *;generalize w.heap.size+1+1=b3 at *;generalize w.heap.size+1=b2 at *;have HX:=ah hX;obtain⟨c1,c2,c3,c4⟩:=hX.cells;obtain⟨z2,z3,z4,l2,l3,l4⟩:=hX.GD;have l1:=hX.a1.lt;have n23:=hX.n23;have n24:=hX.n24;have n34:=hX.n34;have n32:=hX.n23.symm;have n42:=hX.n24.symm;have n43:=hX.n34.symm;clear hX;go_wp2
 go_ret
 exact⟨⟨_,_,_,_,rfl,((HX.out.aeh (1)).SV (n-1))⟩,(Below.setCell (Below.setCell hB m3 _) m4 _)⟩
theorem Eu(left n:Int)(w:World)(n0:0<=n)(n1:n<=100000)(h1:left<=0):Calls ja0 193 #[.int .i64 3,left,n] w λe w'=>(∃b1 b2 b3 b4,e=.returned (.func (.func 215) #[] #[.pointer (some ⟨b1,0,none⟩),.pointer (some ⟨b2,0,none⟩),.pointer (some ⟨b3,0,none⟩),.pointer (some ⟨b4,0,none⟩)])/\cO w' b1 b2 b3 b4 left (0) (0) (1))/\Below w w w':=by
 have Jp:=@ru;have e1:decide (0<left)=false:=by simp;omega
 exact Z9
theorem Cg(left n:Int)(w:World)(n0:0<=n)(n1:n<=100000)(h1:0<left)(h2:n<=1):Calls ja0 193 #[.int .i64 3,left,n] w λe w'=>(∃b1 b2 b3 b4,e=.returned (.func (.func 215) #[] #[.pointer (some ⟨b1,0,none⟩),.pointer (some ⟨b2,0,none⟩),.pointer (some ⟨b3,0,none⟩),.pointer (some ⟨b4,0,none⟩)])/\cO w' b1 b2 b3 b4 left (0) (0) (1))/\Below w w w':=by
 have Jp:=@ru;have e2:decide (1<n)=false:=by simp;omega
 exact Z9
theorem Qe(left n:Int)(w:World)(n0:0<=n)(n1:n<=100000)(h1:0<left):Calls ja0 193 #[.int .i64 4,left,n] w λe w'=>(∃b1 b2 b3 b4,e=.returned (.func (.func 215) #[] #[.pointer (some ⟨b1,0,none⟩),.pointer (some ⟨b2,0,none⟩),.pointer (some ⟨b3,0,none⟩),.pointer (some ⟨b4,0,none⟩)])/\cO w' b1 b2 b3 b4 left (1) (2) (2*n))/\Below w w w':=by
 have Jp:=@ru;go_enter Tryz.func193,Tryz.ntmps193
 go_upto_region 2 with(fail)
 generalize hW:ja4 (ja4 (ja4 (ja4 _ _) _) _) _=W1;have hX:cO W1 w.heap.size (w.heap.size+1) (w.heap.size+1+1) (w.heap.size+1+1+1) left 0 0 1:=hW▸mG w left;have hB:Below w w W1:=hW▸kZ w _ _ _ _;clear hW;obtain⟨m2,m3,m4⟩:w.heap.size<=w.heap.size+1/\w.heap.size<=w.heap.size+1+1/\w.heap.size<=w.heap.size+1+1+1:=⟨by omega,by omega,by omega⟩;generalize w.heap.size+1+1+1=b4 at *;generalize w.heap.size+1+1=b3 at *;generalize w.heap.size+1=b2 at *;have HX:=ah hX;obtain⟨c1,c2,c3,c4⟩:=hX.cells;obtain⟨z2,z3,z4,l2,l3,l4⟩:=hX.GD;have l1:=hX.a1.lt;have n23:=hX.n23;have n24:=hX.n24;have n34:=hX.n34;have n32:=hX.n23.symm;have n42:=hX.n24.symm;have n43:=hX.n34.symm;clear hX;go_wp2
 go_ret
 exact⟨⟨_,_,_,_,rfl,(((HX.out.SK (1)).aeh (2)).SV (2*n))⟩,(Below.setCell (Below.setCell (Below.setCell hB m2 _) m3 _) m4 _)⟩
theorem Gg(left n:Int)(w:World)(n0:0<=n)(n1:n<=100000)(h1:left<=0):Calls ja0 193 #[.int .i64 4,left,n] w λe w'=>(∃b1 b2 b3 b4,e=.returned (.func (.func 215) #[] #[.pointer (some ⟨b1,0,none⟩),.pointer (some ⟨b2,0,none⟩),.pointer (some ⟨b3,0,none⟩),.pointer (some ⟨b4,0,none⟩)])/\cO w' b1 b2 b3 b4 left (1) (0) (2))/\Below w w w':=by
 have Jp:=@ru;have e1:decide (0<left)=false:=by simp;omega
 exact Z8
theorem Qf(left n:Int)(w:World)(n0:0<=n)(n1:n<=100000)(h1:0<left):Calls ja0 193 #[.int .i64 5,left,n] w λe w'=>(∃b1 b2 b3 b4,e=.returned (.func (.func 215) #[] #[.pointer (some ⟨b1,0,none⟩),.pointer (some ⟨b2,0,none⟩),.pointer (some ⟨b3,0,none⟩),.pointer (some ⟨b4,0,none⟩)])/\cO w' b1 b2 b3 b4 left (1) (1) (n+1))/\Below w w w':=by
 have Jp:=@ru;go_enter Tryz.func193,Tryz.ntmps193
 go_upto_region 2 with(fail)
 generalize hW:ja4 (ja4 (ja4 (ja4 _ _) _) _) _=W1;have hX:cO W1 w.heap.size (w.heap.size+1) (w.heap.size+1+1) (w.heap.size+1+1+1) left 0 0 1:=hW▸mG w left;have hB:Below w w W1:=hW▸kZ w _ _ _ _;clear hW;obtain⟨m2,m3,m4⟩:w.heap.size<=w.heap.size+1/\w.heap.size<=w.heap.size+1+1/\w.heap.size<=w.heap.size+1+1+1:=⟨by omega,by omega,by omega⟩;generalize w.heap.size+1+1+1=b4 at *;generalize w.heap.size+1+1=b3 at *;generalize w.heap.size+1=b2 at *;have HX:=ah hX;obtain⟨c1,c2,c3,c4⟩:=hX.cells;obtain⟨z2,z3,z4,l2,l3,l4⟩:=hX.GD;have l1:=hX.a1.lt;have n23:=hX.n23;have n24:=hX.n24;have n34:=hX.n34;have n32:=hX.n23.symm;have n42:=hX.n24.symm;have n43:=hX.n34.symm;clear hX;go_wp2
 go_ret
 exact⟨⟨_,_,_,_,rfl,(((HX.out.SK (1)).aeh (1)).SV (n+1))⟩,(Below.setCell (Below.setCell (Below.setCell hB m2 _) m3 _) m4 _)⟩
theorem Gh(left n:Int)(w:World)(n0:0<=n)(n1:n<=100000)(h1:left<=0):Calls ja0 193 #[.int .i64 5,left,n] w λe w'=>(∃b1 b2 b3 b4,e=.returned (.func (.func 215) #[] #[.pointer (some ⟨b1,0,none⟩),.pointer (some ⟨b2,0,none⟩),.pointer (some ⟨b3,0,none⟩),.pointer (some ⟨b4,0,none⟩)])/\cO w' b1 b2 b3 b4 left (1) (0) (2))/\Below w w w':=by
 have Jp:=@ru;have e1:decide (0<left)=false:=by simp;omega
 exact Z8
theorem Qg(kind left n:Int)(w:World)(n0:0<=n)(n1:n<=100000)(h1:¬ kind=1)(h2:¬ kind=2)(h3:¬ kind=3)(h4:¬ kind=4)(h5:¬ kind=5):Calls ja0 193 #[kind,left,n] w λe w'=>(∃b1 b2 b3 b4,e=.returned (.func (.func 215) #[] #[.pointer (some ⟨b1,0,none⟩),.pointer (some ⟨b2,0,none⟩),.pointer (some ⟨b3,0,none⟩),.pointer (some ⟨b4,0,none⟩)])/\cO w' b1 b2 b3 b4 left (0) (0) (1))/\Below w w w':=by
 have Jp:=@ru;have g1:(kind==1)=false:=by simp[h1]
 have g2:(kind==2)=false:=by simp[h2]
 have g3:(kind==3)=false:=by simp[h3]
 have g4:(kind==4)=false:=by simp[h4]
 have g5:(kind==5)=false:=by simp[h5]
 exact Z9
theorem Qh(kind left n:Int)(w:World)(n0:0<=n)(n1:n<=100000):Calls ja0 193 #[kind,left,n] w λe w'=>(∃b1 b2 b3 b4,e=.returned (.func (.func 215) #[] #[.pointer (some ⟨b1,0,none⟩),.pointer (some ⟨b2,0,none⟩),.pointer (some ⟨b3,0,none⟩),.pointer (some ⟨b4,0,none⟩)])/\cO w' b1 b2 b3 b4 left ((Ju.pq kind left n).1) ((Ju.pq kind left n).2.1) ((Ju.pq kind left n).2.2))/\Below w w w':=by
 by_cases h1:kind=1
 . subst h1;exact UZ left n w n0 n1
 by_cases h2:kind=2
 . subst h2;exact U0 left n w n0 n1
 by_cases h3:kind=3
 . subst h3
   by_cases hl:0<left
   . by_cases hn:1<n
     . rw[show Ju.pq 3 left n=(0,1,n-1)by unfold Ju.pq;simp[hl,hn]];exact MV left n w n0 n1 hl hn
     . rw[show Ju.pq 3 left n=(0,0,1)by unfold Ju.pq;simp[hn]];exact Cg left n w n0 n1 hl ak
   . rw[show Ju.pq 3 left n=(0,0,1)by unfold Ju.pq;simp[hl]];exact Eu left n w n0 n1 ak
 by_cases h4:kind=4
 . subst h4
   by_cases hl:0<left
   . rw[show Ju.pq 4 left n=(1,2,2*n)by unfold Ju.pq;simp[hl]];exact Qe left n w n0 n1 hl
   . rw[show Ju.pq 4 left n=(1,0,2)by unfold Ju.pq;simp[hl]];exact Gg left n w n0 n1 ak
 by_cases h5:kind=5
 . subst h5
   by_cases hl:0<left
   . rw[show Ju.pq 5 left n=(1,1,n+1)by unfold Ju.pq;simp[hl]];exact Qf left n w n0 n1 hl
   . rw[show Ju.pq 5 left n=(1,0,2)by unfold Ju.pq;simp[hl]];exact Gh left n w n0 n1 ak
 rw[show Ju.pq kind left n=(0,0,1)by unfold Ju.pq;simp[h1,h2,h3,h4,h5]];exact Qg kind left n w n0 n1 h1 h2 h3 h4 h5
theorem tH(s gap x:Int)(w:World):Calls ja0 192 #[s,gap,x] w λe w'=>e=.returned (.int .i64 (Li.next gap s x))/\w=w':=by
 go_enter Tryz.func192,Tryz.ntmps192
 go_wp2_with (first|(go_at_call 67;with_reducible refine mI (iR _ _ _) ?_))
 exact Zv
theorem MW(A:Option Addr)(l:List Int)(n c:Nat)(gap:Int)(w:World)(hI:Ints w A l)(hl:l.length=n)(hc:n<=c)(hn:n<=100000):Calls ja0 154 #[.slice A n c,gap] w λe w'=>e=.returned (.int .i64 (Li.long gap l))/\w=w':=by
 rcases Nat.eq_zero_or_pos n with rfl|h0
 . obtain rfl:=List.eq_nil_of_length_eq_zero hl
   go_enter Tryz.func154,Tryz.ntmps154
   go_wp2;exact Zv
 . have HI:=ah hI
   have HL:=ah hl;have I1:=hI.from_ 1 c ak ak;have F1:=ah (oV A n c 1 ak);obtain⟨b,off,rfl,lb,cb⟩:=hI.at_ (k:=0) ak;generalize hA1:(if c=1 then some (⟨b,off,none⟩:Addr)else (some (⟨b,off,none⟩:Addr)).map (·.add (1*1)))=A1 at *;have H1:=ah I1;have hz:((n:Int)==0)=false:=by simp;omega
   have HX:Hid (Fx.cut (l.getD 0 0)=Li.long gap (l.take 1)):=ah (Li.wX gap l ak).symm;have HT:Hid (l.take n=l):=ah (by rw[<-hl];exact List.take_length);have HM:Hid (n-1+1=n):=ah ak;simp only[Nat.add_zero]at cb;generalize l.getD 0 0=x at *;clear hA1 I1 hI hl;obtain⟨m,m1,m2⟩:∃m,m+1<=n/\n<=m+1:=⟨n-1,by omega,by omega⟩;have HN:Hid (n-1=m):=ah ak;replace F1:=ah F1.out;rw[HN.out]at F1;go_enter Tryz.func154,Tryz.ntmps154
   go_wp2_with (first|(refine qy rfl aR (F1.out _) ?_)|first|(go_at_call 48;with_reducible refine mI (eu _ _) ?_))
   go_loopw [5,7,18] (λvs _ vi wr=>∃k:Nat,k<=m/\vi=.int .i64 k/\vs=.int .i64 (Li.long gap (l.take (k+1)))/\w=wr) (λ_ _ vi _=>n-(intOf vi).toNat)
   case atStart=>exact⟨0,by omega,rfl,by rw[HX.out],rfl⟩
   case round =>
    obtain⟨k,hk,rfl,rfl,rfl⟩:=hrel;by_cases hlt:k<m
    . have hltz:(k:Int)<(m:Int):=by omega
      obtain⟨b1,o1,hA1,l1,c1⟩:=H1.out.at_ (k:=k) (by rw[List.length_drop,HL.out];omega);subst hA1
      have HS:Hid (Li.next gap (Li.long gap (l.take (k+1))) ((l.drop 1).getD k 0)=Li.long gap (l.take (k+1+1))):=ah (by
       rw[Li.zL gap l (k:=k+1) ak Z4f];congr 1
       simp[List.getD])
      generalize (l.drop 1).getD k 0=y at *
      go_wp2_with (first|(go_at_call 192;with_reducible refine mI (tH _ _ _ _) ?_))
      go_roundw
      case rel=>exact⟨k+1,by omega,by go_num,by rw[HS.out],trivial⟩
      case measure=>simp[intOf];omega
    . have hltz:¬ (k:Int)<(m:Int):=by omega
      have HE:Hid (k+1=n):=ah ak;go_wp2
      go_ret
      exact⟨bA (by rw[HE.out,HT.out]),rfl⟩
theorem U3(A:Option Addr)(l:List Int)(n c:Nat)(room gap:Int)(wrap:Bool)(w:World)(hI:Ints w A l)(hl:l.length=n)(h0:0<n)(hn:n<=100000) :
  Calls ja0 212 #[.slice A n c,room,gap,wrap] w λe w'=>e=.returned (.int .i64 (Li.cnt room gap wrap l:Nat))/\w=w':=by
 have HI:=ah hI;have HL:=ah hl;obtain⟨b,off,rfl,lb,cb⟩:=hI.at_ (k:=0) ak;have HX:Hid (Fx.cut (l.getD 0 0)=Li.long gap (l.take 1)):=ah (Li.wX gap l ak).symm;simp only[Nat.add_zero]at cb;generalize l.getD 0 0=x at *;obtain⟨q,q1,q2,q3⟩:∃q,q<=n/\q<=64/\(n<=q\/64<=q):=⟨min n 64,by omega,by omega,by omega⟩;have hmin:min (n:Int) 64=(q:Int):=by omega
 clear hI hl;cases wrap
 all_goals
  go_enter Tryz.func212,Tryz.ntmps212
  go_wp2_with (first|(go_at_call 48;with_reducible refine mI (eu _ _) ?_))
 . go_loopw [9,11] (λvm vs wr=>∃m:Nat,1<=m/\m<=q/\vm=.int .i64 m/\vs=.int .i64 (Li.long gap (l.take m))/\w=wr/\Hid (∀k,1<=k->k<m->Li.goes room gap false l k=true)) (λvm _ _=>n-(intOf vm).toNat)
   case atStart=>exact⟨1,by omega,by omega,rfl,by rw[HX.out],rfl,ah (λk k1 k2=>by omega)⟩
   case round =>
    obtain⟨m,hm1,hmq,rfl,rfl,rfl,HG⟩:=hrel;by_cases hlt:m<q
    . have hltz:(m:Int)<(q:Int):=by omega
      obtain⟨b1,o1,hA1,l1,c1⟩:=HI.out.at_ (k:=m) Z4f;injection hA1 with hA1;injection hA1 with hb1 ho1;subst hb1 ho1;have HS:Hid (Li.next gap (Li.long gap (l.take m)) (l.getD m 0)=Li.long gap (l.take (m+1))):=ah (Li.zL gap l ak Z4f).symm;generalize l.getD m 0=y at *
      go_wp2_with (first|(go_at_call 192;with_reducible refine mI (tH _ _ _ _) ?_))
      go_roundw
      case rel=>exact⟨m+1,by omega,by omega,by go_num,by rw[HS.out],trivial,ah (λk k1 k2=>by
       rcases Nat.lt_or_ge k m with h|h
       . exact HG.out k k1 h
       . obtain rfl:k=m:=by omega
         exact Li.oO.2 ⟨by rw[HL.out];omega,by omega,λh=>by cases h⟩)⟩
      case measure=>simp[intOf];omega
    . have hltz:¬ (m:Int)<(q:Int):=by omega
      have HC:Hid (Li.cnt room gap false l=m):=ah (Li.uo.eq ⟨hm1,HG.out,by
       cases h:Li.goes room gap false l m with
       | false=>rfl
       | true=>have:=Li.oO.1 h;rw[HL.out]at this;omega⟩)
      go_wp2
      go_ret
      exact⟨bA (by rw[HC.out]),rfl⟩
 . go_loopw [9,11] (λvm vs wr=>∃m:Nat,1<=m/\m<=q/\vm=.int .i64 m/\vs=.int .i64 (Li.long gap (l.take m))/\w=wr/\Hid (∀k,1<=k->k<m->Li.goes room gap true l k=true)) (λvm _ _=>n-(intOf vm).toNat)
   case atStart=>exact⟨1,by omega,by omega,rfl,by rw[HX.out],rfl,ah (λk k1 k2=>by omega)⟩
   case round =>
    obtain⟨m,hm1,hmq,rfl,rfl,rfl,HG⟩:=hrel;by_cases hlt:m<q
    . have hltz:(m:Int)<(q:Int):=by omega
      obtain⟨b1,o1,hA1,l1,c1⟩:=HI.out.at_ (k:=m) Z4f;injection hA1 with hA1;injection hA1 with hb1 ho1;subst hb1 ho1;have HS:Hid (Li.next gap (Li.long gap (l.take m)) (l.getD m 0)=Li.long gap (l.take (m+1))):=ah (Li.zL gap l ak Z4f).symm;generalize l.getD m 0=y at *;obtain⟨z,hz⟩:=aA (Li.next gap (Li.long gap (l.take m)) y);have HZ:=ah hz;by_cases hr:room<z
      . have HC:Hid (Li.cnt room gap true l=m):=ah (Li.uo.eq ⟨hm1,HG.out,by
         cases h:Li.goes room gap true l m with
         | false=>rfl
         | true=>have:=(Li.oO.1 h).2.2 rfl;rw[<-HS.out,HZ.out]at this;omega⟩)
        go_wp2_with (first|(go_at_call 192;with_reducible refine mI (tH _ _ _ _) ?_))
        go_ret
        exact⟨bA (by rw[HC.out]),rfl⟩
      . have hr2:decide (room<z)=false:=decide_eq_false hr
        go_wp2_with (first|(go_at_call 192;with_reducible refine mI (tH _ _ _ _) ?_))
        go_roundw
        case rel=>exact⟨m+1,by omega,by omega,by go_num,by rw[<-HS.out,HZ.out],trivial,ah (λk k1 k2=>by
         rcases Nat.lt_or_ge k m with h|h
         . exact HG.out k k1 h
         . obtain rfl:k=m:=by omega
           exact Li.oO.2 ⟨by rw[HL.out];omega,by omega,λ_=>by rw[<-HS.out,HZ.out];omega⟩)⟩
        case measure=>simp[intOf];omega
    . have hltz:¬ (m:Int)<(q:Int):=by omega
      have HC:Hid (Li.cnt room gap true l=m):=ah (Li.uo.eq ⟨hm1,HG.out,by
       cases h:Li.goes room gap true l m with
       | false=>rfl
       | true=>have:=Li.oO.1 h;rw[HL.out]at this;omega⟩)
      go_wp2
      go_ret
      exact⟨bA (by rw[HC.out]),rfl⟩
theorem fP{b:Nat}{T:TypeId}(f:Nat->Int)(n:Nat)(hn:n<=maxLen)(h:At w b (.cells (aX f n n) T)):Ints w (some ⟨b,0,none⟩) (Ju.row f n):=by
 refine⟨by rw[Ju.oP];exact hn,λh0=>⟨b,0,rfl,λk hk => ?_⟩⟩;rw[Ju.oP]at hk;rw[h.cell,Nat.zero_add,dh _ hk,Ju.Ji _ hk];simp[hk]
theorem cO.off{b1 b2 b3 b4 n:Nat}(h:cO w b1 b2 b3 b4 left p s q)(hn:b1≠n/\b2≠n/\b3≠n/\b4≠n)(i:Nat)(x:Value):cO (w.setCell ⟨n,i,none⟩ x) b1 b2 b3 b4 left p s q :=
 ⟨h.a1.off hn.1 _ _,h.a2.off hn.2.1 _ _,h.a3.off hn.2.2.1 _ _,h.a4.off hn.2.2.2 _ _,h.n12,h.n13,h.n14,h.n23,h.n24,h.n34⟩
theorem Ev(A:Option Addr)(l:List Int)(n c:Nat)(kind room gap:Int)(w:World)(hI:Ints w A l)(hl:l.length=n)(hc:n<=c)(hn:n<=1000) :
  Calls ja0 155 #[kind,.slice A n c,room,gap] w λe w'=>(∃b,e=.returned (.slice (some ⟨b,0,none⟩) n n)/\w.heap.size<=b/\Ints w' (some ⟨b,0,none⟩) (Ju.row (Ju.starts kind room gap l) n))/\Below w w w':=by
 obtain⟨i0,hi0,hz0,hz1,hz2⟩:=info_parts intZero;have hf0:∀lf,Fx.sub room (Li.long gap l)=lf->Ju.fr lf (Ju.pq kind lf (n:Int)).1 (Ju.pq kind lf (n:Int)).2.1 (Ju.pq kind lf (n:Int)).2.2 ((0:Nat):Int)=Ju.starts kind room gap l 0:=by
  rintro lf rfl;rw[<-hl];rfl
 have hfs:∀lf,Fx.sub room (Li.long gap l)=lf->∀k:Nat,Fx.add (Fx.add (Fx.add (Ju.starts kind room gap l k) (l.getD k 0)) gap) (Fx.sub (Ju.fr lf (Ju.pq kind lf (n:Int)).1 (Ju.pq kind lf (n:Int)).2.1 (Ju.pq kind lf (n:Int)).2.2 ((k+1:Nat):Int)) (Ju.fr lf (Ju.pq kind lf (n:Int)).1 (Ju.pq kind lf (n:Int)).2.1 (Ju.pq kind lf (n:Int)).2.2 (k:Int)))=Ju.starts kind room gap l (k+1):=by
  rintro lf rfl k;rw[<-hl];rfl
 generalize Ju.starts kind room gap l=f at *;have HI:=ah hI;have HF0:=ah hf0;have HFS:=ah hfs;have HL:=ah hl;clear hI hf0 hfs hl;go_enter Tryz.func155,Tryz.ntmps155
 go_upto_region 3 with(first|(go_at_call 154;refine(MW A l n c gap _ HI.out HL.out hc ak).mono ?_;rintro e w' ⟨rfl,rfl⟩)|first|(go_at_call 52;with_reducible refine mI (kD _ _ _) ?_)|(go_at_call 193;refine(Qh kind _ (n:Int) _ ak ak).mono ?_;rintro e w1 ⟨⟨b1,b2,b3,b4,rfl,hX⟩,hB⟩))
 replace HF0:=ah (HF0.out _ rfl);replace HFS:=ah (HFS.out _ rfl);obtain⟨p0,p1,s0,s2⟩:=Ju.afT kind (Fx.sub room (Li.long gap l)) (n:Int);generalize Fx.sub room (Li.long gap l)=lf at *;generalize (Ju.pq kind lf (n:Int)).1=p at *;generalize (Ju.pq kind lf (n:Int)).2.1=s at *;generalize (Ju.pq kind lf (n:Int)).2.2=q at *
 go_upto_region 4 with(at_make;refine wpList_make_row _ rfl _ _ 37 rfl 3 i0 (.int .i64 0) Tryz.underlying37 hi0 hz0 hz1 rfl .i64 .i64 n rfl rfl Te ak ?_)
 have HN0:Hid (b1≠w1.heap.size/\b2≠w1.heap.size/\b3≠w1.heap.size/\b4≠w1.heap.size):=ah ⟨dX hX.a1.lt,dX hX.a2.lt,dX hX.a3.lt,dX hX.a4.lt⟩;have HBS:=ah hB.size;generalize hb0:w1.heap.size=b0 at *;generalize hW:ja4 _ _=W2;have hA:At W2 b0 (.cells (aX f n 0) 3):=by rw[<-hW,<-hb0,<-jk];exact At.new _ _
 replace hX:cO W2 b1 b2 b3 b4 lf p s q:=hW▸hX.keep (aB aD _);replace hB:Below w w W2:=hW▸aB hB _;have HN1:Hid (w.heap.size<=b0):=HBS;clear hW hb0;go_wp2
 go_loopw [30] (λi wr=>∃k:Nat,k<=n/\i=.int .i64 k/\At wr b0 (.cells (aX f n k) 3)/\cO wr b1 b2 b3 b4 lf p s q/\Below w w wr) (λi _=>n-(intOf i).toNat)
 case atStart=>exact⟨0,by omega,rfl,hA,hX,hB⟩
 case round =>
  obtain⟨k,hk,rfl,hA,hX,hB⟩:=hrel;by_cases hlt:k<n
  . rcases Nat.eq_zero_or_pos k with rfl|h0
    . have aei:=ah (jE f hlt)
      have HFZ:=HF0;obtain⟨c1,c2,c3,c4⟩:=hX.cells
      go_upto_region 12 with((go_at_call 215;refine(MU lf p s q _ n b1 b2 b3 b4 _ c1 c2 c3 c4 p0 p1 s0 s2 ak ak).mono ?_;rintro e w2 ⟨rfl,hb⟩;clear c1 c2 c3 c4;replace hX:=hX.keep hb;replace hA:=hA.keep hb;replace hB:=Below.ay hB aC hb;obtain⟨c1,c2,c3,c4⟩:=hX.cells;have hz:=hA.thaw 0;have hcc:=hA.cell 0;rw[dh _ hlt]at hcc;have aej:=hA.lt))
      generalize hW:ja5 _ _ _=W4;replace hA:At W4 b0 (.cells (aX f n 1) 3):=by
       rw[<-hW,<-aei.out,<-HFZ.out];exact hA.set 0 _
      replace hX:cO W4 b1 b2 b3 b4 lf p s q:=hW▸hX.off HN0.out _ _;replace hB:Below w w W4:=hW▸Below.setCell hB HN1.out _;clear hW hz hcc aej c1 c2 c3 c4;go_wp2
      go_roundw
      case rel=>exact⟨1,by omega,by go_num,hA,hX,hB⟩
      case measure=>simp[intOf];omega
    . obtain⟨m,hm⟩:∃m,k=m+1:=⟨k-1,by omega⟩
      have HST:Hid (Fx.add (Fx.add (Fx.add (f m) (l.getD m 0)) gap) (Fx.sub (Ju.fr lf p s q (k:Int)) (Ju.fr lf p s q (m:Int)))=f k):=ah (by subst hm;exact HFS.out m);have aei:=ah (jE f hlt);have hz0:((k:Int)==0)=false:=by simp;omega
      have hw:IntKind.i64.wrap ((k:Int)-1)=(m:Int):=by rw[IntWalk.i64_in _ ak];omega
      have hmn:m<n:=by omega
      have hmk:m<k:=by omega
      obtain⟨b5,o5,xJ,l5,c5⟩:=(HI.out.after hB).at_ (k:=m) (by rw[HL.out];exact hmn);have c6:=hA.cell m;rw[dh _ hmn,if_pos hmk]at c6;have l6:=hA.lt;generalize l.getD m 0=y at *;generalize f m=x at *;subst xJ;have HM:=ah hm;clear hm
      go_upto_region 9 with(fail)
      refine rZ ?_
      (repeat (first|refine jc ?_ | refine jd ?_ (hc:=by intro w2 hS;first|with_reducible exact zn hS (iR _ _ _))|refine je ?_))
      refine aj.bD ?_;intro w2 hS;replace hX:=hX.keep hS;replace hA:=hA.keep hS;replace hB:=Below.ay hB aC hS;obtain⟨c1,c2,c3,c4⟩:=hX.cells;clear hS c5 c6 l5 l6
      go_upto_region 11 with(first|(go_at_call 215;refine(MU lf p s q _ n b1 b2 b3 b4 _ c1 c2 c3 c4 p0 p1 s0 s2 ak ak).mono ?_;rintro e w2 ⟨rfl,hb⟩;clear c1 c2 c3 c4;replace hX:=hX.keep hb;replace hA:=hA.keep hb;replace hB:=Below.ay hB aC hb;obtain⟨c1,c2,c3,c4⟩:=hX.cells)|first|(go_at_call 52;with_reducible refine mI (kD _ _ _) ?_))
      have hz:=hA.thaw k;have hcc:=hA.cell k;rw[dh _ hlt]at hcc;have aej:=hA.lt
      go_upto_region 12 with(first|(go_at_call 67;with_reducible refine mI (iR _ _ _) ?_))
      generalize hW:ja5 _ _ _=W4;replace hA:At W4 b0 (.cells (aX f n (k+1)) 3):=by
       rw[<-hW,<-aei.out,<-HST.out];exact hA.set k _
      replace hX:cO W4 b1 b2 b3 b4 lf p s q:=hW▸hX.off HN0.out _ _;replace hB:Below w w W4:=hW▸Below.setCell hB HN1.out _;clear hW hz hcc aej c1 c2 c3 c4;go_wp2
      go_roundw
      case rel=>exact⟨k+1,by omega,by go_num,hA,hX,hB⟩
      case measure=>simp[intOf];omega
  . obtain rfl:k=n:=by omega
    go_wp2;refine bodyPost_ret (v:=.slice b0 k k) (by simp[results,Tryz.results155,go_sem, *];first|done|exact⟨rfl,rfl⟩|rfl) rfl ⟨⟨b0,rfl,HN1.out,fP f k KR hA⟩,hB⟩
end Go.Proofs.YtdnggaapcgomhaaGreat.Fix
