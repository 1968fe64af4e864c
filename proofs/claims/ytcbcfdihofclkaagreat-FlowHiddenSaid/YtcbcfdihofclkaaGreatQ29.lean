/- Proved here: what functions of the program do, in plain numbers (part 29); no conditions but those in sight. -/
import Derived.Test.YtcbcfdihofclkaaGreatQK
import Derived.Test.YtcbcfdihofclkaaGreatQ25
import Derived.Test.YtcbcfdihofclkaaGreatQ28
set_option linter.unusedVariables false
set_option linter.unusedSimpArgs false
set_option linter.unusedSectionVars false
set_option maxRecDepth 100000
namespace Go.Proofs.YtcbcfdihofclkaaGreat.Fix
open Go.ChangeShapes Go.WideShapes Go.ChangeAt Go.RowKit
def Bz(W:World)(g:Nat)(l:List (Nat×Nat)):Prop:=g<W.heap.size/\∀k (h:k<l.length),W.cell? ⟨g,k*2,none⟩=some (.int .i64 (l[k].1:Int))/\W.cell? ⟨g,k*2+1,none⟩=some (.int .i64 (l[k].2:Int))
theorem Bz.out{M:Nat->Prop}{W W':World}{g:Nat}{l:List (Nat×Nat)}(h:Bz W g l)(k:Out M W W')(hm:¬ M g):Bz W' g l:=⟨aR h.1 k.size,λi hi=>⟨(Out.cell k _ h.1 hm).trans (h.2 i hi).1,(Out.cell k _ h.1 hm).trans (h.2 i hi).2⟩⟩
theorem RI{W:World}{base:Nat}{v:Value}{l:List (Nat×Nat)}(h:W.ownsRow base 49 2 v l.length ((Li.flat l).map (Value.int .i64)))(hn:l≠[]):∃g c,v=.slice (some ⟨g,0,none⟩) l.length c/\base<=g/\Bz W g l:=by
 rcases h.2 with⟨rfl,h0⟩|⟨g,cap,cur,rfl,hb,hgb,hnc,hcm,hsz,htk⟩
 . exact absurd (List.length_eq_zero_iff.1 h0) hn
 . have hA:At W g (.cells cur 49):=hgb
   have key:∀i (x:Int),i<l.length*2->(Li.flat l)[i]? = some x->W.cell? ⟨g,i,none⟩=some (.int .i64 x):=λi x hi hx=>by
    have e:((Li.flat l).map (Value.int .i64))[i]? = some (.int .i64 x):=by rw[List.getElem?_map,hx];rfl
    rw[<-htk,List.getElem?_take,if_pos hi,Array.getElem?_toList]at e;rw[hA.cell];exact e
   exact⟨g,cap,rfl,hb,hA.lt,λk hk=>⟨key _ _ ak (Li.flat_get l hk).1,key _ _ ak (Li.flat_get l hk).2⟩⟩
section
variable {Y:rV} {B:Int->Fw.Bx} {F:Int->Nat} {D:Int->Prop} {KM:World->Nat->Prop} {f:Nat} {w:World} {P:Nat->Prop}
def ZW(B:Int->Fw.Bx)(i0:Int)(x:Im):Im:={ x with it:=Fw.nS B i0 x.ld.id }
theorem ZX{i0:Int}{x:Im}(h:KQ Y B D F f i0 x):KQ Y B D F f i0 (ZW B i0 x):=⟨h.d,h.f,h.bx,h.m0,h.m1,h.m2,h.m3⟩
theorem ZY(Y:rV)(B:Int->Fw.Bx)(i0:Int)(fl:List Int):(iw Y B i0 fl).map (ZW B i0)=fl.map (ZI Y B i0):=by unfold iw;rw[List.map_map];rfl
set_option maxHeartbeats 16000000 in
theorem agN(hL:vF Y B F D KM f)(hK:∀(X X':World) (b:Nat),KM X b->Below X.heap.size X X'->KM X' b)(qL:∀(X X':World) (b:Nat),KM X b->Out (λq=>q≠b) X X'->KM X' b)(hR0:RO w Y B D KM)(hkm:Y.km<w.heap.size)
  (z i0 i1:Int) (hz:D z) (hdn:∀k∈(B z).fl,D k/\F k=f) (hne:(B z).fl≠[]) (hl:(B z).fl.length<=64) (n:Nat) (EA:Kp Y B F n P w) (hP:∀b,P b->b<w.heap.size) (hn:n+2*((B z).fl.map (Fw.cst B f)).sum<maxLen) (xs:List Fw.Ld) (hi:Int) (hm:Fw.Ho B (Fw.lay B f) z i0 i1=(xs,hi)) (hxl:xs≠[]) :
  Calls Tryz.prog 172 #[.pointer (some ⟨Y.lb,0,none⟩),.agg #[.int .i64 z,.int .i64 i0,.int .i64 i1]] w λe w'=>∃R cap cs P' n',e=.returned (.agg #[.slice (some ⟨R,0,none⟩) xs.length cap,.int .i64 hi])/\w.heap.size<=R/\At w' R (.cells cs 114)/\oL cs xs/\n'<=n+2*((B z).fl.map (Fw.cst B f)).sum/\Kp Y B F n' P' w'/\(∀b,P' b->P b\/w.heap.size<=b)/\¬ P' R/\Out (λb=>b=Y.pm) w w':=by
 obtain⟨es0,Ra,pJ⟩:=hR0.Ey;have hpl:=pJ.lt;obtain⟨fl,hfl⟩:∃l,(B z).fl=l:=⟨_,rfl⟩;rw[hfl]at hdn hne hl hn ⊢;obtain⟨s,hs⟩:∃s,(B z).sty=s:=⟨_,rfl⟩;obtain⟨wJ,hx0⟩:∃l,iw Y B i0 fl=l:=⟨_,rfl⟩;obtain⟨xs1,hx1⟩:∃l,wJ.map (ZW B i0)=l:=⟨_,rfl⟩;obtain⟨qj,IQ⟩:∃l,(fl.map λk=>Fw.wr (Fe.clamp (Fw.nS B i0 k) (Fw.nS B i0 k).b+Fw.FX B i0 0 k))=l:=⟨_,rfl⟩;obtain⟨br,hbr⟩:∃l,Li.brk i0 (s.c 46) (s.b 45) qj=l:=⟨_,rfl⟩;obtain⟨hh,KJ⟩:∃h,(if br.length=1 then i1 else -1)=h:=⟨_,rfl⟩
 have HMR:Hid (Fw.cu B (Fw.lay B f) z i0 i1 hh fl true 0 br=(xs,hi)):=Lib.hid (by
  rw[<-hm];unfold Fw.Ho
  simp only[hfl,hs,IQ,hbr,KJ])
 obtain⟨m,hmm⟩:∃m,fl.length=m:=⟨_,rfl⟩;have HL0:Hid (wJ.length=m):=Lib.hid (by rw[<-hx0,<-hmm];simp[iw]);have zM:Hid (xs1.length=m):=Lib.hid (by rw[<-hx1,List.length_map,HL0.out]);have Ri:Hid (qj.length=m):=Lib.hid (by rw[<-IQ,List.length_map,hmm]);have EF:Hid (xs1=fl.map (ZI Y B i0)):=Lib.hid (by rw[<-hx1,<-hx0,ZY])
 have VN:Hid (∀x∈wJ,KQ Y B D F f i0 x):=Lib.hid (by
  rw[<-hx0];intro x hx;obtain⟨k,hk,e⟩:=List.mem_map.1 hx;rw[<-e]
  exact PW (hdn k hk).1 (hdn k hk).2)
 have IE:Hid (∀x∈xs1,KQ Y B D F f i0 x):=Lib.hid (by
  rw[<-hx1];intro x hx;obtain⟨y,hy,e⟩:=List.mem_map.1 hx;rw[<-e]
  exact ZX (VN.out y hy))
 have HCS:Hid (jd B f xs1 m=(fl.map (Fw.cst B f)).sum):=Lib.hid (by
  unfold jd;rw[EF.out,<-hmm];rw[<-List.map_take,List.take_length,List.map_map]
  rfl)
 have HXG:Hid (xs1=wJ.map (ZW B i0)):=Lib.hid hx1.symm;have HX0:Hid (wJ=iw Y B i0 fl):=Lib.hid hx0.symm;have HLO:=Lib.hid IQ;have HBR:=Lib.hid hbr;have HHH:=Lib.hid KJ;have ZM:=Lib.hid hs;have FK:=Lib.hid hfl;have HM:=Lib.hid hmm;have HN:=Lib.hid hn;have HDN:=Lib.hid hdn;have sO:=Lib.hid hR0;have HXL:=Lib.hid hxl;rw[hmm]at hl;have hm0:0<m:=by rw[<-hmm];exact List.length_pos_iff.2 hne
 clear hx1 hx0 IQ hbr KJ hm hmm hxl;have hS:=qV.start EA hP;have wF:=hR0;obtain⟨b0,hb0⟩:∃b0,Y.bl z=b0:=⟨_,rfl⟩;have hbx:=(wF.box z hz).1;rw[hb0,hs]at hbx;generalize Y.vf z=zvf at hbx;generalize Y.va z=zva at hbx;generalize (B z).ib=Ml at hbx;have Rs:=hbx.lt
 have n0p:b0≠Y.pm:=λe=>by
  rw[e]at hbx;exact absurd (At.uniq hbx pJ) eY
 have b1:Below w.heap.size w ((w.alloc (.cells #[.int .i64 z,.int .i64 i0,.int .i64 i1] 112)).alloc (.cells #[.slice none 0 0,.int .i64 0] 198)):=Below.alloc' (Below.alloc' (Below.refl _ _) _) _;have A0:At ((w.alloc (.cells #[.int .i64 z,.int .i64 i0,.int .i64 i1] 112)).alloc (.cells #[.slice none 0 0,.int .i64 0] 198)) w.heap.size (.cells #[.int .i64 z,.int .i64 i0,.int .i64 i1] 112):=At.alloc (At.new _ _) _;have A4:At ((w.alloc (.cells #[.int .i64 z,.int .i64 i0,.int .i64 i1] 112)).alloc (.cells #[.slice none 0 0,.int .i64 0] 198)) (w.heap.size+1) (.cells #[.slice none 0 0,.int .i64 0] 198):=At.new' _ Ev;have hS1:=hS.after b1;have EP:=wF.keep hK b1;have VE:=Lib.hid (aF.keep hbx b1);clear hdn hR0 wF hS pJ hs hbx hfl EA hn;go_enter Tryz.func172,Tryz.ntmps172
 go_upto_region 1 with(fail)
 generalize (w.alloc (.cells #[.int .i64 z,.int .i64 i0,.int .i64 i1] 112)).alloc (.cells #[.slice none 0 0,.int .i64 0] 198)=w1 at *;have ad':=A4.lt;have hsz:=b1.size;have hlk:=λX (h:Below w1.heap.size w1 X)=>(EP.keep hK h).look hz;simp only[hb0]at hlk;obtain⟨lY,wV,wW,zf,zh,zi,zk⟩:=At.six EP.lay;obtain⟨l0,aA,aB,bB⟩:=At.three A0;have hSd:Below w1.heap.size w1 w1.drew:=Below.drew (Below.refl _ _);refine kQ (S:=λX=>Below w1.heap.size w1 X) 8 ?_ ?_
 . exact hSd
 intro hx;clear hSd;refine aH 0 ?_;refine aH 1 ?_;refine aH 2 ?_;refine aH 3 ?_;refine aH 4 ?_;refine aH 5 ?_;refine rD 6 rfl (dZ aU rfl rfl rfl (λX h=>hlk X h)) ?_;refine aH 7 ?_;refine jY ?_;have hx2:Below w1.heap.size w1 w1.drew:=hx;generalize w1.drew=w3 at *;have Y8:=hx2.size;have uG:=hS1.after hx2;have B3:=A0.keep hx2;have C3:=A4.keep hx2;have zN:=Lib.hid (aF.keep VE.out hx2);have BK:=uG.ro qL sO.out hkm;have qY:Calls Tryz.prog 226 #[.pointer (some ⟨Y.lb,0,none⟩),.agg #[.int .i64 z,.int .i64 i0,.int .i64 i1]] w3 λe w'=>(∃R q cs,e=.returned (.slice (some ⟨R,q,none⟩) m m)/\w3.heap.size<=R/\At w' R (.cells cs 283)/\fu cs q wJ)/\Below w3.heap.size w3 w':=by
  exact Z2p
 obtain⟨l0,aA,aB,bB⟩:=At.three B3;clear b1 A0 A4 hS1 EP hlk wV wW zf zh zi zk lY hx BK hb0 VE
 go_upto_region 4 with(go_at_call 226;(with_reducible refine qY.mono ?_);rintro e' w4 ⟨⟨R,q,cs,rfl,gR,XB,Rb⟩,hb4⟩)
 clear qY;have HI4:=Lib.hid Rb;have PS:=uG.after hb4;have B4:=B3.keep hb4;have C4:=C3.keep hb4;have Lb:=Lib.hid (aF.keep zN.out hb4);have ab0:=hb4.size;have pF:w.heap.size+1<R:=by omega
 have Vf:¬ P R:=λh=>by have:=hP R h;omega
 have n0R:b0≠R:=by omega
 have lR4:=XB.lt;clear hb4 Rb B3 C3 uG hx2 l0 aA aB bB zN
 go_loopw [31] (λiv wr=>∃(k:Nat) (cs':Array Value),k<=m/\iv=.int .i64 k/\qV Y B F w P n P wr/\At wr R (.cells cs' 283)/\Hid (fu cs' q (DF (ZW B i0) wJ k))/\At wr w.heap.size (.cells #[.int .i64 z,.int .i64 i0,.int .i64 i1] 112)/\At wr (w.heap.size+1) (.cells #[.slice none 0 0,.int .i64 0] 198)/\Hid (aF wr b0 s zvf zva Ml)) (λiv _=>m-(intOf iv).toNat)
 case atStart=>exact⟨0,cs,bJ _,rfl,PS,XB,Lib.hid (by rw[DI];exact HI4.out),B4,C4,Lb⟩
 case round =>
  clear PS XB B4 C4 Lb HI4;obtain⟨k,cs',hk,rfl,hSr,hAr,hC,A0,A4,vY⟩:=hrel;by_cases hlt:k<m
  . have hltz:(k:Int)<(m:Int):=by omega
    have hkx:k<wJ.length:=by rw[HL0.out];exact hlt
    have hkc:k<(DF (ZW B i0) wJ k).length:=by rw[jW];exact hkx
    have qz:=hC.out.at_ hAr hkc;rw[tH _ _ hkx]at qz;obtain⟨x,hx⟩:∃x,wJ[k]=x:=⟨_,rfl⟩;have lZ:=Lib.hid (VN.out x (hx▸List.getElem_mem _));rw[hx]at qz;have HX:=Lib.hid hx;have qd:=Lib.hid hSr;have hRr:=hSr.ro qL sO.out hkm;have hbx:=(hRr.box x.ld.id lZ.out.d).1;rw[<-lZ.out.bx]at hbx;obtain⟨sx,hsx⟩:∃s,(B x.ld.id).sty=s:=⟨_,rfl⟩;rw[hsx]at hbx;generalize Y.vf x.ld.id=vf at hbx;generalize Y.va x.ld.id=va at hbx;generalize (B x.ld.id).ib=ib at hbx;have HSX:=Lib.hid hsx;have qw:=Lib.hid hbx;have Bt:=hAr.lt;have n34:=sO.out.box x.ld.id lZ.out.d;rw[<-lZ.out.bx]at n34;have n4:x.bx≠R:=by have:=n34.1.lt;omega
    clear n34;clear hRr hbx hsx hx hSr
    go_upto_region 6 with(first|(refine dn aU _ rfl rfl (by with_reducible assumption) ?_)|(refine bV aU rfl ?_)|(refine bO aU _ _ rfl rfl rfl Z5f ?_))
    generalize hW:World.setRow _ _ _=W3;obtain⟨Q,hQ⟩:∃b,wr.heap.size=b:=⟨_,rfl⟩;have AQ:At W3 Q (.cells (nJ x) 283):=hW▸hQ▸At.setRow (At.new _ _) _;have hb3:Below wr.heap.size wr W3:=hW▸cO (Below.alloc' (Below.refl _ _) _) (ah _) _;have gQ:wr.heap.size<=Q:=Nat.le_of_eq hQ;rw[hQ];clear hW hQ qz;have B3:=A0.keep hb3;have Jr:=Lib.hid (aF.keep qw.out hb3);have lbx:=aF.lt Jr.out;have lQ:=AQ.lt;have cQ:W3.cell? ⟨Q,12,none⟩=some (.pointer (some ⟨x.bx,0,none⟩)):=(AQ.cell 12).trans rfl;have cb3:W3.cell? ⟨x.bx,3,none⟩=some (.int .i64 (sx.c 3)):=aF.int Jr.out 3 ak rfl;have cb4:W3.cell? ⟨x.bx,4,none⟩=some (.int .i64 (sx.c 4)):=aF.int Jr.out 4 ak rfl;have agO:W3.cell? ⟨x.bx,53,none⟩=some (.int .i64 (sx.c 53)):=aF.int Jr.out 53 ak rfl;obtain⟨l0,aA,aB,bB⟩:=At.three B3;have hSd:Below W3.heap.size W3 W3.drew:=Below.drew (Below.refl _ _);refine kQ (S:=λX=>Below W3.heap.size W3 X) 18 ?_ ?_
    . exact hSd
    intro hx;clear hSd;refine aH 0 ?_;refine aH 1 ?_;refine aH 2 ?_;refine aH 3 ?_;refine aH 4 ?_;refine aH 5 ?_;refine aH 6 ?_;refine aH 7 ?_;refine aH 8 ?_;refine aH 9 ?_;refine aH 10 ?_;refine aH 11 ?_;refine aH 12 ?_;refine aH 13 ?_;refine aH 14 ?_;refine aH 15 ?_;refine tk1 16 ?_;refine aj.Step.call dQ (ng (sx.c 3) (sx.c 4) i0 (sx.c 53) _) ?_;rintro e' w5 ⟨rfl,hb⟩;replace hx:=Below.ay hx (ah _) hb;clear hb;refine⟨_,rfl,λ_=>hx,?_⟩
    (try simp only[bF,bG,bH,tks])
    refine aH 17 ?_;refine jY ?_;have yM:Below wr.heap.size wr w5:=Below.ay hb3 (ah _) hx;have AQ5:=AQ.keep hx;have xw:=hAr.keep yM;have hS5:=qd.out.after yM;have B5:=A0.keep yM;have C5:=A4.keep yM;have KT:=Lib.hid (aF.keep qw.out yM);have Fa:=Lib.hid (aF.keep vY.out yM);clear cQ cb3 cb4 agO lbx lQ l0 aA aB bB hx AQ Jr B3 A0 A4 hAr vY qw qd hb3;obtain⟨base,hbase⟩:∃t,Fx.len (sx.c 3) (sx.c 4) i0 (sx.c 53)=t:=⟨_,rfl⟩;rw[hbase];obtain⟨it,hit⟩:∃t,Fw.SF sx 0 base i0=t:=⟨_,rfl⟩
    have oo:∀X,Calls Tryz.prog 227 #[.agg #[.int .i64 (sx.c 3),.int .i64 (sx.c 4),.int .i64 (sx.c 7),.int .i64 (sx.c 8),.int .i64 (sx.c 11),.int .i64 (sx.c 12)],.agg (cells sx),.int .i64 base,.int .i64 i0] X λe X'=>e=.returned (.agg (wz it))/\Below X.heap.size X X':=λX=>by
     rw[<-hit];exact PI _ _ _ _ _ _ sx base i0 X
    have lbx:=aF.lt KT.out;have Xz:=xw.lt;have lQ:=AQ5.lt;have cQ:w5.cell? ⟨Q,12,none⟩=some (.pointer (some ⟨x.bx,0,none⟩)):=(AQ5.cell 12).trans rfl;have nQ:Q≠R:=by omega
    have n2:w.heap.size≠R:=by omega
    obtain⟨l0,aA,aB,bB⟩:=At.three B5;have Z':=Lib.hid (show q+k*17+5<=cs'.size by have:=hC.out.1;rw[jW]at this;have h2:k*17+17<=wJ.length*17:=ak;omega);have hSd:Out (λb=>b=R) w5 w5.drew:=(Out.refl _ _).drew
    go_upto_region 7 with(fail)
    refine kQ (S:=λX=>Out (λb=>b=R) w5 X) 21 ?_ ?_
    . exact hSd
    intro hx;clear hSd;refine jD 0 ?_;refine jD 1 ?_;refine jD 2 ?_;refine jD 3 ?_;refine jD 4 ?_;refine jD 5 ?_;refine jD 6 ?_;refine rD 7 rfl (pO (.tmp 59) aU rfl rfl (λX h=>At.out KT.out n4 h)) ?_;refine jD 8 ?_;refine jD 9 ?_;refine jD 10 ?_;refine jD 11 ?_;refine rD 12 rfl (iY aU (.tmp 64) rfl rfl (λX h=>aF.style (At.out KT.out n4 h))) ?_;refine jD 13 ?_;refine jD 14 ?_;refine jD 15 ?_;refine jD 16 ?_;refine tk1 17 ?_;refine aj.Step.call dQ (oo _) ?_;rintro e' eD ⟨rfl,hb⟩;have Ll:At eD R (.cells cs' 283):=At.keep (At.drew xw) hb;have IU:Out (λb=>b=R) w5 eD:=Out.trans' ((Out.refl _ w5).drew) (Out.of_below (M:=λ_=>False) hb) λ_ _ q=>q.elim;refine⟨_,rfl,λ_=>IU,?_⟩
    (try simp only[bF,bG,bH,tks])
    refine jD 18 ?_;refine jD 19 ?_;refine tk1 20 ?_;refine aj.Step.skip (eZ (q:=q+k*17) zI (.tmp 72) (.tmp 70) rfl rfl rfl Ll (iC it) Z'.out (Cc it)) ?_;have aac:=At.setRow Ll (splice cs' (q+k*17) (wz it));have uE:Out (λb=>b=R) eD (eD.setRow R (splice cs' (q+k*17) (wz it))):=Out.setRow (M:=λb=>b=R) (Out.refl _ _) rfl _;refine⟨λ_=>IU.trans uE,?_⟩
    (try simp only[bF,bG,bH,tks])
    refine jY ?_;have Jm:=IU.trans uE;have DY:=hC.out.aaZ hkc it;rw[tH _ _ hkx,HX.out]at DY
    have acg:Hid (fu (splice cs' (q+k*17) (wz it)) q (DF (ZW B i0) wJ (k+1))):=Lib.hid (by
     rw[<-yG _ _ hkx,HX.out];have e:ZW B i0 x={ x with it:=it }:=by
      unfold ZW Fw.nS;rw[HSX.out,<-hit,<-hbase]
     rw[e]
     exact DY.1)
    have Oc:=hS5.own (M:=λb=>b=R) Jm λb hb h=>by subst h;exact⟨Vf,by omega⟩
    have B14:=B5.out (M:=λb=>b=R) n2 Jm;have C14:=C5.out (M:=λb=>b=R) ak Jm;have PX:=Lib.hid (At.out (M:=λb=>b=R) Fa.out n0R Jm);generalize eD.setRow R (splice cs' (q+k*17) (wz it))=wK at *;generalize splice cs' (q+k*17) (wz it)=cs4 at *;clear hx DY xw Ll IU uE Jm hS5 B5 C5 KT Fa l0 aA aB bB oo lbx Xz lQ cQ hbase hit hC AQ5 yM;go_wp2
    go_roundw
    case rel=>exact⟨k+1,cs4,by omega,by go_num,Oc,aac,acg,B14,C14,PX⟩
    case measure=>simp[intOf];omega
  . obtain rfl:k=m:=by omega
    have Ru:Hid (fu cs' q xs1):=Lib.hid (by
     have:=hC.out;rw[<-HL0.out,Iy,<-HXG.out]at this
     exact this)
    have qd:=Lib.hid hSr;have HRR:=Lib.hid (hSr.ro qL sO.out hkm);have Bt:=hAr.lt;obtain⟨l0,aA,aB,bB⟩:=At.three A0;have Jj:=aF.lt vY.out;have ach:wr.cell? ⟨b0,46,none⟩=some (.int .i64 (s.c 46)):=aF.int vY.out 46 ak rfl;have agP:wr.cell? ⟨b0,45,none⟩=some (.bool (s.b 45)):=(At.cell vY.out 45).trans (by rw[Ib _ _ _ _ ak];rfl);clear hC hSr hlt
    go_upto_region 9 with(fail)
    have hSd:Below wr.heap.size wr wr.drew:=Below.drew (Below.refl _ _);refine kQ (S:=λX=>Below wr.heap.size wr X) 18 ?_ ?_
    . exact hSd
    intro hx;clear hSd;refine aH 0 ?_;refine aH 3 ?_;refine aH 4 ?_;refine aH 5 ?_;refine aH 6 ?_;refine aH 7 ?_;refine aH 8 ?_;refine aH 9 ?_;refine aH 10 ?_;refine aH 11 ?_;refine aH 12 ?_;refine aH 13 ?_;refine aH 14 ?_;refine aH 15 ?_;refine tk1 1 ?_;refine aj.Step.call dQ (KN 0 _) ?_;rintro e' w7 ⟨rfl,hw7⟩;have xR:Below wr.drew.heap.size wr.drew w7:=hw7▸Below.alloc' (Below.refl _ _) _;have AB:At w7 wr.drew.heap.size (.cells #[.int .i64 0] 3):=hw7▸At.new _ _;clear hw7;replace hx:=Below.ay hx (ah _) xR;generalize wr.drew.heap.size=Bq at *;refine⟨_,rfl,λ_=>hx,?_⟩
    (try simp only[bF,bG,bH,tks])
    have oo:=abM #[.pointer (some ⟨Bq,0,none⟩)] (λi=>qj.getD i 0) (some ⟨R,q,none⟩) xs1 k w7 (Ru.out.ims (hAr.keep hx)) (by rw[zM.out];omega) (λi h X hb=>by
     have h':i<fl.length:=by have:=zM.out;have:=HM.out;omega
     have ex:xs1[i]=ZI Y B i0 fl[i]:=by
      have e1:=EF.out;subst e1;simp
     have el:qj.getD i 0=Fw.wr (Fe.clamp (Fw.nS B i0 fl[i]) (Fw.nS B i0 fl[i]).b+Fw.FX B i0 0 fl[i]):=by
      rw[<-HLO.out,List.getD,List.getElem?_map,List.getElem?_eq_getElem h'];rfl
     have ho:=IE.out xs1[i] (List.getElem_mem _);have hbx:=aF.keep ((HRR.out.box _ ho.d).1) (Below.ay hx (ah _) hb);rw[<-ho.bx]at hbx;have h1:=UO xs1[i] _ _ _ _ Bq X hbx ((hb.cell (p:=⟨Bq,0,none⟩) AB.lt).trans (AB.cell 0));rw[el];rw[ex]at h1 ⊢
     exact h1)
    rw[zM.out]at oo;refine tk1 2 ?_;refine aj.Step.call dQ oo ?_;rintro e' w8 ⟨⟨bt,rfl,gbt,hT⟩,xQ⟩;replace hx:=Below.ay hx (ah _) xQ;refine⟨_,rfl,λ_=>hx,?_⟩
    (try simp only[bF,bG,bH,tks])
    have hIt:Ints w8 (some ⟨bt,0,none⟩) qj:=by
     have h1:=gH _ _ Jv hT;have h2:=rZ qj;rw[Ri.out]at h2;rw[h2]at h1;exact h1
    have hs8:=hx.size;have VO:=RH (some ⟨bt,0,none⟩) qj k k i0 (s.c 46) (s.b 45) w8 hIt Ri.out ak (ah _);rw[HBR.out]at VO;refine tk1 16 ?_;refine aj.Step.call dQ VO ?_;rintro e' w9 ⟨v,rfl,hown,fT⟩;replace hx:=Below.ay hx (ah _) fT;refine⟨_,rfl,λ_=>hx,?_⟩
    (try simp only[bF,bG,bH,tks])
    have aa9:br≠[]:=by
     rw[<-HBR.out];unfold Li.brk;rw[Li.rG _ _ _ _ (by rw[Ri.out];exact hm0)];exact List.cons_ne_nil _ _
    obtain⟨g,cbr,rfl,gg,PY⟩:=RI hown aa9;refine aH 17 ?_;refine jY ?_;obtain⟨nb,hnb⟩:∃n,br.length=n:=⟨_,rfl⟩;rw[hnb];have HNB:=Lib.hid hnb;have ahl:nb<=64:=by
     have h1:=Li.Cx i0 (s.c 46) (s.b 45) qj;rw[HBR.out,hnb,Ri.out]at h1;omega
    have gg2:wr.heap.size<=g:=by omega
    have aeE:=Lib.hid PY;have qx:=hAr.keep hx;have Mk:=qd.out.after hx;have B9:=A0.keep hx;have C9:=A4.keep hx;have Lj:=Lib.hid (aF.keep vY.out hx);have hE:=HHH.out;rw[hnb]at hE;have HHE:=Lib.hid hE;have dB:=hx.size;clear oo VO hIt hT gbt hown xR xQ fT AB hx qd hAr A0 A4 vY HRR ach agP Jj l0 aA aB bB PY hnb hE gg hs8 aa9;obtain⟨l0,aA,aB,bB⟩:=At.three B9
    go_upto_if 93 with(fail)
    go_cut [11]from 91 to 97 (λv w2=>v=.int .i64 hh/\Below w9.heap.size w9 w2)
    case first =>
     by_cases hq:nb=1
     . have e1:=HHE.out
       rw[if_pos hq]at e1;have E1:=Lib.hid e1;have hq1:(nb:Int)=1:=by omega
       have hq2:((nb:Int)==1)=true:=by rw[hq1];rfl
       exact Z1p
     . have e1:=HHE.out
       rw[if_neg hq]at e1;have E1:=Lib.hid e1;have hq1:¬ (nb:Int)=1:=by omega
       have hq2:((nb:Int)==1)=false:=by rw[beq_eq_false_iff_ne];exact hq1
       exact Z1p
    case rest =>
     obtain⟨rfl,jl⟩:=hcut;have nM:=Mk.after jl;have nX:=qx.keep jl;have B10:=B9.keep jl;have Mq:=C9.keep jl;have vI:=Lib.hid (aF.keep Lj.out jl);have Lm:=Lib.hid (Bz.out (M:=λ_=>False) aeE.out (Out.of_below jl) λh=>h);have Rm:∀X,(Instr.build 198 #[]).run Tryz.prog X=.ok (.agg #[.slice none 0 0,.int .i64 0]) X:=λ_=>by kernel_rfl
     have aeF:=jl.size;clear Mk qx B9 C9 Lj aeE jl l0 aA aB bB HHE
     go_upto_region 15 with(fail)
     generalize hW:World.alloc _ _=cZ;obtain⟨Cb,hCb⟩:∃b,wc.heap.size=b:=⟨_,rfl⟩;have AC:At cZ Cb (.cells #[.slice none 0 0,.int .i64 0] 198):=hW▸At.new' _ hCb.symm;have fK:Below wc.heap.size wc cZ:=hW▸Below.alloc' (Below.refl _ _) _;rw[hCb];have qX:=nM.after fK;have oU:=nX.keep fK;have B11:=B10.keep fK;have Lf:=Mq.keep fK;have vJ:=Lib.hid (aF.keep vI.out fK);have VP:=Lib.hid (Bz.out (M:=λ_=>False) Lm.out (Out.of_below fK) λh=>h);obtain⟨N5,SQ⟩:∃N,cZ.heap.size=N:=⟨_,rfl⟩;have lC5:Cb<N5:=by have:=AC.lt;omega
     have Xz:R<N5:=by have:=oU.lt;omega
     have lg5:g<N5:=by have:=VP.out.1;omega
     have nCR:Cb≠R:=by have:=nX.lt;omega
     have nCg:Cb≠g:=by have:=Lm.out.1;omega
     have nRg:R≠g:=by omega
     have nC0:b0<R:=by omega
     have nCw:w.heap.size+1<Cb:=by have:=Mq.lt;omega
     have HN5:=Lib.hid SQ;have Ca:=Lib.hid (show∀b,P b->b<w.heap.size from hP);have H0:Hid (br.drop 0=Li.tail i0 (s.c 46) (s.b 45) qj 0/\0<=k/\([]:List Fw.Ld).length=0/\(xs,hi)=([]++(Fw.cu B (Fw.lay B f) z i0 i1 hh fl (decide (0=0)) 0 (br.drop 0)).1,(Fw.cu B (Fw.lay B f) z i0 i1 hh fl (decide (0=0)) 0 (br.drop 0)).2)):=Lib.hid ⟨by rw[<-HBR.out];rfl,bJ _,rfl,by rw[<-HMR.out];rfl⟩;clear hW Rm fK nM nX B10 Mq vI Lm hCb SQ aeF dB
     go_loopw [100] (λiv wr=>∃(k2 n':Nat) (P':Nat->Prop) (cs2:Array Value) (v:Value) (y:Int) (out:List Fw.Ld) (at_:Nat),k2<=nb/\iv=.int .i64 k2/\Hid (br.drop k2=Li.tail i0 (s.c 46) (s.b 45) qj at_/\at_<=k/\out.length=at_/\(xs,hi)=(out++(Fw.cu B (Fw.lay B f) z i0 i1 hh fl (decide (k2=0)) y (br.drop k2)).1,(Fw.cu B (Fw.lay B f) z i0 i1 hh fl (decide (k2=0)) y (br.drop k2)).2))/\n'<=n+2*jd B f xs1 at_/\qV Y B F w P n' P' wr/\Hid (∀b,b<N5->P' b->P b)/\N5<=wr.heap.size/\At wr R (.cells cs2 283)/\Hid (fu cs2 (q+at_*17) (xs1.drop at_))/\At wr Cb (.cells #[v,.int .i64 y] 198)/\Hid (wr.ownsRow N5 114 7 v out.length (wI out))/\Hid (∀b,v.ownBlock=some b->¬ P' b)/\At wr w.heap.size (.cells #[.int .i64 z,.int .i64 i0,.int .i64 i1] 112)/\At wr (w.heap.size+1) (.cells #[.slice none 0 0,.int .i64 0] 198)/\Hid (aF wr b0 s zvf zva Ml)/\Hid (Bz wr g br)) (λiv _=>nb-(intOf iv).toNat)
     case atStart=>exact⟨0,n,P,cs',.slice none 0 0,0,[],0,bJ _,rfl,H0,by omega,qX,Lib.hid λb _ h=>h,by rw[HN5.out];exact ah _,oU,Lib.hid (by simpa using Ru.out),AC,Lib.hid (World.ownsRow_nil _ _ _ _),Lib.hid (λb h=>by simp[Value.ownBlock]at h),B11,Lf,vJ,VP⟩
     case round =>
      clear qX oU AC B11 Lf vJ VP H0 Ru;obtain⟨k2,n',P',cs2,v,y,out,at_,hk2,rfl,hTT,hn',hSr,xD,EB,hAr,hC,AC,hown,Xu,A0,A4,vY,PY⟩:=hrel;by_cases hlt:k2<nb
      . have hltz:(k2:Int)<(nb:Int):=by omega
        have YK:Hid (k2<nb):=Lib.hid hlt;have hkb:k2<br.length:=by rw[HNB.out];exact hlt
        have hat:at_<qj.length:=Classical.byContradiction λh=>by
         have h1:=hTT.out.1;rw[Li.rF _ _ _ _ ak]at h1;have h2:=congrArg List.length h1;rw[List.length_drop]at h2;simp at h2;omega
        obtain⟨en,hen⟩:∃e,Li.stop i0 (s.c 46) (s.b 45) qj at_=e:=⟨_,rfl⟩;have hgt:at_<en:=by rw[<-hen];exact Li.xZ _ _ _ _ _
        have hle:en<=k:=by rw[<-hen,<-Ri.out];exact Li.G6 _ _ _ _ hat
        have hdr:br.drop k2=(at_,en)::Li.tail i0 (s.c 46) (s.b 45) qj en:=by rw[hTT.out.1,Li.rG _ _ _ _ hat,hen]
        have hb2:br[k2]=(at_,en)/\br.drop (k2+1)=Li.tail i0 (s.c 46) (s.b 45) qj en:=by
         rw[List.drop_eq_getElem_cons hkb]at hdr;injection hdr with h1 h2;exact⟨h1,h2⟩
        obtain⟨lg,hpc⟩:=PY.out;have hp2:=hpc k2 hkb;rw[hb2.1]at hp2;obtain⟨cg0,cg1⟩:=hp2;have HB2:=Lib.hid hb2;have HDR:=Lib.hid hdr;have qd:=Lib.hid hSr;obtain⟨y1,hy1⟩:∃t,(if (decide (k2=0))=true then y else Fw.wr (y+s.c 46))=t:=⟨_,rfl⟩;have HY1:=Lib.hid hy1;clear hpc hb2 hdr hen hSr hy1 hat
        go_upto_region 17 with(fail)
        generalize hW:World.alloc _ _=W2;obtain⟨L,hL2⟩:∃b,wr.heap.size=b:=⟨_,rfl⟩;have AL:At W2 L (.cells #[.int .i64 (at_:Int),.int .i64 (en:Int)] 49):=hW▸At.new' _ hL2.symm;have hb2:Below wr.heap.size wr W2:=hW▸Below.alloc' (Below.refl _ _) _;have gL:N5<=L:=by omega
        rw[hL2];have AC2:=AC.keep hb2;have aci:=Lib.hid (aF.keep vY.out hb2);have lCb:=AC2.lt;clear hW hL2 lg cg0 cg1
        go_upto_if 106 with(fail)
        go_cut []from 105 to 116 (λw2=>At w2 Cb (.cells #[v,.int .i64 y1] 198)/\Out (λb=>b=Cb) W2 w2)
        case first =>
         by_cases hk0:k2=0
         . have acf:¬ (0:Int)<(k2:Int):=by omega
           have e1:=HY1.out;rw[if_pos (by simp[hk0])]at e1;have E1:=Lib.hid e1;clear e1 hk0;go_wp2
           go_meet
           case rel=>exact⟨by rw[<-E1.out];exact AC2,Out.refl _ _⟩
         . have acf:(0:Int)<(k2:Int):=by omega
           have e1:=HY1.out;rw[if_neg (by simp[hk0]),<-qZ]at e1;have E1:=Lib.hid e1;have ach:W2.cell? ⟨b0,46,none⟩=some (.int .i64 (s.c 46)):=aF.int aci.out 46 ak rfl;have Jj:=aF.lt aci.out;obtain⟨lC,Fb,Fg⟩:=At.two AC2;have zC1:=AC2.thaw 1;clear e1 hk0
           go_upto_region 18 with(fail)
           have hSd:Below W2.heap.size W2 W2.drew:=Below.drew (Below.refl _ _);refine kQ (S:=λX=>Below W2.heap.size W2 X) 9 ?_ ?_
           . exact hSd
           intro hx;clear hSd;refine aH 0 ?_;refine aH 1 ?_;refine aH 2 ?_;refine aH 3 ?_;refine aH 4 ?_;refine aH 5 ?_;refine aH 6 ?_;refine aH 7 ?_;refine aH 8 ?_;refine tk1 9 ?_;refine aj.Step.skip dQ ?_;generalize hW:World.setCell _ _ _=W3;have AC3:At W3 Cb (.cells #[v,.int .i64 y1] 198):=by
            rw[<-hW,<-E1.out];exact At.set AC2 1 _
           have hO3:Out (λb=>b=Cb) W2 W3:=by
            rw[<-hW];exact Out.set (M:=λb=>b=Cb) (Out.refl _ _) rfl 1 _
           refine⟨by intro hlt;exact absurd hlt aG,?_⟩
           (try simp only[bF,bG,bH,tks])
           refine jY ?_;clear hW lC Fb Fg zC1 hx ach Jj;go_wp2
           go_meet
           case rel=>exact⟨At.drew AC3,Out.drew hO3⟩
        case rest =>
         obtain⟨AC3,hO3⟩:=hcut;have hPC:¬ P' Cb:=λh=>by have:=Ca.out _ (xD.out _ lC5 h);omega
         have wG:¬ P' R:=λh=>by have:=Ca.out _ (xD.out _ Xz h);omega
         have uG:=(qd.out.after hb2).own hO3 λb hb h=>by subst h;exact⟨hPC,by omega⟩
         have hOA:Out (λb=>b=Cb) wr wc:=(Out.of_below hb2).trans hO3;have hA3:=hAr.out (M:=λb=>b=Cb) (Ne.symm nCR) hOA;have B3:=A0.out (M:=λb=>b=Cb) ak hOA;have C3:=A4.out (M:=λb=>b=Cb) ak hOA;have zN:=Lib.hid (At.out (M:=λb=>b=Cb) vY.out ak hOA);have aeG:=Lib.hid (Bz.out (M:=λb=>b=Cb) PY.out hOA (Ne.symm nCg));have AL3:=AL.out (M:=λb=>b=Cb) ak hO3;have hown3:=Lib.hid (bD (M:=λb=>b=Cb) hown.out (λg' hg' e=>by have:=(hown.out.lt g' hg').1;omega) hOA);have hN3:N5<=wc.heap.size:=aC EB hOA.size;obtain⟨lL,cL0,cL1⟩:=At.two AL3;have hcp:¬ k=at_:=by omega
         have hle1:at_<=en:=by omega
         have hle3:at_<=k:=by omega
         have aeH:(at_:Int)<=(en:Int):=by omega
         have aeI:(en:Int)<=(k:Int):=by omega
         clear AC2 aci AL hO3 hOA hAr A0 A4 vY PY hown hb2 qd lCb;obtain⟨d,hd⟩:∃d,en-at_=d:=⟨_,rfl⟩;have hd0:0<d:=by omega
         have ahK:d<=64:=by omega
         have SB:Hid (at_+d=en):=Lib.hid ak
         go_upto_region 20 with(fail)
         have HD:=Lib.hid hd;clear hd hle1 hle3 aeH aeI hcp cL0 cL1 lL AL3;obtain⟨xsl,RJ⟩:∃l,(xs1.drop at_).take d=l:=⟨_,rfl⟩;have acj:xsl.length=d:=by rw[<-RJ,List.length_take,List.length_drop,zM.out];have:=SB.out;omega
         obtain⟨X1,hX1⟩:∃l,DN B f s i0 i1 hh xsl=l:=⟨_,rfl⟩;obtain⟨deep,Ph⟩:∃l,IB hh X1=l:=⟨_,rfl⟩;obtain⟨X2,hX2⟩:∃l,tK B f s i0 i1 deep X1=l:=⟨_,rfl⟩;obtain⟨bs,hbs⟩:∃l,tL s i0 deep X2=l:=⟨_,rfl⟩;have hmap:xsl=((fl.drop at_).take d).map (ZI Y B i0):=by rw[<-RJ,EF.out,<-List.map_drop,<-List.map_take]
         have HRL:Hid (Fw.jw B (Fw.lay B f) z i0 i1 hh ((fl.drop at_).take d)=(bs.map (·.ld),deep)):=Lib.hid (by
          rw[<-hbs]
          exact E8 Y B f z i0 i1 hh _ s ZM.out X1 X2 deep (by rw[<-hmap];exact hX1) Ph hX2)
         have HBL:Hid (bs.length=d):=Lib.hid (by
          have h1:X1.length=d:=by rw[<-hX1];unfold DN;rw[List.length_mapIdx,acj]
          have h2:X2.length=d:=by
           rw[<-hX2];unfold tK;split
           . rw[List.length_map,h1]
           . exact h1
          rw[<-hbs];unfold tL
          rw[List.length_mapIdx,h2])
         have hcs:jd B f xsl xsl.length+jd B f xs1 at_=jd B f xs1 en:=by
          unfold jd;rw[List.take_length,<-RJ,<-SB.out,List.take_add,List.map_append,List.sum_append];omega
         have hcs2:=wm B f xs1 en;rw[zM.out,HCS.out]at hcs2;have hnn:=HN.out;have RL:=adW hL hK qL sO.out hkm R (q+at_*17) (k-at_) z i0 i1 hh hz xsl cs2 wc n' P' uG hA3 (by rw[<-RJ];exact hC.out.front (by rw[List.length_drop,zM.out];have:=SB.out;omega)) (λx hx=>IE.out x (List.mem_of_mem_drop (List.mem_of_mem_take (RJ.symm▸hx)))) wG ak ak ak s ZM.out X1 X2 deep hX1 Ph hX2;rw[acj,hbs]at RL;rw[acj]at hcs;obtain⟨l0,aA,aB,bB⟩:=At.three B3;have hC3:=Lib.hid hC.out;clear hX1 Ph hX2 hbs hmap RJ uG hA3 hC
         go_upto_region 22 with(go_at_call 231;(with_reducible refine RL.mono ?_);rintro e' w6 ⟨rfl,n2,P2,yV,hn2,yX,qW,hP2,xA,hI6,hM6,mG⟩)
         have hs6:=mG.size;have npm:Y.pm<w.heap.size:=hpl;have Gn:∀b,b≠R->w.heap.size<=b->¬ (b=Y.pm\/b=R):=λb h1 h2 h=>by rcases h with h|h<;>omega
         have AC6:=AC3.out (Gn Cb nCR ak) mG;have B6:=B3.out (Gn _ ak ak) mG;have C6:=C3.out (Gn _ ak ak) mG;have Lc:=Lib.hid (At.out (M:=λb=>b=Y.pm\/b=R) zN.out (by rintro(h|h);exact n0p h;exact n0R h) mG);have aeJ:=Lib.hid (Bz.out aeG.out mG (Gn g (Ne.symm nRg) ak));have hown6:=Lib.hid (bD (M:=λb=>b=Y.pm\/b=R) hown3.out (λg' hg'=>Gn g' (by have:=(hown3.out.lt g' hg').1;omega) (by have:=(hown3.out.lt g' hg').1;omega)) mG);have acn:Hid (∀b,b<N5->P2 b->P b):=Lib.hid λb hb h=>xD.out b hb (hP2 b ak h);have aeK:Hid (∀b,v.ownBlock=some b->¬ P2 b):=Lib.hid λb h hp=>Xu.out b h (hP2 b (hown3.out.lt b h).2 hp)
         have agQ:Hid (fu yV (q+en*17) (xs1.drop en)):=Lib.hid (by
          have h1:=hC3.out.rest hM6 (by rw[List.length_drop,zM.out];have:=SB.out;omega);rw[List.drop_drop,SB.out]at h1;have e:q+at_*17+d*17=q+en*17:=by have:=SB.out;omega
          rw[e]at h1
          exact h1)
         have HI6:=Lib.hid hI6;have ZP:N5<=w6.heap.size:=aC hN3 hs6;have HN2:Hid (n2<=n+2*jd B f xs1 en):=Lib.hid ak;obtain⟨sh,hsh⟩:∃l:List Fw.Ld,(bs.map (·.ld)).map (λx=>{ x with a1:=Fw.wr (x.a1+y1) })=l:=⟨_,rfl⟩;have HSH:=Lib.hid hsh;have HSL:Hid (sh.length=d):=Lib.hid (by rw[<-hsh,List.length_map,List.length_map,HBL.out]);have HOL:=Lib.hid hTT.out.2.2.1;clear RL hn2 hP2 hI6 hM6 mG AC3 B3 C3 zN aeG hown3 Xu xD hN3 Gn hsh hcs hcs2 hn' hC3 l0 aA aB bB wG hPC EB
         go_loopw [129] (λiv wr=>∃(i:Nat) (v3:Value),i<=d/\iv=.int .i64 i/\qV Y B F w P n2 P2 wr/\At wr R (.cells yV 283)/\At wr Cb (.cells #[v3,.int .i64 y1] 198)/\Hid (wr.ownsRow N5 114 7 v3 (out++sh.take i).length (wI (out++sh.take i)))/\Hid (∀b,v3.ownBlock=some b->¬ P2 b)/\At wr w.heap.size (.cells #[.int .i64 z,.int .i64 i0,.int .i64 i1] 112)/\At wr (w.heap.size+1) (.cells #[.slice none 0 0,.int .i64 0] 198)/\Hid (aF wr b0 s zvf zva Ml)/\Hid (Bz wr g br)/\N5<=wr.heap.size) (λiv _=>d-(intOf iv).toNat)
         case atStart=>exact⟨0,v,bJ _,rfl,yX,xA,AC6,Lib.hid (by simpa using hown6.out),aeK,B6,C6,Lc,aeJ,ZP⟩
         case round =>
          clear yX xA AC6 hown6 aeK B6 C6 Lc aeJ ZP;obtain⟨i,v3,ahL,rfl,hSr,hAr,AC,hown,Xu,A0,A4,vY,PY,EB⟩:=hrel;by_cases hlt:i<d
          . have hltz:(i:Int)<(d:Int):=by omega
            have hix:i<bs.length:=by rw[HBL.out];exact hlt
            have qz:=HI6.out.at_ hAr hix;obtain⟨x,hx⟩:∃x,bs[i]=x:=⟨_,rfl⟩;rw[hx]at qz;have HX:=Lib.hid hx;have qd:=Lib.hid hSr;have aad:=Lib.hid hSr.lt;have Bt:=hAr.lt;clear hx hSr
            go_upto_region 24 with(first|(refine dn aU _ rfl rfl (by with_reducible assumption) ?_)|(refine bV aU rfl ?_)|(refine bO aU _ _ rfl rfl rfl Z5f ?_))
            generalize hW:World.setRow _ _ _=W3;obtain⟨Q,hQ⟩:∃b,wr.heap.size=b:=⟨_,rfl⟩;have AQ:At W3 Q (.cells (nJ x) 283):=hW▸hQ▸At.setRow (At.new _ _) _;have hb3:Below wr.heap.size wr W3:=hW▸cO (Below.alloc' (Below.refl _ _) _) (ah _) _;have gQ:wr.heap.size<=Q:=Nat.le_of_eq hQ;rw[hQ];clear hW hQ qz Bt;obtain⟨p,hp⟩:∃v2,IntKind.i64.wrap (x.ld.a1+y1)=v2:=⟨_,rfl⟩;obtain⟨y',hy'⟩:∃y:Fw.Ld,{ x.ld with a1:=p }=y:=⟨_,rfl⟩
            have HTK:Hid (sh.take (i+1)=sh.take i++[y']):=Lib.hid (by
             have hxi:i<sh.length:=by rw[HSL.out];exact hlt
             rw[List.take_succ_eq_append_getElem hxi];congr 2;have e:=HSH.out;have e2:sh[i]={ bs[i].ld with a1:=Fw.wr (bs[i].ld.a1+y1) }:=by subst e;simp
             rw[e2,HX.out,<-qZ,hp,hy'])
            have AC3:=AC.keep hb3;have lQ:=AQ.lt;have c11:W3.cell? ⟨Q,11,none⟩=some (.int .i64 x.ld.a1):=(AQ.cell 11).trans rfl;have z11:=AQ.thaw 11;obtain⟨lC,Fb,Fg⟩:=At.two AC3
            go_upto_region 25 with(fail)
            generalize hW:World.setCell _ _ _=W9;have AQ9:At W9 Q (.cells (nJ { x with ld:=y' }) 283):=by
             rw[<-hW,<-hy'];exact At.set AQ 11 _
            have fT:Below wr.heap.size wr W9:=by
             rw[<-hW];exact Below.setCell hb3 gQ _
            clear hW lQ c11 z11 AQ hb3 hp hy' AC3 lC Fb Fg;have Lp:=bD (M:=λ_=>False) hown.out (λ_ _ q=>q) (Out.of_below fT);have UK:=fT.size;obtain⟨g',c',w',hr,hown',hOa,hgg⟩:=N8 y' Lp ak (by rw[List.length_append,HOL.out,List.length_take,HSL.out];omega);obtain⟨ln,hln⟩:∃n,(out++sh.take i).length+1=n:=⟨_,rfl⟩;rw[hln]at hr hown';clear hln;have hrun:=Lib.hid hr
            have hQL:∀j,j<7->W9.cell? ⟨Q,5+j,none⟩=(eF y')[j]? := λj hj=>by
             rw[AQ9.cell];exact Z2r
            have VQ:∀b,v3.ownBlock=some b->N5<=b:=λb h=>(hown.out.lt b h).1;have XE:=AC.keep fT;have pG:At w' Cb (.cells #[v3,.int .i64 y1] 198):=At.out (M:=λb=>v3.ownBlock=some b) (XE.alloc _) (λh=>by have:=VQ Cb h;omega) hOa;obtain⟨lC9,aco,acp⟩:=At.two XE;obtain⟨lCn,acr,acs⟩:=At.two pG;have acu:=pG.thaw 0;have lQ9:=AQ9.lt;have HQL:=Lib.hid hQL;clear hr Lp hQL
            go_upto_region 26 with(first|(refine eP zH nU aU _ rfl rfl (dw y') HQL.out ?_)|(refine uq aU _ rfl rfl ?_)|(at_builtin;refine wpList_append_run aU _ _ 196 rfl rfl rfl hrun.out ?_))
            generalize hW:World.setCell _ _ _=Le;have yL:At Le Cb (.cells #[.slice (some ⟨g',0,none⟩) ln c',.int .i64 y1] 198):=hW▸At.set pG 0 _;have Ls:Out (λb=>b=Cb) w' Le:=hW▸Out.set (M:=λb=>b=Cb) (Out.refl _ _) rfl 0 _
            have Oh:Hid (Le.ownsRow N5 114 7 (.slice (some ⟨g',0,none⟩) ln c') (out++sh.take (i+1)).length (wI (out++sh.take (i+1)))):=Lib.hid (by
             rw[HTK.out,<-List.append_assoc]
             exact bD (M:=λb=>b=Cb) hown' (λg hg e=>by have:=(hown'.lt g hg).1;omega) Ls)
            have aeL:Hid (∀b,(Value.slice (some ⟨g',0,none⟩) ln c').ownBlock=some b->¬ P2 b):=Lib.hid λb h hp=>by
             have e:g'=b:=by simpa[Value.ownBlock]using h
             subst e;rcases hgg with h1|h1
             . exact Xu.out _ h1 hp
             . have:=aad.out _ hp;omega
            have Lv:Out (λb=>v3.ownBlock=some b\/b=Cb) wr Le:=(Out.of_below (Below.alloc' fT _)).trans ((hOa.mono λb _ h => .inl h).trans (Ls.mono λb _ h => .inr h))
            have hoff:∀b,b<N5->b≠Cb->¬ (v3.ownBlock=some b\/b=Cb):=λb hb hn h=>by
             rcases h with h|h
             . have:=VQ b h;omega
             . exact hn h
            have nM:=qd.out.own Lv λb hb h=>by
             rcases h with h|h
             . have h1:=VQ b h
               exact⟨Xu.out b h,by omega⟩
             . subst h
               exact⟨λhp=>by have:=Ca.out _ (acn.out _ lC5 hp);omega,by omega⟩
            have nX:=hAr.out (hoff R Xz (Ne.symm nCR)) Lv;have B10:=A0.out (hoff _ ak ak) Lv;have Mq:=A4.out (hoff _ ak ak) Lv;have vI:=Lib.hid (At.out vY.out (hoff b0 ak ak) Lv);have Lm:=Lib.hid (Bz.out PY.out Lv (hoff g lg5 (Ne.symm nCg)));have DU:N5<=Le.heap.size:=aC EB Lv.size;clear hW pG Ls hown' hOa Lv hoff XE lC9 aco acp lCn acr acs acu lQ9 HQL fT UK AQ9 hown hAr A0 A4 AC vY PY hrun Xu hgg;go_wp2
            go_roundw
            case rel=>exact⟨i+1,_,by omega,by go_num,nM,nX,yL,Oh,aeL,B10,Mq,vI,Lm,DU⟩
            case measure=>simp[intOf];omega
          . obtain rfl:i=d:=by omega
            have hfull:sh.take i=sh:=List.take_of_length_le (by rw[HSL.out];exact ah _);rw[hfull]at hown;have lC:=AC.lt;obtain⟨lC,Fb,Fg⟩:=At.two AC;have zC1:=AC.thaw 1;obtain⟨y2,hy2⟩:∃t,IntKind.i64.wrap (y1+deep)=t:=⟨_,rfl⟩
            go_upto_region 28 with(fail)
            generalize hW:World.setCell _ _ _=RG;have DV:At RG Cb (.cells #[v3,.int .i64 y2] 198):=hW▸At.set AC 1 _;have Ls:Out (λb=>b=Cb) wr RG:=hW▸Out.set (M:=λb=>b=Cb) (Out.refl _ _) rfl 1 _
            have uD:=hSr.own Ls λb hb h=>by
             subst h;exact⟨λhp=>by have:=Ca.out _ (acn.out _ lC5 hp);omega,by omega⟩
            have LA:=hAr.out (M:=λb=>b=Cb) (Ne.symm nCR) Ls;have XD:=A0.out (M:=λb=>b=Cb) ak Ls;have Jo:=A4.out (M:=λb=>b=Cb) ak Ls;have Gl:=Lib.hid (At.out (M:=λb=>b=Cb) vY.out ak Ls);have aeM:=Lib.hid (Bz.out (M:=λb=>b=Cb) PY.out Ls (Ne.symm nCg));have acv:=Lib.hid (bD (M:=λb=>b=Cb) hown.out (λg' hg' e=>by have:=(hown.out.lt g' hg').1;omega) Ls);have Fh:N5<=RG.heap.size:=aC EB Ls.size
            have agR:Hid (br.drop (k2+1)=Li.tail i0 (s.c 46) (s.b 45) qj en/\en<=k/\(out++sh).length=en/\(xs,hi)=((out++sh)++(Fw.cu B (Fw.lay B f) z i0 i1 hh fl (decide (k2+1=0)) y2 (br.drop (k2+1))).1,(Fw.cu B (Fw.lay B f) z i0 i1 hh fl (decide (k2+1=0)) y2 (br.drop (k2+1))).2)):=Lib.hid ⟨HB2.out.2,hle,by rw[List.length_append,HOL.out,HSL.out];have:=SB.out;omega,by
             have h1:=hTT.out.2.2.2;rw[HDR.out,<-HB2.out.2]at h1;have h2:=E9 (y1:=y1) (l:=bs.map (·.ld)) (d:=deep) h1 (by rw[ZM.out];exact HY1.out) (by rw[show((at_,en):Nat×Nat).2-((at_,en):Nat×Nat).1=i from HD.out];exact HRL.out);rw[HSH.out,<-qZ,hy2]at h2
             exact h2⟩
            clear hW lC Fb Fg zC1 Ls hown hAr A0 A4 AC vY PY hSr hfull hy2;go_wp2
            go_roundw
            case rel=>exact⟨k2+1,n2,P2,yV,v3,y2,out++sh,en,by have:=YK.out;omega,by go_num,agR,HN2.out,uD,acn,Fh,LA,agQ,DV,acv,Xu,XD,Jo,Gl,aeM⟩
            case measure=>have:=YK.out;simp[intOf];omega
      . obtain rfl:k2=nb:=by omega
        have hend:br.drop k2=[]:=by rw[<-HNB.out];exact List.drop_length
        have h4:=hTT.out.2.2.2;rw[hend,IJ,List.append_nil]at h4;have hxo:xs=out/\hi=y:=by injection h4 with h1 h2;exact⟨h1,h2⟩
        obtain⟨Rr,cap,csr,rfl,VQ,gR',AR,Gj⟩:=K6 hown.out (by rw[<-hxo.1];exact HXL.out);obtain⟨lC,Fb,Fg⟩:=At.two AC;obtain⟨l4,fA,fB⟩:=At.two A4;have iQ:=A4.thaw 0;have iR:=A4.thaw 1;have lw:w.heap.size+1<wr.heap.size:=A4.lt;have HRC:=Lib.hid Gj;have qd:=Lib.hid hSr;have HXO:=Lib.hid hxo;have acw:=Lib.hid (Xu.out Rr rfl);have hPN:=Lib.hid (show¬ P' (w.heap.size+1)from λh=>by have:=Ca.out _ (xD.out _ ak h);omega)
        have HN2:Hid (n'<=n+2*(fl.map (Fw.cst B f)).sum):=Lib.hid (by
         have h1:=wm B f xs1 at_;rw[zM.out,HCS.out]at h1
         omega)
        clear Gj hown hSr hAr A0 vY PY h4 hxo hend;go_wp2;generalize hW:World.setCell _ _ _=W6;replace A4:At W6 (w.heap.size+1) (.cells #[.slice (some ⟨Rr,0,none⟩) out.length cap,.int .i64 y] 198):=hW▸At.set (At.set A4 0 _) 1 _;have SK:Out (λb=>b=w.heap.size+1) wr W6:=by
         exact Z2s
        clear hW fA fB iQ iR lC Fb Fg AC;have AR6:=AR.out (M:=λb=>b=w.heap.size+1) ak SK;have yX:=qd.out.own SK λb hb h=>by subst h;exact⟨hPN.out,by omega⟩
        obtain⟨l4,fA,fB⟩:=At.two A4;have mG:=yX.fin;have Jq:=yX.kp;have hNw:=yX.new;refine bodyPost_ret (v:=.agg #[.slice (some ⟨Rr,0,none⟩) out.length cap,.int .i64 y]) (by simp[results,Tryz.results172,go_sem,fA,fB,l4];first|done|exact⟨rfl,rfl⟩|rfl) rfl ⟨Rr,cap,csr,P',n',by rw[HXO.out.1,HXO.out.2],by omega,AR6,by rw[HXO.out.1];exact HRC.out,HN2.out,Jq,hNw,acw.out,mG⟩
end
end Go.Proofs.YtcbcfdihofclkaaGreat.Fix
