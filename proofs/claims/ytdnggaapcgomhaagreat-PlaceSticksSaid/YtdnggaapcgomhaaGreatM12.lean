/- Steps of the program (12); no conditions. -/
import Derived.Test.YtdnggaapcgomhaaGreatM11
set_option linter.all false
set_option maxRecDepth 100000
set_option maxHeartbeats 16000000
namespace Go.Proofs.YtdnggaapcgomhaaGreat.Fix
open Go.ChangeShapes Go.WideShapes Go.ChangeAt Go.RowKit
open Go.Proofs.Tryz renaming prog → ja0
open World renaming alloc → ja4,setCell → ja5,setRow → jb9
open List renaming getElem?_eq_getElem → ja6,length_append → ja7,take_of_length_le → jb6,length_map → jb7,getElem?_map → jc1,getElem_mem → jc3,take_succ_eq_append_getElem → jc8,length_take → jc9
def Ci(W:World)(g:Nat)(l:List (Nat×Nat)):Prop:=g<W.heap.size/\∀k (h:k<l.length),W.cell? ⟨g,k*2,none⟩=some (.int .i64 (l[k].1:Int))/\W.cell? ⟨g,k*2+1,none⟩=some (.int .i64 (l[k].2:Int))
theorem Ci.out{M:Nat->Prop}{W W':World}{g:Nat}{l:List (Nat×Nat)}(h:Ci W g l)(k:Out M W W')(hm:¬ M g):Ci W' g l:=⟨aT h.1 k.size,λi hi=>⟨(Out.cell k _ h.1 hm).trans (h.2 i hi).1,(Out.cell k _ h.1 hm).trans (h.2 i hi).2⟩⟩
theorem Vi{W:World}{base:Nat}{v:Value}{l:List (Nat×Nat)}(h:W.ownsRow base 66 2 v l.length ((Li.flat l).map (Value.int .i64)))(hn:l≠[]):∃g c,v=.slice (some ⟨g,0,none⟩) l.length c/\base<=g/\Ci W g l:=by
 rcases h.2 with⟨rfl,h0⟩|⟨g,cap,cur,rfl,hb,hgb,hnc,hcm,hsz,htk⟩
 . exact absurd (List.length_eq_zero_iff.1 h0) hn
 . have hA:At W g (.cells cur 66):=hgb
   have key:∀i (x:Int),i<l.length*2->(Li.flat l)[i]? = some x->W.cell? ⟨g,i,none⟩=some (.int .i64 x):=λi x hi hx=>by
    have e:((Li.flat l).map (Value.int .i64))[i]? = some (.int .i64 x):=by rw[jc1,hx];rfl
    rw[<-htk,List.getElem?_take,if_pos hi,Array.getElem?_toList]at e;rw[hA.cell];exact e
   exact⟨g,cap,rfl,hb,hA.lt,λk hk=>⟨key _ _ ak (Li.flat_get l hk).1,key _ _ ak (Li.flat_get l hk).2⟩⟩
section
variable {Y:p9} {B:Int->Fw.Bx} {F:Int->Nat} {D:Int->Prop} {KM:World->Nat->Prop} {f:Nat} {w:World} {P:Nat->Prop}
def rwG(B:Int->Fw.Bx)(i0:Int)(x:Im):Im:={ x with it:=Fw.uq B i0 x.ld.id }
theorem ach{i0:Int}{x:Im}(h:MQ Y B D F f i0 x):MQ Y B D F f i0 (rwG B i0 x):=⟨h.d,h.f,h.bx,h.m0,h.m1,h.m2,h.m3⟩
theorem aci(Y:p9)(B:Int->Fw.Bx)(i0:Int)(fl:List Int):(gH Y B i0 fl).map (rwG B i0)=fl.map (rwI Y B i0):=by unfold gH;rw[List.map_map];rfl
theorem ajl(hL:vO Y B F D KM f)(hK:∀(X X':World) (b:Nat),KM X b->Below X X X'->KM X' b)(rY:∀(X X':World) (b:Nat),KM X b->Out (λq=>q≠b) X X'->KM X' b)(hR0:RO w Y B D KM)(hkm:Y.km<w.heap.size)
  (z i0 i1:Int) (hz:D z) (hdn:∀k∈(B z).fl,D k/\F k=f) (hne:(B z).fl≠[]) (hl:(B z).fl.length<=64) (n:Nat) (FK:Kp Y B F n P w) (hP:∀b,P b->b<w.heap.size) (hn:n+2*((B z).fl.map (Fw.cst B f)).sum<maxLen) (xs:List Fw.Ld) (hi:Int) (hm:Fw.TJ B (Fw.lay B f) z i0 i1=(xs,hi)) (hxl:xs≠[]) :
  Calls ja0 112 #[Y.lb,.agg #[z,i0,i1]] w λe w'=>∃R cap cs P' n',e=.returned (.agg #[.slice (some ⟨R,0,none⟩) xs.length cap,hi])/\w.heap.size<=R/\At w' R (.cells cs 101)/\nH cs xs/\n'<=n+2*((B z).fl.map (Fw.cst B f)).sum/\Kp Y B F n' P' w'/\(∀b,P' b->P b\/w.heap.size<=b)/\¬ P' R/\Out (λb=>b=Y.pm) w w':=by
 obtain⟨es0,UJ,oz⟩:=hR0.FJ;have hpl:=oz.lt;obtain⟨fl,hfl⟩:=aA ((B z).fl);rw[hfl]at hdn hne hl hn ⊢;obtain⟨s,hs⟩:=aA ((B z).sty);obtain⟨wV,hx0⟩:=aA (gH Y B i0 fl);obtain⟨xs1,hx1⟩:=aA (wV.map (rwG B i0));obtain⟨o9,JZ⟩:=aA ((fl.map λk=>Fw.wr (Fe.clamp (Fw.uq B i0 k) (Fw.uq B i0 k).b+Fw.TI B i0 0 k)));obtain⟨br,hbr⟩:=aA (Li.brk i0 (s.c 46) (s.b 45) o9);obtain⟨hh,MJ⟩:=aA ((if br.length=1 then i1 else -1))
 have HMR:Hid (Fw.dO B (Fw.lay B f) z i0 i1 hh fl true 0 br=(xs,hi)):=ah (by
  rw[<-hm];unfold Fw.TJ
  simp only[hfl,hs,JZ,hbr,MJ])
 obtain⟨m,hmm⟩:=aA fl.length;have HL0:Hid (wV.length=m):=ah (by rw[<-hx0,<-hmm];simp[gH]);have Af:Hid (xs1.length=m):=ah (by rw[<-hx1,jb7,HL0.out]);have UO:Hid (o9.length=m):=ah (by rw[<-JZ,jb7,hmm]);have Ta:Hid (xs1=fl.map (rwI Y B i0)):=ah (by rw[<-hx1,<-hx0,aci])
 have YV:Hid (∀x∈wV,MQ Y B D F f i0 x):=ah (by
  rw[<-hx0];intro x hx;obtain⟨k,hk,e⟩:=List.mem_map.1 hx;rw[<-e]
  exact Sg (hdn k hk).1 (hdn k hk).2)
 have JR:Hid (∀x∈xs1,MQ Y B D F f i0 x):=ah (by
  rw[<-hx1];intro x hx;obtain⟨y,hy,e⟩:=List.mem_map.1 hx;rw[<-e]
  exact ach (YV.out y hy))
 have HCS:Hid (iK B f xs1 m=(fl.map (Fw.cst B f)).sum):=ah (by
  unfold iK;rw[Ta.out,<-hmm];rw[<-List.map_take,List.take_length,List.map_map]
  rfl)
 have HXG:Hid (xs1=wV.map (rwG B i0)):=ah hx1.symm;have HX0:Hid (wV=gH Y B i0 fl):=ah hx0.symm;have HLO:=ah JZ;have HBR:=ah hbr;have HHH:=ah MJ;have PO:=ah hs;have GJ:=ah hfl;have HM:=ah hmm;have HN:=ah hn;have HDN:=ah hdn;have uN:=ah hR0;have HXL:=ah hxl;rw[hmm]at hl;have hm0:0<m:=by rw[<-hmm];exact List.length_pos_iff.2 hne
 clear hx1 hx0 JZ hbr MJ hm hmm hxl;have hS:=pJ.start FK hP;have wR:=hR0;obtain⟨b0,hb0⟩:=aA (Y.bl z);have hbx:=(wR.box z hz).1;rw[hb0,hs]at hbx;generalize Y.vf z=zvf at hbx;generalize Y.va z=zva at hbx;generalize (B z).ib=Oo at hbx;have U4:=hbx.lt
 have n0p:b0≠Y.pm:=λe=>by
  rw[e]at hbx;exact absurd (At.uniq hbx oz) aW
 have b1:Below w w ((w.alloc (.cells #[z,i0,i1] 99)).alloc (.cells #[.slice none 0 0,()] 167)):=aB (aB aD _) _;have A0:At ((w.alloc (.cells #[z,i0,i1] 99)).alloc (.cells #[.slice none 0 0,()] 167)) w.heap.size (.cells #[z,i0,i1] 99):=At.alloc (At.new _ _) _;have A4:At ((w.alloc (.cells #[z,i0,i1] 99)).alloc (.cells #[.slice none 0 0,()] 167)) (w.heap.size+1) (.cells #[.slice none 0 0,()] 167):=At.new' _ Ku;have hS1:=hS.after b1;have F4:=wR.keep hK b1;have YN:=ah (aL.keep hbx b1);clear hdn hR0 wR hS oz hs hbx hfl FK hn;go_enter Tryz.func112,Tryz.ntmps112
 go_upto_region 1 with(fail)
 generalize (w.alloc (.cells #[z,i0,i1] 99)).alloc (.cells #[.slice none 0 0,()] 167)=w1 at *;have agy:=A4.lt;have hsz:=b1.size;have hlk:=λX (h:Below w1 w1 X)=>(F4.keep hK h).look hz;simp only[hb0]at hlk;obtain⟨lY,xC,xD,zy,zA,zB,zC⟩:=At.six F4.lay;obtain⟨l0,fu,fA,gy⟩:=At.three A0;have hSd:Below w1 w1 w1.drew:=Below.drew aD;refine iC (S:=λX=>Below w1 w1 X) 8 ?_ ?_
 . exact hSd
 intro hx;clear hSd;refine aF 0 ?_;refine aF 1 ?_;refine aF 2 ?_;refine aF 3 ?_;refine aF 4 ?_;refine aF 5 ?_;refine jh 6 rfl (aZ aR rfl rfl rfl (λX h=>hlk X h)) ?_;refine aF 7 ?_;refine gZ ?_;have hx2:Below w1 w1 w1.drew:=hx;generalize w1.drew=w3 at *;have abU:=hx2.size;have qz:=hS1.after hx2;have B3:=A0.keep hx2;have C3:=A4.keep hx2;have Ah:=ah (aL.keep YN.out hx2);have FQ:=qz.ro rY uN.out hkm;have nT:Calls ja0 145 #[Y.lb,.agg #[z,i0,i1]] w3 λe w'=>(∃R q cs,e=.returned (.slice (some ⟨R,q,none⟩) m m)/\w3.heap.size<=R/\At w' R (.cells cs 232)/\fq cs q wV)/\Below w3 w3 w':=by
  exact Z1w
 obtain⟨l0,fu,fA,gy⟩:=At.three B3;clear b1 A0 A4 hS1 F4 hlk xC xD zy zA zB zC lY hx FQ hb0 YN
 go_upto_region 4 with(go_at_call 145;(with_reducible refine nT.mono ?_);rintro e' w4 ⟨⟨R,q,cs,rfl,gR,hA4,UK⟩,hb4⟩)
 clear nT;have HI4:=ah UK;have Gi:=qz.after hb4;have B4:=B3.keep hb4;have C4:=C3.keep hb4;have M5:=ah (aL.keep Ah.out hb4);have aek:=hb4.size;have sU:w.heap.size+1<R:=by omega
 have Ym:¬ P R:=λh=>by have:=hP R h;omega
 have n0R:b0≠R:=by omega
 have lR4:=hA4.lt;clear hb4 UK B3 C3 qz hx2 l0 fu fA gy Ah
 go_loopw [31] (λiv wr=>∃(k:Nat) (cs':Array Value),k<=m/\iv=.int .i64 k/\pJ Y B F w P n P wr/\At wr R (.cells cs' 232)/\Hid (fq cs' q (Es (rwG B i0) wV k))/\At wr w (.cells #[z,i0,i1] 99)/\At wr (w.heap.size+1) (.cells #[.slice none 0 0,()] 167)/\Hid (aL wr b0 s zvf zva Oo)) (λiv _=>m-(intOf iv).toNat)
 case atStart=>exact⟨0,cs,eX _,rfl,Gi,hA4,ah (by rw[Et];exact HI4.out),B4,C4,M5⟩
 case round =>
  clear Gi hA4 B4 C4 M5 HI4;obtain⟨k,cs',hk,rfl,hSr,hAr,hC,A0,A4,wH⟩:=hrel;by_cases hlt:k<m
  . have hltz:(k:Int)<(m:Int):=by omega
    have hkx:k<wV.length:=by rw[HL0.out];exact hlt
    have hkc:k<(Es (rwG B i0) wV k).length:=by rw[jy];exact hkx
    have pK:=hC.out.at_ hAr hkc;rw[tF _ _ hkx]at pK;obtain⟨x,hx⟩:=aA (wV[k]);have kg:=ah (YV.out x (hx▸jc3 _));rw[hx]at pK;have HX:=ah hx;have oZ:=ah hSr;have hRr:=hSr.ro rY uN.out hkm;have hbx:=(hRr.box x.ld.id kg.out.d).1;rw[<-kg.out.bx]at hbx;obtain⟨sx,hsx⟩:=aA ((B x.ld.id).sty);rw[hsx]at hbx;generalize Y.vf x.ld.id=vf at hbx;generalize Y.va x.ld.id=va at hbx;generalize (B x.ld.id).ib=ib at hbx;have HSX:=ah hsx;have pG:=ah hbx;have Cc:=hAr.lt;have n34:=uN.out.box x.ld.id kg.out.d;rw[<-kg.out.bx]at n34;have n4:x.bx≠R:=by have:=n34.1.lt;omega
    clear n34;clear hRr hbx hsx hx hSr
    go_upto_region 6 with(first|(refine dn aR _ rfl rfl (by with_reducible assumption) ?_)|(refine bW aR rfl ?_)|(refine bP aR _ _ rfl rfl rfl Z4m ?_))
    generalize hW:jb9 _ _ _=W3;obtain⟨Q,hQ⟩:=aA wr.heap.size;have AQ:At W3 Q (.cells (lZ x) 232):=hW▸hQ▸At.setRow (At.new _ _) _;have hb3:Below wr wr W3:=hW▸aM (aB aD _) aC _;have gQ:wr.heap.size<=Q:=Nat.le_of_eq hQ;rw[hQ];clear hW hQ pK;have B3:=A0.keep hb3;have KJ:=ah (aL.keep pG.out hb3);have lbx:=aL.lt KJ.out;have lQ:=AQ.lt;have cQ:W3.cell? ⟨Q,12,none⟩=some (.pointer x.bx):=(AQ.cell 12).trans rfl;have cb3:W3.cell? ⟨x.bx,3,none⟩=some (.int .i64 (sx.c 3)):=aL.int KJ.out 3 ak rfl;have cb4:W3.cell? ⟨x.bx,4,none⟩=some (.int .i64 (sx.c 4)):=aL.int KJ.out 4 ak rfl;have ajm:W3.cell? ⟨x.bx,53,none⟩=some (.int .i64 (sx.c 53)):=aL.int KJ.out 53 ak rfl;obtain⟨l0,fu,fA,gy⟩:=At.three B3;have hSd:Below W3 W3 W3.drew:=Below.drew aD;refine iC (S:=λX=>Below W3 W3 X) 18 ?_ ?_
    . exact hSd
    intro hx;clear hSd;refine aF 0 ?_;refine aF 1 ?_;refine aF 2 ?_;refine aF 3 ?_;refine aF 4 ?_;refine aF 5 ?_;refine aF 6 ?_;refine aF 7 ?_;refine aF 8 ?_;refine aF 9 ?_;refine aF 10 ?_;refine aF 11 ?_;refine aF 12 ?_;refine aF 13 ?_;refine aF 14 ?_;refine aF 15 ?_;refine tk1 16 ?_;refine aj.Step.call eD (iP (sx.c 3) (sx.c 4) i0 (sx.c 53) _) ?_;rintro e' w5 ⟨rfl,hb⟩;replace hx:=Below.ay hx aC hb;clear hb;refine⟨_,rfl,λ_=>hx,?_⟩
    (try simp only[bM,bN,bO,tks])
    refine aF 17 ?_;refine gZ ?_;have yZ:Below wr wr w5:=Below.ay hb3 aC hx;have AQ5:=AQ.keep hx;have xJ:=hAr.keep yZ;have hS5:=oZ.out.after yZ;have B5:=A0.keep yZ;have C5:=A4.keep yZ;have MS:=ah (aL.keep pG.out yZ);have Gq:=ah (aL.keep wH.out yZ);clear cQ cb3 cb4 ajm lbx lQ l0 fu fA gy hx AQ KJ B3 A0 A4 hAr wH pG oZ hb3;obtain⟨base,hbase⟩:=aA (Fx.len (sx.c 3) (sx.c 4) i0 (sx.c 53));rw[hbase];obtain⟨it,hit⟩:=aA (Fw.asI sx 0 base i0)
    have mQ:∀X,Calls ja0 146 #[.agg #[sx.c 3,sx.c 4,sx.c 7,sx.c 8,sx.c 11,sx.c 12],.agg (cells sx),base,i0] X λe X'=>e=.returned (.agg (wP it))/\Below X.heap.size X X':=λX=>by
     rw[<-hit];exact R5 _ _ _ _ _ _ sx base i0 X
    have lbx:=aL.lt MS.out;have lR5:=xJ.lt;have lQ:=AQ5.lt;have cQ:w5.cell? ⟨Q,12,none⟩=some (.pointer x.bx):=(AQ5.cell 12).trans rfl;have nQ:Q≠R:=by omega
    have n2:w.heap.size≠R:=by omega
    obtain⟨l0,fu,fA,gy⟩:=At.three B5;have acj:=ah (show q+k*17+5<=cs'.size by have:=hC.out.1;rw[jy]at this;have h2:k*17+17<=wV.length*17:=ak;omega);have hSd:Out (λb=>b=R) w5 w5.drew:=(Out.refl _ _).drew
    go_upto_region 7 with(fail)
    refine iC (S:=λX=>Out (λb=>b=R) w5 X) 21 ?_ ?_
    . exact hSd
    intro hx;clear hSd;refine yc 0 ?_;refine yc 1 ?_;refine yc 2 ?_;refine yc 3 ?_;refine yc 4 ?_;refine yc 5 ?_;refine yc 6 ?_;refine jh 7 rfl (oJ (.tmp 59) aR rfl rfl (λX h=>At.out MS.out n4 h)) ?_;refine yc 8 ?_;refine yc 9 ?_;refine yc 10 ?_;refine yc 11 ?_;refine jh 12 rfl (iH aR (.tmp 64) rfl rfl (λX h=>aL.style (At.out MS.out n4 h))) ?_;refine yc 13 ?_;refine yc 14 ?_;refine yc 15 ?_;refine yc 16 ?_;refine tk1 17 ?_;refine aj.Step.call eD (mQ _) ?_;rintro e' zl ⟨rfl,hb⟩;have Nc:At zl R (.cells cs' 232):=At.keep (At.drew xJ) hb;have J3:Out (λb=>b=R) w5 zl:=Out.trans' ((Out.refl _ w5).drew) (Out.of_below (M:=λ_=>False) hb) λ_ _ q=>q.elim;refine⟨_,rfl,λ_=>J3,?_⟩
    (try simp only[bM,bN,bO,tks])
    refine yc 18 ?_;refine yc 19 ?_;refine tk1 20 ?_;refine aj.Step.skip (aY (q:=q+k*17) z8 (.tmp 72) (.tmp 70) rfl rfl rfl Nc (gN it) acj.out (CW it)) ?_;have acn:=At.setRow Nc (splice cs' (q+k*17) (wP it));have uK:Out (λb=>b=R) zl (zl.setRow R (splice cs' (q+k*17) (wP it))):=Out.setRow (M:=λb=>b=R) (Out.refl _ _) rfl _;refine⟨λ_=>J3.trans uK,?_⟩
    (try simp only[bM,bN,bO,tks])
    refine gZ ?_;have Ky:=J3.trans uK;have EJ:=hC.out.adb hkc it;rw[tF _ _ hkx,HX.out]at EJ
    have aeD:Hid (fq (splice cs' (q+k*17) (wP it)) q (Es (rwG B i0) wV (k+1))):=ah (by
     rw[<-yR _ _ hkx,HX.out];have e:rwG B i0 x={ x with it:=it }:=by
      unfold rwG Fw.uq;rw[HSX.out,<-hit,<-hbase]
     rw[e]
     exact EJ.1)
    have Qs:=hS5.own (M:=λb=>b=R) Ky λb hb h=>by subst h;exact⟨Ym,by omega⟩
    have B14:=B5.out (M:=λb=>b=R) n2 Ky;have C14:=C5.out (M:=λb=>b=R) ak Ky;have Sl:=ah (At.out (M:=λb=>b=R) Gq.out n0R Ky);generalize zl.setRow R (splice cs' (q+k*17) (wP it))=w14 at *;generalize splice cs' (q+k*17) (wP it)=cs4 at *;clear hx EJ xJ Nc J3 uK Ky hS5 B5 C5 MS Gq l0 fu fA gy mQ lbx lR5 lQ cQ hbase hit hC AQ5 yZ;go_wp2
    go_roundw
    case rel=>exact⟨k+1,cs4,by omega,by go_num,Qs,acn,aeD,B14,C14,Sl⟩
    case measure=>simp[intOf];omega
  . obtain rfl:k=m:=by omega
    have U6:Hid (fq cs' q xs1):=ah (by
     have:=hC.out;rw[<-HL0.out,JM,<-HXG.out]at this
     exact this)
    have oZ:=ah hSr;have HRR:=ah (hSr.ro rY uN.out hkm);have Cc:=hAr.lt;obtain⟨l0,fu,fA,gy⟩:=At.three A0;have Kt:=aL.lt wH.out;have aeE:wr.cell? ⟨b0,46,none⟩=some (.int .i64 (s.c 46)):=aL.int wH.out 46 ak rfl;have ajn:wr.cell? ⟨b0,45,none⟩=some (.bool (s.b 45)):=(At.cell wH.out 45).trans (by rw[JA _ _ _ _ ak];rfl);clear hC hSr hlt
    go_upto_region 9 with(fail)
    have hSd:Below wr wr wr.drew:=Below.drew aD;refine iC (S:=λX=>Below wr wr X) 18 ?_ ?_
    . exact hSd
    intro hx;clear hSd;refine aF 0 ?_;refine aF 3 ?_;refine aF 4 ?_;refine aF 5 ?_;refine aF 6 ?_;refine aF 7 ?_;refine aF 8 ?_;refine aF 9 ?_;refine aF 10 ?_;refine aF 11 ?_;refine aF 12 ?_;refine aF 13 ?_;refine aF 14 ?_;refine aF 15 ?_;refine tk1 1 ?_;refine aj.Step.call eD (MK 0 _) ?_;rintro e' w7 ⟨rfl,hw7⟩;have nW:Below wr.drew wr.drew w7:=hw7▸aB aD _;have AB:At w7 wr.drew (.cells #[()] 3):=hw7▸At.new _ _;clear hw7;replace hx:=Below.ay hx aC nW;generalize wr.drew.heap.size=Bq at *;refine⟨_,rfl,λ_=>hx,?_⟩
    (try simp only[bM,bN,bO,tks])
    have mQ:=ad7 #[Bq] (λi=>o9.getD i 0) (some ⟨R,q,none⟩) xs1 k w7 (U6.out.ims (hAr.keep hx)) (by rw[Af.out];omega) (λi h X hb=>by
     have h':i<fl.length:=by have:=Af.out;have:=HM.out;omega
     have ex:xs1[i]=rwI Y B i0 fl[i]:=by
      have e1:=Ta.out;subst e1;simp
     have el:o9.getD i 0=Fw.wr (Fe.clamp (Fw.uq B i0 fl[i]) (Fw.uq B i0 fl[i]).b+Fw.TI B i0 0 fl[i]):=by
      rw[<-HLO.out,List.getD,jc1,ja6 h'];rfl
     have ho:=JR.out xs1[i] (jc3 _);have hbx:=aL.keep ((HRR.out.box _ ho.d).1) (Below.ay hx aC hb);rw[<-ho.bx]at hbx;have h1:=X6 xs1[i] _ _ _ _ Bq X hbx ((hb.cell (p:=⟨Bq,0,none⟩) AB.lt).trans (AB.cell 0));rw[el];rw[ex]at h1 ⊢
     exact h1)
    rw[Af.out]at mQ;refine tk1 2 ?_;refine aj.Step.call eD mQ ?_;rintro e' w8 ⟨⟨bt,rfl,gbt,hT⟩,oq⟩;replace hx:=Below.ay hx aC oq;refine⟨_,rfl,λ_=>hx,?_⟩
    (try simp only[bM,bN,bO,tks])
    have hIt:Ints w8 (some ⟨bt,0,none⟩) o9:=by
     have h1:=fP _ _ KR hT;have h2:=rP o9;rw[UO.out]at h2;rw[h2]at h1;exact h1
    have hs8:=hx.size;have YW:=Vh (some ⟨bt,0,none⟩) o9 k k i0 (s.c 46) (s.b 45) w8 hIt UO.out ak aC;rw[HBR.out]at YW;refine tk1 16 ?_;refine aj.Step.call eD YW ?_;rintro e' w9 ⟨v,rfl,hown,fK⟩;replace hx:=Below.ay hx aC fK;refine⟨_,rfl,λ_=>hx,?_⟩
    (try simp only[bM,bN,bO,tks])
    have ado:br≠[]:=by
     rw[<-HBR.out];unfold Li.brk;rw[Li.qY _ _ _ _ (by rw[UO.out];exact hm0)];exact List.cons_ne_nil _ _
    obtain⟨g,cbr,rfl,gg,Sm⟩:=Vi hown ado;refine aF 17 ?_;refine gZ ?_;obtain⟨nb,hnb⟩:=aA br.length;rw[hnb];have HNB:=ah hnb;have akv:nb<=64:=by
     have h1:=Li.Dt i0 (s.c 46) (s.b 45) o9;rw[HBR.out,hnb,UO.out]at h1;omega
    have gg2:wr.heap.size<=g:=by omega
    have ag1:=ah Sm;have pI:=hAr.keep hx;have Om:=oZ.out.after hx;have B9:=A0.keep hx;have C9:=A4.keep hx;have Nb:=ah (aL.keep wH.out hx);have hE:=HHH.out;rw[hnb]at hE;have HHE:=ah hE;have ajo:=hx.size;clear mQ YW hIt hT gbt hown nW oq fK AB hx oZ hAr A0 A4 wH HRR aeE ajn Kt l0 fu fA gy Sm hnb hE gg hs8 ado;obtain⟨l0,fu,fA,gy⟩:=At.three B9
    go_upto_if 93 with(fail)
    go_cut [11]from 91 to 97 (λv w2=>v=.int .i64 hh/\Below w9 w9 w2)
    case first =>
     by_cases hq:nb=1
     . have e1:=HHE.out
       rw[if_pos hq]at e1;have E1:=ah e1;have hq1:(nb:Int)=1:=by omega
       have hq2:((nb:Int)==1)=true:=by rw[hq1];rfl
       exact Z14
     . have e1:=HHE.out
       rw[if_neg hq]at e1;have E1:=ah e1;have hq1:¬ (nb:Int)=1:=by omega
       have hq2:((nb:Int)==1)=false:=by rw[beq_eq_false_iff_ne];exact hq1
       exact Z14
    case rest =>
     obtain⟨rfl,gY⟩:=hcut;have mF:=Om.after gY;have mJ:=pI.keep gY;have B10:=B9.keep gY;have Oq:=C9.keep gY;have vR:=ah (aL.keep Nb.out gY);have Nf:=ah (Ci.out (M:=λ_=>False) ag1.out (Out.of_below gY) λh=>h);have UW:∀X,(Instr.build 167 #[]).run ja0 X=.ok (.agg #[.slice none 0 0,()]) X:=λ_=>by kernel_rfl
     have ag2:=gY.size;clear Om pI B9 C9 Nb ag1 gY l0 fu fA gy HHE
     go_upto_region 15 with(fail)
     generalize hW:ja4 _ _=qh;obtain⟨Cb,hCb⟩:=aA wc.heap.size;have AC:At qh Cb (.cells #[.slice none 0 0,()] 167):=hW▸At.new' _ hCb.symm;have fF:Below wc wc qh:=hW▸aB aD _;rw[hCb];have qH:=mF.after fF;have nN:=mJ.keep fF;have B11:=B10.keep fF;have M8:=Oq.keep fF;have vS:=ah (aL.keep vR.out fF);have YX:=ah (Ci.out (M:=λ_=>False) Nf.out (Out.of_below fF) λh=>h);obtain⟨N5,Ws⟩:=aA qh.heap.size;have lC5:Cb<N5:=by have:=AC.lt;omega
     have lR5:R<N5:=by have:=nN.lt;omega
     have lg5:g<N5:=by have:=YX.out.1;omega
     have nCR:Cb≠R:=by have:=mJ.lt;omega
     have nCg:Cb≠g:=by have:=Nf.out.1;omega
     have nRg:R≠g:=by omega
     have nC0:b0<R:=by omega
     have nCw:w.heap.size+1<Cb:=by have:=Oq.lt;omega
     have HN5:=ah Ws;have CU:=ah (show∀b,P b->b<w.heap.size from hP);have H0:Hid (br.drop 0=Li.tail i0 (s.c 46) (s.b 45) o9 0/\0<=k/\([]:List Fw.Ld).length=0/\(xs,hi)=([]++(Fw.dO B (Fw.lay B f) z i0 i1 hh fl (decide (0=0)) 0 (br.drop 0)).1,(Fw.dO B (Fw.lay B f) z i0 i1 hh fl (decide (0=0)) 0 (br.drop 0)).2)):=ah ⟨by rw[<-HBR.out];rfl,eX _,rfl,by rw[<-HMR.out];rfl⟩;clear hW UW fF mF mJ B10 Oq vR Nf hCb Ws ag2 ajo
     go_loopw [100] (λiv wr=>∃(k2 n':Nat) (P':Nat->Prop) (cs2:Array Value) (v:Value) (y:Int) (out:List Fw.Ld) (at_:Nat),k2<=nb/\iv=.int .i64 k2/\Hid (br.drop k2=Li.tail i0 (s.c 46) (s.b 45) o9 at_/\at_<=k/\out.length=at_/\(xs,hi)=(out++(Fw.dO B (Fw.lay B f) z i0 i1 hh fl (decide (k2=0)) y (br.drop k2)).1,(Fw.dO B (Fw.lay B f) z i0 i1 hh fl (decide (k2=0)) y (br.drop k2)).2))/\n'<=n+2*iK B f xs1 at_/\pJ Y B F w P n' P' wr/\Hid (∀b,b<N5->P' b->P b)/\N5<=wr.heap.size/\At wr R (.cells cs2 232)/\Hid (fq cs2 (q+at_*17) (xs1.drop at_))/\At wr Cb (.cells #[v,y] 167)/\Hid (wr.ownsRow N5 101 7 v out.length (wU out))/\Hid (∀b,v.ownBlock=some b->¬ P' b)/\At wr w (.cells #[z,i0,i1] 99)/\At wr (w.heap.size+1) (.cells #[.slice none 0 0,()] 167)/\Hid (aL wr b0 s zvf zva Oo)/\Hid (Ci wr g br)) (λiv _=>nb-(intOf iv).toNat)
     case atStart=>exact⟨0,n,P,cs',.slice none 0 0,0,[],0,eX _,rfl,H0,by omega,qH,ah λb _ h=>h,by rw[HN5.out];exact aH _,nN,ah (by simpa using U6.out),AC,ah (World.ownsRow_nil _ _ _ _),ah (λb h=>by simp[Value.ownBlock]at h),B11,M8,vS,YX⟩
     case round =>
      clear qH nN AC B11 M8 vS YX H0 U6;obtain⟨k2,n',P',cs2,v,y,out,at_,hk2,rfl,hTT,hn',hSr,xQ,FL,hAr,hC,AC,hown,hvg,A0,A4,wH,Sm⟩:=hrel;by_cases hlt:k2<nb
      . have hltz:(k2:Int)<(nb:Int):=by omega
        have HK2:Hid (k2<nb):=ah hlt;have hkb:k2<br.length:=by rw[HNB.out];exact hlt
        have hat:at_<o9.length:=Classical.byContradiction λh=>by
         have h1:=hTT.out.1;rw[Li.qX _ _ _ _ ak]at h1;have h2:=congrArg List.length h1;rw[List.length_drop]at h2;simp at h2;omega
        obtain⟨en,hen⟩:=aA (Li.stop i0 (s.c 46) (s.b 45) o9 at_);have hgt:at_<en:=by rw[<-hen];exact Li.yB _ _ _ _ _
        have hle:en<=k:=by rw[<-hen,<-UO.out];exact Li.Jh _ _ _ _ hat
        have hdr:br.drop k2=(at_,en)::Li.tail i0 (s.c 46) (s.b 45) o9 en:=by rw[hTT.out.1,Li.qY _ _ _ _ hat,hen]
        have hb2:br[k2]=(at_,en)/\br.drop (k2+1)=Li.tail i0 (s.c 46) (s.b 45) o9 en:=by
         rw[List.drop_eq_getElem_cons hkb]at hdr;injection hdr with h1 h2;exact⟨h1,h2⟩
        obtain⟨lg,hpc⟩:=Sm.out;have hp2:=hpc k2 hkb;rw[hb2.1]at hp2;obtain⟨cg0,cg1⟩:=hp2;have HB2:=ah hb2;have HDR:=ah hdr;have oZ:=ah hSr;obtain⟨y1,hy1⟩:=aA ((if (decide (k2=0))=true then y else Fw.wr (y+s.c 46)));have HY1:=ah hy1;clear hpc hb2 hdr hen hSr hy1 hat
        go_upto_region 17 with(fail)
        generalize hW:ja4 _ _=W2;obtain⟨L,hL2⟩:=aA wr.heap.size;have AL:At W2 L (.cells #[.int .i64 (at_:Int),.int .i64 (en:Int)] 66):=hW▸At.new' _ hL2.symm;have hb2:Below wr wr W2:=hW▸aB aD _;have gL:N5<=L:=by omega
        rw[hL2];have AC2:=AC.keep hb2;have aeF:=ah (aL.keep wH.out hb2);have lCb:=AC2.lt;clear hW hL2 lg cg0 cg1
        go_upto_if 106 with(fail)
        go_cut []from 105 to 116 (λw2=>At w2 Cb (.cells #[v,y1] 167)/\Out (λb=>b=Cb) W2 w2)
        case first =>
         by_cases hk0:k2=0
         . have aeA:¬ (0:Int)<(k2:Int):=by omega
           have e1:=HY1.out;rw[if_pos (by simp[hk0])]at e1;have E1:=ah e1;clear e1 hk0;go_wp2
           go_meet
           case rel=>exact⟨by rw[<-E1.out];exact AC2,Out.refl _ _⟩
         . have aeA:(0:Int)<(k2:Int):=by omega
           have e1:=HY1.out;rw[if_neg (by simp[hk0]),<-qK]at e1;have E1:=ah e1;have aeE:W2.cell? ⟨b0,46,none⟩=some (.int .i64 (s.c 46)):=aL.int aeF.out 46 ak rfl;have Kt:=aL.lt aeF.out;obtain⟨lC,Gs,Gt⟩:=At.two AC2;have zC1:=AC2.thaw 1;clear e1 hk0
           go_upto_region 18 with(fail)
           have hSd:Below W2 W2 W2.drew:=Below.drew aD;refine iC (S:=λX=>Below W2 W2 X) 9 ?_ ?_
           . exact hSd
           intro hx;clear hSd;refine aF 0 ?_;refine aF 1 ?_;refine aF 2 ?_;refine aF 3 ?_;refine aF 4 ?_;refine aF 5 ?_;refine aF 6 ?_;refine aF 7 ?_;refine aF 8 ?_;refine tk1 9 ?_;refine aj.Step.skip eD ?_;generalize hW:ja5 _ _ _=W3;have AC3:At W3 Cb (.cells #[v,y1] 167):=by
            rw[<-hW,<-E1.out];exact At.set AC2 1 _
           have hO3:Out (λb=>b=Cb) W2 W3:=by
            rw[<-hW];exact Out.set (M:=λb=>b=Cb) (Out.refl _ _) rfl 1 _
           refine⟨by intro hlt;exact absurd hlt aG,?_⟩
           (try simp only[bM,bN,bO,tks])
           refine gZ ?_;clear hW lC Gs Gt zC1 hx aeE Kt;go_wp2
           go_meet
           case rel=>exact⟨At.drew AC3,Out.drew hO3⟩
        case rest =>
         obtain⟨AC3,hO3⟩:=hcut;have hPC:¬ P' Cb:=λh=>by have:=CU.out _ (xQ.out _ lC5 h);omega
         have wS:¬ P' R:=λh=>by have:=CU.out _ (xQ.out _ lR5 h);omega
         have qz:=(oZ.out.after hb2).own hO3 λb hb h=>by subst h;exact⟨hPC,by omega⟩
         have hOA:Out (λb=>b=Cb) wr wc:=(Out.of_below hb2).trans hO3;have hA3:=hAr.out (M:=λb=>b=Cb) (Ne.symm nCR) hOA;have B3:=A0.out (M:=λb=>b=Cb) ak hOA;have C3:=A4.out (M:=λb=>b=Cb) ak hOA;have Ah:=ah (At.out (M:=λb=>b=Cb) wH.out ak hOA);have ag3:=ah (Ci.out (M:=λb=>b=Cb) Sm.out hOA (Ne.symm nCg));have AL3:=AL.out (M:=λb=>b=Cb) ak hO3;have hown3:=ah (bG (M:=λb=>b=Cb) hown.out (λg' hg' e=>by have:=(hown.out.lt g' hg').1;omega) hOA);have hN3:N5<=wc.heap.size:=aJ FL hOA.size;obtain⟨lL,cL0,cL1⟩:=At.two AL3;have hcp:¬ k=at_:=by omega
         have hle1:at_<=en:=by omega
         have hle3:at_<=k:=by omega
         have ag4:(at_:Int)<=(en:Int):=by omega
         have ag5:(en:Int)<=(k:Int):=by omega
         clear AC2 aeF AL hO3 hOA hAr A0 A4 wH Sm hown hb2 oZ lCb;obtain⟨d,hd⟩:=aA (en-at_);have hd0:0<d:=by omega
         have akV:d<=64:=by omega
         have Rc:Hid (at_+d=en):=ah ak
         go_upto_region 20 with(fail)
         have HD:=ah hd;clear hd hle1 hle3 ag4 ag5 hcp cL0 cL1 lL AL3;obtain⟨xsl,Vj⟩:=aA ((xs1.drop at_).take d);have aeG:xsl.length=d:=by rw[<-Vj,jc9,List.length_drop,Af.out];have:=Rc.out;omega
         obtain⟨X1,hX1⟩:=aA (Ey B f s i0 i1 hh xsl);obtain⟨deep,Rn⟩:=aA (JO hh X1);obtain⟨X2,hX2⟩:=aA (tJ B f s i0 i1 deep X1);obtain⟨bs,hbs⟩:=aA (tK s i0 deep X2);have hmap:xsl=((fl.drop at_).take d).map (rwI Y B i0):=by rw[<-Vj,Ta.out,<-List.map_drop,<-List.map_take]
         have HRL:Hid (Fw.nY B (Fw.lay B f) z i0 i1 hh ((fl.drop at_).take d)=(bs.map (·.ld),deep)):=ah (by
          rw[<-hbs]
          exact Gm Y B f z i0 i1 hh _ s PO.out X1 X2 deep (by rw[<-hmap];exact hX1) Rn hX2)
         have HBL:Hid (bs.length=d):=ah (by
          have h1:X1.length=d:=by rw[<-hX1];unfold Ey;rw[List.length_mapIdx,aeG]
          have h2:X2.length=d:=by
           rw[<-hX2];unfold tJ;split
           . rw[jb7,h1]
           . exact h1
          rw[<-hbs];unfold tK
          rw[List.length_mapIdx,h2])
         have hcs:iK B f xsl xsl.length+iK B f xs1 at_=iK B f xs1 en:=by
          unfold iK;rw[List.take_length,<-Vj,<-Rc.out,List.take_add,List.map_append,List.sum_append];omega
         have hcs2:=wL B f xs1 en;rw[Af.out,HCS.out]at hcs2;have hnn:=HN.out;have Vk:=agj hL hK rY uN.out hkm R (q+at_*17) (k-at_) z i0 i1 hh hz xsl cs2 wc n' P' qz hA3 (by rw[<-Vj];exact hC.out.front (by rw[List.length_drop,Af.out];have:=Rc.out;omega)) (λx hx=>JR.out x (List.mem_of_mem_drop (List.mem_of_mem_take (Vj.symm▸hx)))) wS ak ak ak s PO.out X1 X2 deep hX1 Rn hX2;rw[aeG,hbs]at Vk;rw[aeG]at hcs;obtain⟨l0,fu,fA,gy⟩:=At.three B3;have hC3:=ah hC.out;clear hX1 Rn hX2 hbs hmap Vj qz hA3 hC
         go_upto_region 22 with(go_at_call 150;(with_reducible refine Vk.mono ?_);rintro e' w6 ⟨rfl,n2,P2,Ag,hn2,qL,qG,hP2,xK,hI6,hM6,iV⟩)
         have hs6:=iV.size;have npm:Y.pm<w.heap.size:=hpl;have Ii:∀b,b≠R->w.heap.size<=b->¬ (b=Y.pm\/b=R):=λb h1 h2 h=>by rcases h with h|h<;>omega
         have AC6:=AC3.out (Ii Cb nCR ak) iV;have B6:=B3.out (Ii _ ak ak) iV;have C6:=C3.out (Ii _ ak ak) iV;have M6:=ah (At.out (M:=λb=>b=Y.pm\/b=R) Ah.out (by rintro(h|h);exact n0p h;exact n0R h) iV);have ag6:=ah (Ci.out ag3.out iV (Ii g (Ne.symm nRg) ak));have hown6:=ah (bG (M:=λb=>b=Y.pm\/b=R) hown3.out (λg' hg'=>Ii g' (by have:=(hown3.out.lt g' hg').1;omega) (by have:=(hown3.out.lt g' hg').1;omega)) iV);have aeH:Hid (∀b,b<N5->P2 b->P b):=ah λb hb h=>xQ.out b hb (hP2 b ak h);have ag7:Hid (∀b,v.ownBlock=some b->¬ P2 b):=ah λb h hp=>hvg.out b h (hP2 b (hown3.out.lt b h).2 hp)
         have ajp:Hid (fq Ag (q+en*17) (xs1.drop en)):=ah (by
          have h1:=hC3.out.rest hM6 (by rw[List.length_drop,Af.out];have:=Rc.out;omega);rw[List.drop_drop,Rc.out]at h1;have e:q+at_*17+d*17=q+en*17:=by have:=Rc.out;omega
          rw[e]at h1
          exact h1)
         have HI6:=ah hI6;have hN6:N5<=w6.heap.size:=aJ hN3 hs6;have HN2:Hid (n2<=n+2*iK B f xs1 en):=ah ak;obtain⟨sh,hsh⟩:∃l:List Fw.Ld,(bs.map (·.ld)).map (λx=>{ x with a1:=Fw.wr (x.a1+y1) })=l:=⟨_,rfl⟩;have HSH:=ah hsh;have HSL:Hid (sh.length=d):=ah (by rw[<-hsh,jb7,jb7,HBL.out]);have HOL:=ah hTT.out.2.2.1;clear Vk hn2 hP2 hI6 hM6 iV AC3 B3 C3 Ah ag3 hown3 hvg xQ hN3 Ii hsh hcs hcs2 hn' hC3 l0 fu fA gy wS hPC FL
         go_loopw [129] (λiv wr=>∃(i:Nat) (v3:Value),i<=d/\iv=.int .i64 i/\pJ Y B F w P n2 P2 wr/\At wr R (.cells Ag 232)/\At wr Cb (.cells #[v3,y1] 167)/\Hid (wr.ownsRow N5 101 7 v3 (out++sh.take i).length (wU (out++sh.take i)))/\Hid (∀b,v3.ownBlock=some b->¬ P2 b)/\At wr w (.cells #[z,i0,i1] 99)/\At wr (w.heap.size+1) (.cells #[.slice none 0 0,()] 167)/\Hid (aL wr b0 s zvf zva Oo)/\Hid (Ci wr g br)/\N5<=wr.heap.size) (λiv _=>d-(intOf iv).toNat)
         case atStart=>exact⟨0,v,eX _,rfl,qL,xK,AC6,ah (by simpa using hown6.out),ag7,B6,C6,M6,ag6,hN6⟩
         case round =>
          clear qL xK AC6 hown6 ag7 B6 C6 M6 ag6 hN6;obtain⟨i,v3,akW,rfl,hSr,hAr,AC,hown,hvg,A0,A4,wH,Sm,FL⟩:=hrel;by_cases hlt:i<d
          . have hltz:(i:Int)<(d:Int):=by omega
            have hix:i<bs.length:=by rw[HBL.out];exact hlt
            have pK:=HI6.out.at_ hAr hix;obtain⟨x,hx⟩:=aA (bs[i]);rw[hx]at pK;have HX:=ah hx;have oZ:=ah hSr;have aco:=ah hSr.lt;have Cc:=hAr.lt;clear hx hSr
            go_upto_region 24 with(first|(refine dn aR _ rfl rfl (by with_reducible assumption) ?_)|(refine bW aR rfl ?_)|(refine bP aR _ _ rfl rfl rfl Z4m ?_))
            generalize hW:jb9 _ _ _=W3;obtain⟨Q,hQ⟩:=aA wr.heap.size;have AQ:At W3 Q (.cells (lZ x) 232):=hW▸hQ▸At.setRow (At.new _ _) _;have hb3:Below wr wr W3:=hW▸aM (aB aD _) aC _;have gQ:wr.heap.size<=Q:=Nat.le_of_eq hQ;rw[hQ];clear hW hQ pK Cc;obtain⟨p,hp⟩:=aA (IntKind.i64.wrap (x.ld.a1+y1));obtain⟨y',hy'⟩:∃y:Fw.Ld,{ x.ld with a1:=p }=y:=⟨_,rfl⟩
            have HTK:Hid (sh.take (i+1)=sh.take i++[y']):=ah (by
             have hxi:i<sh.length:=by rw[HSL.out];exact hlt
             rw[jc8 hxi];congr 2;have e:=HSH.out;have e2:sh[i]={ bs[i].ld with a1:=Fw.wr (bs[i].ld.a1+y1) }:=by subst e;simp
             rw[e2,HX.out,<-qK,hp,hy'])
            have AC3:=AC.keep hb3;have lQ:=AQ.lt;have c11:W3.cell? ⟨Q,11,none⟩=some (.int .i64 x.ld.a1):=(AQ.cell 11).trans rfl;have z11:=AQ.thaw 11;obtain⟨lC,Gs,Gt⟩:=At.two AC3
            go_upto_region 25 with(fail)
            generalize hW:ja5 _ _ _=W9;have AQ9:At W9 Q (.cells (lZ { x with ld:=y' }) 232):=by
             rw[<-hW,<-hy'];exact At.set AQ 11 _
            have fK:Below wr wr W9:=by
             rw[<-hW];exact Below.setCell hb3 gQ _
            clear hW lQ c11 z11 AQ hb3 hp hy' AC3 lC Gs Gt;have Ng:=bG (M:=λ_=>False) hown.out (λ_ _ q=>q) (Out.of_below fK);have hs9:=fK.size;obtain⟨g',c',w',hr,hown',hOa,hgg⟩:=Qn y' Ng ak (by rw[ja7,HOL.out,jc9,HSL.out];omega);obtain⟨ln,hln⟩:=aA ((out++sh.take i).length+1);rw[hln]at hr hown';clear hln;have hrun:=ah hr
            have hQL:∀j,j<7->W9.cell? ⟨Q,5+j,none⟩=(dV y')[j]? := λj hj=>by
             rw[AQ9.cell];exact Z20
            have YZ:∀b,v3.ownBlock=some b->N5<=b:=λb h=>(hown.out.lt b h).1;have AC9:=AC.keep fK;have ACn:At w' Cb (.cells #[v3,y1] 167):=At.out (M:=λb=>v3.ownBlock=some b) (AC9.alloc _) (λh=>by have:=YZ Cb h;omega) hOa;obtain⟨lC9,aeI,aeJ⟩:=At.two AC9;obtain⟨lCn,aeK,aeL⟩:=At.two ACn;have aeM:=ACn.thaw 0;have lQ9:=AQ9.lt;have HQL:=ah hQL;clear hr Ng hQL
            go_upto_region 26 with(first|(refine eB zZ mP aR _ rfl rfl (dB y') HQL.out ?_)|(refine uF aR _ rfl rfl ?_)|(at_builtin;refine wpList_append_run aR _ _ 165 rfl rfl rfl hrun.out ?_))
            generalize hW:ja5 _ _ _=M7;have yY:At M7 Cb (.cells #[.slice g' ln c',y1] 167):=hW▸At.set ACn 0 _;have Nh:Out (λb=>b=Cb) w' M7:=hW▸Out.set (M:=λb=>b=Cb) (Out.refl _ _) rfl 0 _
            have Qw:Hid (M7.ownsRow N5 101 7 (.slice g' ln c') (out++sh.take (i+1)).length (wU (out++sh.take (i+1)))):=ah (by
             rw[HTK.out,<-List.append_assoc]
             exact bG (M:=λb=>b=Cb) hown' (λg hg e=>by have:=(hown'.lt g hg).1;omega) Nh)
            have ag8:Hid (∀b,(Value.slice (some ⟨g',0,none⟩) ln c').ownBlock=some b->¬ P2 b):=ah λb h hp=>by
             have e:g'=b:=by simpa[Value.ownBlock]using h
             subst e;rcases hgg with h1|h1
             . exact hvg.out _ h1 hp
             . have:=aco.out _ hp;omega
            have Ni:Out (λb=>v3.ownBlock=some b\/b=Cb) wr M7:=(Out.of_below (aB fK _)).trans ((hOa.mono λb _ h => .inl h).trans (Nh.mono λb _ h => .inr h))
            have hoff:∀b,b<N5->b≠Cb->¬ (v3.ownBlock=some b\/b=Cb):=λb hb hn h=>by
             rcases h with h|h
             . have:=YZ b h;omega
             . exact hn h
            have mF:=oZ.out.own Ni λb hb h=>by
             rcases h with h|h
             . have h1:=YZ b h
               exact⟨hvg.out b h,by omega⟩
             . subst h
               exact⟨λhp=>by have:=CU.out _ (aeH.out _ lC5 hp);omega,by omega⟩
            have mJ:=hAr.out (hoff R lR5 (Ne.symm nCR)) Ni;have B10:=A0.out (hoff _ ak ak) Ni;have Oq:=A4.out (hoff _ ak ak) Ni;have vR:=ah (At.out wH.out (hoff b0 ak ak) Ni);have Nf:=ah (Ci.out Sm.out Ni (hoff g lg5 (Ne.symm nCg)));have EF:N5<=M7.heap.size:=aJ FL Ni.size;clear hW ACn Nh hown' hOa Ni hoff AC9 lC9 aeI aeJ lCn aeK aeL aeM lQ9 HQL fK hs9 AQ9 hown hAr A0 A4 AC wH Sm hrun hvg hgg;go_wp2
            go_roundw
            case rel=>exact⟨i+1,_,by omega,by go_num,mF,mJ,yY,Qw,ag8,B10,Oq,vR,Nf,EF⟩
            case measure=>simp[intOf];omega
          . obtain rfl:i=d:=by omega
            have hfull:sh.take i=sh:=jb6 (by rw[HSL.out];exact aH _);rw[hfull]at hown;have lC:=AC.lt;obtain⟨lC,Gs,Gt⟩:=At.two AC;have zC1:=AC.thaw 1;obtain⟨y2,hy2⟩:=aA (IntKind.i64.wrap (y1+deep))
            go_upto_region 28 with(fail)
            generalize hW:ja5 _ _ _=Vg;have EG:At Vg Cb (.cells #[v3,y2] 167):=hW▸At.set AC 1 _;have Nh:Out (λb=>b=Cb) wr Vg:=hW▸Out.set (M:=λb=>b=Cb) (Out.refl _ _) rfl 1 _
            have uJ:=hSr.own Nh λb hb h=>by
             subst h;exact⟨λhp=>by have:=CU.out _ (aeH.out _ lC5 hp);omega,by omega⟩
            have Nj:=hAr.out (M:=λb=>b=Cb) (Ne.symm nCR) Nh;have B12:=A0.out (M:=λb=>b=Cb) ak Nh;have Kz:=A4.out (M:=λb=>b=Cb) ak Nh;have Ig:=ah (At.out (M:=λb=>b=Cb) wH.out ak Nh);have ag9:=ah (Ci.out (M:=λb=>b=Cb) Sm.out Nh (Ne.symm nCg));have aeN:=ah (bG (M:=λb=>b=Cb) hown.out (λg' hg' e=>by have:=(hown.out.lt g' hg').1;omega) Nh);have Gu:N5<=Vg.heap.size:=aJ FL Nh.size
            have ajq:Hid (br.drop (k2+1)=Li.tail i0 (s.c 46) (s.b 45) o9 en/\en<=k/\(out++sh).length=en/\(xs,hi)=((out++sh)++(Fw.dO B (Fw.lay B f) z i0 i1 hh fl (decide (k2+1=0)) y2 (br.drop (k2+1))).1,(Fw.dO B (Fw.lay B f) z i0 i1 hh fl (decide (k2+1=0)) y2 (br.drop (k2+1))).2)):=ah ⟨HB2.out.2,hle,by rw[ja7,HOL.out,HSL.out];have:=Rc.out;omega,by
             have h1:=hTT.out.2.2.2;rw[HDR.out,<-HB2.out.2]at h1;have h2:=Gn (y1:=y1) (l:=bs.map (·.ld)) (d:=deep) h1 (by rw[PO.out];exact HY1.out) (by rw[show((at_,en):Nat×Nat).2-((at_,en):Nat×Nat).1=i from HD.out];exact HRL.out);rw[HSH.out,<-qK,hy2]at h2
             exact h2⟩
            clear hW lC Gs Gt zC1 Nh hown hAr A0 A4 AC wH Sm hSr hfull hy2;go_wp2
            go_roundw
            case rel=>exact⟨k2+1,n2,P2,Ag,v3,y2,out++sh,en,by have:=HK2.out;omega,by go_num,ajq,HN2.out,uJ,aeH,Gu,Nj,ajp,EG,aeN,hvg,B12,Kz,Ig,ag9⟩
            case measure=>have:=HK2.out;simp[intOf];omega
      . obtain rfl:k2=nb:=by omega
        have hend:br.drop k2=[]:=by rw[<-HNB.out];exact List.drop_length
        have h4:=hTT.out.2.2.2;rw[hend,JW,List.append_nil]at h4;have hxo:xs=out/\hi=y:=by injection h4 with h1 h2;exact⟨h1,h2⟩
        obtain⟨Rr,cap,csr,rfl,YZ,gR',AR,Ie⟩:=MX hown.out (by rw[<-hxo.1];exact HXL.out);obtain⟨lC,Gs,Gt⟩:=At.two AC;have c4:=A4.nM;have lw:w.heap.size+1<wr.heap.size:=A4.lt;have HRC:=ah Ie;have oZ:=ah hSr;have HXO:=ah hxo;have aeO:=ah (hvg.out Rr rfl);have hPN:=ah (show¬ P' (w.heap.size+1)from λh=>by have:=CU.out _ (xQ.out _ ak h);omega)
        have HN2:Hid (n'<=n+2*(fl.map (Fw.cst B f)).sum):=ah (by
         have h1:=wL B f xs1 at_;rw[Af.out,HCS.out]at h1
         omega)
        clear Ie hown hSr hAr A0 wH Sm h4 hxo hend;go_wp2;generalize hW:ja5 _ _ _=W6;replace A4:At W6 (w.heap.size+1) (.cells #[.slice Rr out.length cap,y] 167):=hW▸At.set (At.set A4 0 _) 1 _;have MP:Out (λb=>b=w.heap.size+1) wr W6:=by
         exact Z21
        clear hW c4 lC Gs Gt AC;have AR6:=AR.out (M:=λb=>b=w.heap.size+1) ak MP;have qL:=oZ.out.own MP λb hb h=>by subst h;exact⟨hPN.out,by omega⟩
        have c4:=A4.lc;have iV:=qL.fin;have KI:=qL.kp;have hNw:=qL.new;refine bodyPost_ret (v:=.agg #[.slice Rr out.length cap,y]) (by simp[results,Tryz.results112,go_sem,(c4.2 0),(c4.2 1),c4.1];first|done|exact⟨rfl,rfl⟩|rfl) rfl ⟨Rr,cap,csr,P',n',by rw[HXO.out.1,HXO.out.2],by omega,AR6,by rw[HXO.out.1];exact HRC.out,HN2.out,KI,hNw,aeO.out,iV⟩
end
section
variable {Y:p9} {B:Int->Fw.Bx} {F:Int->Nat} {D:Int->Prop} {KM:World->Nat->Prop} {f:Nat} {w:World} {P:Nat->Prop}
theorem acp(hL:vO Y B F D KM f)(hK:∀(X X':World) (b:Nat),KM X b->Below X X X'->KM X' b)(rY:∀(X X':World) (b:Nat),KM X b->Out (λq=>q≠b) X X'->KM X' b)(hR0:RO w Y B D KM)(hkm:Y.km<w.heap.size)
  (z i0 i1:Int) (hz:D z) (hdn:∀k∈(B z).fl,D k/\F k=f) (hne:(B z).fl≠[]) (hl:(B z).fl.length<=64) (n:Nat) (FK:Kp Y B F n P w) (hP:∀b,P b->b<w.heap.size) (hn:n+2*((B z).fl.map (Fw.cst B f)).sum<maxLen) (xs:List Fw.Ld) (hi:Int) (hm:Fw.sN B (Fw.lay B f) z i0 i1=(xs,hi)) :
  Calls ja0 113 #[Y.lb,.agg #[z,i0,i1]] w λe w'=>∃R cap cs P' n',e=.returned (.agg #[.slice (some ⟨R,0,none⟩) xs.length cap,hi])/\w.heap.size<=R/\At w' R (.cells cs 101)/\nH cs xs/\n'<=n+2*((B z).fl.map (Fw.cst B f)).sum/\Kp Y B F n' P' w'/\(∀b,P' b->P b\/w.heap.size<=b)/\¬ P' R/\Out (λb=>b=Y.pm) w w':=by
 obtain⟨es0,UJ,oz⟩:=hR0.FJ;have hpl:=oz.lt;obtain⟨fl,hfl⟩:=aA ((B z).fl);rw[hfl]at hdn hne hl hn ⊢;obtain⟨s,hs⟩:=aA ((B z).sty);obtain⟨wV,hx0⟩:=aA (gH Y B i0 fl);obtain⟨xs1,hx1⟩:=aA (wV.map (Wq B f z i0 i1));obtain⟨sz,hszz⟩:=aA (clS B f z i0 i1 fl);obtain⟨xs2,hx2⟩:=aA (xs1.mapIdx (clB B f z i0 i1 sz));obtain⟨long,hlong⟩:=aA (nG xs2);obtain⟨high,hhigh⟩:=aA (Li.long (s.c 46) long);obtain⟨room,hroom⟩:=aA ((if i1 = -1 then high else i1));obtain⟨st,hst⟩:=aA (Ju.row (Ju.starts (s.c 43) room (s.c 46) long) xs2.length)
 have HXS:Hid (xs2.mapIdx (clE (s.c 44) i0 st)=xs/\high=hi):=ah (by
  have h:=Gj Y B f z i0 i1 fl hfl sz hszz xs2 (by rw[hx0,hx1,hx2]) high (by rw[hs,hlong];exact hhigh);rw[hm,hs,hlong,hroom,hst]at h;injection h with h1 h2
  exact⟨h1.symm,h2.symm⟩)
 obtain⟨m,hmm⟩:=aA fl.length;have HL0:Hid (wV.length=m):=ah (by rw[<-hx0,<-hmm];simp[gH]);have Af:Hid (xs1.length=m):=ah (by rw[<-hx1,jb7,HL0.out]);have HL2:Hid (xs2.length=m):=ah (by rw[<-hx2,List.length_mapIdx,Af.out]);have HLZ:Hid (sz.length=m):=ah (by rw[<-hszz];unfold clS;rw[JU,hmm]);have Db:Hid (st.length=m):=ah (by rw[<-hst,Ju.oP,HL2.out])
 have YV:Hid (∀x∈wV,MQ Y B D F f i0 x):=ah (by
  rw[<-hx0];intro x hx;obtain⟨k,hk,e⟩:=List.mem_map.1 hx;rw[<-e]
  exact Sg (hdn k hk).1 (hdn k hk).2)
 have JR:Hid (∀x∈xs1,MQ Y B D F f i0 x):=ah (by
  rw[<-hx1];intro x hx;obtain⟨y,hy,e⟩:=List.mem_map.1 hx;rw[<-e]
  exact abZ (YV.out y hy))
 have akX:Hid (∀x∈xs2,MQ Y B D F f i0 x):=ah (by
  rw[<-hx2];intro x hx;obtain⟨i,hi,e⟩:=List.mem_mapIdx.1 hx;rw[<-e]
  exact ab0 i (JR.out _ (jc3 _)))
 have Ww:Hid (∀k,iK B f xs1 k=iK B f wV k):=ah λk=>YC (by rw[<-hx1,List.map_map];rfl) k
 have HCS:Hid (iK B f wV m=(fl.map (Fw.cst B f)).sum):=ah (by
  unfold iK;rw[<-hx0,<-hmm];unfold gH;rw[<-List.map_take,List.take_length,List.map_map]
  rfl)
 have Ta:Hid (xs1=wV.map (Wq B f z i0 i1)):=ah hx1.symm;have HX2:Hid (xs2=xs1.mapIdx (clB B f z i0 i1 sz)):=ah hx2.symm;have HX0:Hid (wV=gH Y B i0 fl):=ah hx0.symm;have HSZ:=ah hszz;have PO:=ah hs;have HLG:=ah hlong;have HHI:=ah hhigh;have HRM:=ah hroom;have HST:=ah hst;have GJ:=ah hfl;have HM:=ah hmm;have HN:=ah hn;have HDN:=ah hdn;have uN:=ah hR0;rw[hmm]at hl;clear hx1 hx2 hx0 hszz hlong hhigh hroom hst hm hmm;have hS:=pJ.start FK hP;have wR:=hR0;obtain⟨b0,hb0⟩:=aA (Y.bl z);have hbx:=(wR.box z hz).1;rw[hb0,hs]at hbx;have yT:=ah hbx.style;have U4:=hbx.lt;have b1:Below w w ((w.alloc (.cells #[z,i0,i1] 99)).alloc (.cells #[.slice none 0 0,()] 167)):=aB (aB aD _) _;have A0:At ((w.alloc (.cells #[z,i0,i1] 99)).alloc (.cells #[.slice none 0 0,()] 167)) w.heap.size (.cells #[z,i0,i1] 99):=At.alloc (At.new _ _) _;have A4:At ((w.alloc (.cells #[z,i0,i1] 99)).alloc (.cells #[.slice none 0 0,()] 167)) (w.heap.size+1) (.cells #[.slice none 0 0,()] 167):=At.new' _ Ku;have hS1:=hS.after b1;have F4:=wR.keep hK b1;clear hdn hR0 wR hS oz hs hbx hfl FK hn;go_enter Tryz.func113,Tryz.ntmps113
 go_upto_region 1 with(fail)
 generalize (w.alloc (.cells #[z,i0,i1] 99)).alloc (.cells #[.slice none 0 0,()] 167)=w1 at *;have agy:=A4.lt;have hsz:=b1.size;have hlk:=λX (h:Below w1 w1 X)=>(F4.keep hK h).look hz;simp only[hb0]at hlk;have Yr:=ah (λj hj=>(b1.cell (p:=⟨b0,0+j,none⟩) U4).trans (yT.out j hj):uy w1 b0 0 s);have Wn:b0<w1.heap.size:=aT U4 hsz;obtain⟨lY,xC,xD,zy,zA,zB,zC⟩:=At.six F4.lay;obtain⟨l0,fu,fA,gy⟩:=At.three A0;have hSd:Below w1 w1 w1.drew:=Below.drew aD;refine iC (S:=λX=>Below w1 w1 X) 12 ?_ ?_
 . exact hSd
 intro hx;clear hSd;refine aF 0 ?_;refine aF 1 ?_;refine aF 2 ?_;refine aF 3 ?_;refine aF 4 ?_;refine aF 5 ?_;refine jh 6 rfl (aZ aR rfl rfl rfl (λX h=>hlk X h)) ?_;refine aF 7 ?_;refine aF 8 ?_;refine jh 9 rfl (iH aR (.tmp 29) rfl rfl (λX h=>λj hj=>(h.cell (p:=⟨b0,0+j,none⟩) Wn).trans (Yr.out j hj))) ?_;refine tk1 10 ?_;refine aj.Step.value (jA rfl) ?_;obtain⟨w2,hw2,AS,hb2,gT⟩:∃w2,w2=w1.drew.alloc (.cells (cells Re.zero) 68)/\At w2 w1.drew (.cells (cells Re.zero) 68)/\Below w1.drew w1.drew w2/\w1.heap.size<=w1.drew.heap.size:=⟨_,rfl,At.new _ _,aB aD _,hx.size⟩;rw[<-hw2];clear hw2;replace hx:=Below.ay hx aC hb2;generalize w1.drew.heap.size=T at *;refine⟨λ_=>hx,?_⟩
 (try simp only[bM,bN,bO,tks])
 refine tk1 11 ?_;refine aj.Step.skip (jB (.tmp 5) (.tmp 30) rfl rfl rfl AS) ?_;replace AS:At (w2.setRow T (cells s)) T (.cells (cells s) 68):=At.setRow AS _;have hx2:Below w1 w1 (w2.setRow T (cells s)):=aM hx gT _;generalize w2.setRow T (cells s)=w3 at *;refine⟨λ_=>hx2,?_⟩
 (try simp only[bM,bN,bO,tks])
 refine gZ ?_;have abU:=hx2.size;have qz:=hS1.after hx2;have B3:=A0.keep hx2;have C3:=A4.keep hx2;have FQ:=qz.ro rY uN.out hkm;have nT:Calls ja0 145 #[Y.lb,.agg #[z,i0,i1]] w3 λe w'=>(∃R q cs,e=.returned (.slice (some ⟨R,q,none⟩) m m)/\w3.heap.size<=R/\At w' R (.cells cs 232)/\fq cs q wV)/\Below w3 w3 w':=by
  exact Z1w
 obtain⟨l0,fu,fA,gy⟩:=At.three B3;have hTN:w.heap.size+1<T:=by omega
 have lT:=AS.lt;clear b1 A0 A4 hS1 F4 Yr hlk xC xD zy zA zB zC lY yT hb2 hx FQ U4 Wn hb0
 go_upto_region 4 with(go_at_call 145;(with_reducible refine nT.mono ?_);rintro e' w4 ⟨⟨R,q,cs,rfl,gR,hA4,UK⟩,hb4⟩)
 clear nT;have HI4:=ah UK;have Gi:=qz.after hb4;have B4:=B3.keep hb4;have C4:=C3.keep hb4;have Yu:=ah (AS.keep hb4);have aek:=hb4.size;have sU:w.heap.size<=R:=by omega
 have Ym:¬ P R:=λh=>by have:=hP R h;omega
 have lR4:=hA4.lt;have hTR:T<R:=by omega
 have hT4:T<w4.heap.size:=by omega
 obtain⟨N4,hN4⟩:=aA w4.heap.size;rw[hN4]at lR4 hT4;have HN4:=ah hN4;clear hb4 UK AS B3 C3 qz hx2 l0 fu fA gy hN4
 go_loopw [36] (λiv wr=>∃(k n':Nat) (P':Nat->Prop) (cs':Array Value),k<=m/\iv=.int .i64 k/\n'<=n+iK B f wV k/\pJ Y B F w P n' P' wr/\(∀b,b<N4->P' b->P b)/\N4<=wr.heap.size/\At wr R (.cells cs' 232)/\Hid (fq cs' q (Es (Wq B f z i0 i1) wV k))/\At wr w (.cells #[z,i0,i1] 99)/\At wr (w.heap.size+1) (.cells #[.slice none 0 0,()] 167)/\Hid (At wr T (.cells (cells s) 68))) (λiv _=>m-(intOf iv).toNat)
 case atStart=>exact⟨0,n,P,cs,eX _,rfl,by simp[iK],Gi,λb hb h=>h,by rw[HN4.out];exact aH _,hA4,ah (by rw[Et];exact HI4.out),B4,C4,Yu⟩
 case round =>
  clear Gi hA4 B4 C4 Yu;obtain⟨k,n',P',cs',hk,rfl,hn',hSr,xQ,FL,hAr,hC,A0,A4,hST⟩:=hrel;by_cases hlt:k<m
  . have hltz:(k:Int)<(m:Int):=by omega
    have hkx:k<wV.length:=by rw[HL0.out];exact hlt
    have hkc:k<(Es (Wq B f z i0 i1) wV k).length:=by rw[jy];exact hkx
    have pK:=hC.out.at_ hAr hkc;rw[tF _ _ hkx]at pK;obtain⟨x,hx⟩:=aA (wV[k]);have kg:=ah (YV.out x (hx▸jc3 _));rw[hx]at pK;have HX:=ah hx;have oZ:=ah hSr;have hRr:=hSr.ro rY uN.out hkm;have hbx:=(hRr.box x.ld.id kg.out.d).1;rw[<-kg.out.bx]at hbx;obtain⟨sx,hsx⟩:=aA ((B x.ld.id).sty);rw[hsx]at hbx;generalize Y.vf x.ld.id=vf at hbx;generalize Y.va x.ld.id=va at hbx;generalize (B x.ld.id).ib=ib at hbx;have HSX:=ah hsx;have pG:=ah hbx;have wS:¬ P' R:=λh=>Ym (xQ R lR4 h);have Cc:=hAr.lt;have MR:wr.cell? ⟨R,q+k*17+12,none⟩=some (.pointer x.bx):=(pK 12 ak).trans rfl;have Sc:wr.cell? ⟨R,q+k*17+5,none⟩=some (.int .i64 x.ld.id):=(pK 5 ak).trans rfl;obtain⟨l0,fu,fA,gy⟩:=At.three A0;clear hRr hbx pK hsx hx hSr
    go_upto_region 7 with(fail)
    have abW:=ah (oZ.out.after ((Below.refl wr.heap.size wr).drew));have hcs1:=rJ B f wV hkx;rw[HX.out]at hcs1;have hcs2:=wL B f wV (k+1);rw[HL0.out,HCS.out]at hcs2;have hnn:=HN.out;obtain⟨cs0,xP⟩:=aA (Fw.lJ B z i0 x.ld.id);have xE:=Sd hK z x.ld.id i0 i1 hz kg.out.d x.bx kg.out.bx wr.drew (abW.out.ro rY uN.out hkm);rw[xP]at xE;obtain⟨ly,wK⟩:=aA (Fw.lay B f x.ld.id i0 i1 cs0 (-1));have KQ:ly.id=x.ld.id:=by rw[<-wK];rfl
    have OC:=ah (show q+k*17+5+7<=cs'.size by have:=hC.out.1;rw[jy]at this;have h2:k*17+17<=wV.length*17:=ak;omega);have n1:w.heap.size≠Y.pm:=by omega
    have n2:w.heap.size≠R:=by omega
    have n34:=uN.out.box x.ld.id kg.out.d;rw[<-kg.out.bx]at n34
    have n3:x.bx≠Y.pm:=λe=>by
     obtain⟨es1,ck1,hp1⟩:=uN.out.FJ;have h1:=n34.1;rw[e]at h1;exact absurd (h1.symm.trans hp1) aW
    have n4:x.bx≠R:=by have:=n34.1.lt;omega
    clear n34;have hSd:Out (λb=>b=Y.pm\/b=R) wr wr.drew/\wr.drew.cell? ⟨R,q+k*17+5,none⟩=some (.int .i64 x.ld.id)/\wr.drew.cell? ⟨R,q+k*17+12,none⟩=some (.pointer x.bx):=⟨(Out.refl _ _).drew,Sc,MR⟩;refine iC (S:=λX=>Out (λb=>b=Y.pm\/b=R) wr X/\X.cell? ⟨R,q+k*17+5,none⟩=some (.int .i64 x.ld.id)/\X.cell? ⟨R,q+k*17+12,none⟩=some (.pointer x.bx)) 21 ?_ ?_
    . exact hSd
    intro hx;clear hSd;refine fJ 0 ?_;refine fJ 1 ?_;refine fJ 2 ?_;refine fJ 3 ?_;refine fJ 4 ?_;refine fJ 5 ?_;refine fJ 6 ?_;refine fJ 7 ?_;refine fJ 8 ?_;refine fJ 9 ?_;refine fJ 10 ?_;refine fJ 11 ?_;refine fJ 12 ?_;refine fJ 13 ?_;refine fJ 14 ?_;refine fJ 15 ?_;refine tk1 16 ?_;refine aj.Step.call eD xE ?_;rintro e' w6 ⟨rfl,hb6⟩;have iV:Out (λb=>b=Y.pm\/b=R) wr w6:=Out.trans' ((Out.refl _ wr).drew) (Out.of_below (M:=λ_=>False) hb6) λ_ _ q=>q.elim;have qL:=abW.out.after hb6;have ag':=(Below.drew (Below.refl wr.heap.size wr)).trans hb6;have xK:=hAr.keep ag';have Qi:w6.cell? ⟨R,q+k*17+5,none⟩=some (.int .i64 x.ld.id):=(hb6.cell (p:=⟨R,_,none⟩) Cc).trans Sc;have Ae:w6.cell? ⟨R,q+k*17+12,none⟩=some (.pointer x.bx):=(hb6.cell (p:=⟨R,_,none⟩) Cc).trans MR;have hx6:Out (λb=>b=Y.pm\/b=R) wr w6/\w6.cell? ⟨R,q+k*17+5,none⟩=some (.int .i64 x.ld.id)/\w6.cell? ⟨R,q+k*17+12,none⟩=some (.pointer x.bx):=⟨iV,Qi,Ae⟩;refine⟨_,rfl,λ_=>hx6,?_⟩
    (try simp only[bM,bN,bO,tks])
    have qF:=rM hL rY uN.out hkm qL x.ld.id i0 i1 cs0 (-1) kg.out.d kg.out.f ak;rw[wK]at qF;refine tk1 17 ?_;refine aj.Step.call eD qF ?_;rintro e' iL ⟨rfl,n2',P2,hn2,mF,H7,jQ⟩;have Wo:=xK.lt;have mJ:=xK.out (M:=λb=>b=Y.pm) ak jQ;have uD:iL.cell? ⟨R,q+k*17+5,none⟩=some (.int .i64 x.ld.id):=(Out.cell jQ (q+k*17+5) Wo ak).trans Qi;have GN:iL.cell? ⟨R,q+k*17+12,none⟩=some (.pointer x.bx):=(Out.cell jQ (q+k*17+12) Wo ak).trans Ae;have o8:Out (λb=>b=Y.pm\/b=R) wr iL:=iV.trans (jQ.mono λb _ h => .inl h);have JN:Out (λb=>b=Y.pm\/b=R) wr iL/\iL.cell? ⟨R,q+k*17+5,none⟩=some (.int .i64 x.ld.id)/\iL.cell? ⟨R,q+k*17+12,none⟩=some (.pointer x.bx):=⟨o8,uD,GN⟩;refine⟨_,rfl,λ_=>JN,?_⟩
    (try simp only[bM,bN,bO,tks])
    refine fJ 18 ?_;refine fJ 19 ?_;refine tk1 20 ?_;refine aj.Step.skip (aY mP (.tmp 61) (.tmp 59) rfl rfl rfl mJ (dB ly) OC.out (ou ly)) ?_;have nN:At (iL.setRow R (splice cs' (q+k*17+5) (dV ly))) R (.cells (splice cs' (q+k*17+5) (dV ly)) 232):=At.setRow mJ _;have jg:Out (λb=>b=R) iL (iL.setRow R (splice cs' (q+k*17+5) (dV ly))):=Out.setRow (M:=λb=>b=R) (Out.refl _ _) rfl _;have Bh:(iL.setRow R (splice cs' (q+k*17+5) (dV ly))).cell? ⟨R,q+k*17+5,none⟩=some (.int .i64 x.ld.id):=by
     exact Z1f
    have c9:(iL.setRow R (splice cs' (q+k*17+5) (dV ly))).cell? ⟨R,q+k*17+9,none⟩=some (.int .i64 ly.s1):=by
     have h1:=mH (cs:=cs') (vs:=dV ly) (q:=q+k*17+5) (j:=4) Z4i (by rw[dB];omega);rw[nN.cell,show q+k*17+9=q+k*17+5+4 by omega,h1];rfl
    have H8:(iL.setRow R (splice cs' (q+k*17+5) (dV ly))).cell? ⟨R,q+k*17+12,none⟩=some (.pointer x.bx):=by
     exact Z2j
    refine⟨λ_=>⟨o8.trans (jg.mono λb _ h => .inr h),Bh,H8⟩,?_⟩
    (try simp only[bM,bN,bO,tks])
    refine gZ ?_;have qG:¬ P2 R:=λh=>wS (H7 R Wo h);have hput:=hC.out.R6 hkc ly;rw[tF _ _ hkx,HX.out]at hput;have hOr:Out (λb=>b=Y.pm\/b=R) wr (iL.setRow R (splice cs' (q+k*17+5) (dV ly))):=o8.trans (jg.mono λb _ h => .inr h);have qH:=mF.own (M:=λb=>b=R) jg λb hb h=>by subst h;exact⟨qG,sU⟩
    have aha:=ah hput.1;have ajr:Hid ((splice cs' (q+k*17+5) (dV ly)).size=cs'.size):=ah (iM Z4i);have B11:=A0.out (M:=λb=>b=Y.pm\/b=R) ak hOr;have M8:=A4.out (M:=λb=>b=Y.pm\/b=R) ak hOr;have uE:=ah (hST.out.out (M:=λb=>b=Y.pm\/b=R) ak hOr);have Y0:=ah (At.out (M:=λb=>b=Y.pm\/b=R) pG.out ak hOr);have ajs:wr.heap.size<=w6.heap.size:=iV.size;have JX:∀b,b<N4->P2 b->P b:=λb hb h=>xQ b hb (H7 b ak h);have M9:N4<=(iL.setRow R (splice cs' (q+k*17+5) (dV ly))).heap.size:=aJ FL hOr.size;generalize iL.setRow R (splice cs' (q+k*17+5) (dV ly))=qh at *;generalize splice cs' (q+k*17+5) (dV ly)=cs2 at *;clear hx hx6 JN hput mJ jg Bh uD GN A0 A4 xK qL iV jQ o8 Qi Ae l0 fu fA gy MR Sc hOr H7 mF xE qF ag' hb6 hST pG hAr Cc ajs;obtain⟨l2,bS,bX,bY,bZ,cu,cK,bU,bV⟩:=At.bx1 Y0.out;clear bS bX bY bZ cu cK;have ahb:=nN.lt;have uI:=λX=>eY (Fw.ed sx 0) (Fw.ed sx 2) X;obtain⟨e02,Gf⟩:=aA (Fw.wr (Fw.ed sx 0+Fw.ed sx 2));simp only[Gf]at uI;obtain⟨hh,MJ⟩:=aA (IntKind.i64.wrap (ly.s1-e02))
    go_upto_region 8 with(fail)
    have hSd:Below qh qh qh.drew:=Below.drew aD;refine iC (S:=λX=>Below qh qh X) 17 ?_ ?_
    . exact hSd
    intro hx;clear hSd;refine aF 0 ?_;refine aF 1 ?_;refine aF 2 ?_;refine aF 3 ?_;refine aF 4 ?_;refine aF 5 ?_;refine aF 6 ?_;refine aF 7 ?_;refine aF 8 ?_;refine aF 9 ?_;refine aF 10 ?_;refine aF 11 ?_;refine aF 12 ?_;refine aF 13 ?_;refine tk1 14 ?_;refine aj.Step.call eD (uI _) ?_;rintro e' wO ⟨rfl,hb⟩;replace hx:=Below.ay hx aC hb;clear hb;refine⟨_,rfl,λ_=>hx,?_⟩
    (try simp only[bM,bN,bO,tks])
    refine aF 15 ?_;refine aF 16 ?_;refine gZ ?_;have Nj:=nN.keep hx;have uJ:=qH.after hx;have B12:=B11.keep hx;have Kz:=M8.keep hx;have Sn:=ah (uE.out.keep hx);have Sq:=ah (aL.keep Y0.out hx);have c12:wO.cell? ⟨R,q+k*17+12,none⟩=some (.pointer x.bx):=(hx.cell (p:=⟨R,_,none⟩) ahb).trans H8;have Gu:N4<=wO.heap.size:=aJ M9 hx.size;clear hx nN qH B11 M8 uE Y0 H8 c9 l2 bU bV uI M9 ahb;have lbx:=aL.lt Sq.out;have ahc:=Nj.lt;obtain⟨l0,fu,fA,gy⟩:=At.three B12;obtain⟨it,hit⟩:=aA (Fw.asI sx 1 hh i1)
    have mQ:∀X,Calls ja0 146 #[.agg #[sx.c 5,sx.c 6,sx.c 9,sx.c 10,sx.c 13,sx.c 14],.agg (cells sx),hh,i1] X λe X'=>e=.returned (.agg (wP it))/\Below X.heap.size X X':=λX=>by
     rw[<-hit];exact R5 _ _ _ _ _ _ sx hh i1 X
    have acj:=ah (show q+k*17+5<=cs2.size by have:=OC.out;have:=ajr.out;omega);have hSd:Out (λb=>b=R) wO wO.drew/\wO.drew.cell? ⟨R,q+k*17+12,none⟩=some (.pointer x.bx):=⟨(Out.refl _ _).drew,c12⟩
    go_upto_region 9 with(fail)
    refine iC (S:=λX=>Out (λb=>b=R) wO X/\X.cell? ⟨R,q+k*17+12,none⟩=some (.pointer x.bx)) 24 ?_ ?_
    . exact hSd
    intro hx;clear hSd;refine fJ 0 ?_;refine fJ 1 ?_;refine fJ 2 ?_;refine fJ 3 ?_;refine fJ 4 ?_;refine fJ 5 ?_;refine fJ 6 ?_;refine fJ 7 ?_;refine jh 8 rfl (Ql (.tmp 85) aR rfl rfl (λX h=>At.out Sq.out n4 h.1)) ?_;refine fJ 9 ?_;refine fJ 10 ?_;refine fJ 11 ?_;refine fJ 12 ?_;refine fJ 13 ?_;refine fJ 14 ?_;refine jh 15 rfl (iH aR (.tmp 92) rfl rfl (λX h=>aL.style (At.out Sq.out n4 h.1))) ?_;refine fJ 16 ?_;refine fJ 17 ?_;refine fJ 18 ?_;refine fJ 19 ?_;refine tk1 20 ?_;refine aj.Step.call eD (mQ _) ?_;rintro e' zl ⟨rfl,hb⟩;have Nc:At zl R (.cells cs2 232):=At.keep (At.drew Nj) hb;have J3:Out (λb=>b=R) wO zl:=Out.trans' ((Out.refl _ wO).drew) (Out.of_below (M:=λ_=>False) hb) λ_ _ q=>q.elim;have c13:zl.cell? ⟨R,q+k*17+12,none⟩=some (.pointer x.bx):=(hb.cell (p:=⟨R,_,none⟩) ahc).trans c12;have ajt:Out (λb=>b=R) wO zl/\zl.cell? ⟨R,q+k*17+12,none⟩=some (.pointer x.bx):=⟨J3,c13⟩;refine⟨_,rfl,λ_=>ajt,?_⟩
    (try simp only[bM,bN,bO,tks])
    refine fJ 21 ?_;refine fJ 22 ?_;refine tk1 23 ?_;refine aj.Step.skip (aY (q:=q+k*17) z8 (.tmp 100) (.tmp 98) rfl rfl rfl Nc (gN it) acj.out (CW it)) ?_;have acn:=At.setRow Nc (splice cs2 (q+k*17) (wP it));have uK:Out (λb=>b=R) zl (zl.setRow R (splice cs2 (q+k*17) (wP it))):=Out.setRow (M:=λb=>b=R) (Out.refl _ _) rfl _;have c14:(zl.setRow R (splice cs2 (q+k*17) (wP it))).cell? ⟨R,q+k*17+12,none⟩=some (.pointer x.bx):=by
     have h1:=gX (cs:=cs2) (vs:=wP it) (q:=q+k*17) (k:=q+k*17+12) (by rw[gN];exact acj.out) (.inr (by rw[gN];omega));rw[acn.cell,h1,<-Nc.cell];exact c13
    refine⟨λ_=>⟨J3.trans uK,c14⟩,?_⟩
    (try simp only[bM,bN,bO,tks])
    refine gZ ?_;have Ky:=J3.trans uK;have aju:k<((Es (Wq B f z i0 i1) wV k).set k { x with ld:=ly }).length:=by rw[List.length_set];exact hkc
    have EJ:=aha.out.adb aju it;rw[List.getElem_set_self,List.set_set]at EJ
    have aeD:Hid (fq (splice cs2 (q+k*17) (wP it)) q (Es (Wq B f z i0 i1) wV (k+1))):=ah (by
     rw[<-yR _ _ hkx,HX.out];have e:Wq B f z i0 i1 x={ x with ld:=ly,it:=it }:=by
      unfold Wq Ic;rw[xP,wK,HSX.out,<-hit,<-MJ,qK,<-Gf];rfl
     rw[e]
     exact EJ.1)
    have Qs:=uJ.own (M:=λb=>b=R) Ky λb hb h=>by subst h;exact⟨qG,sU⟩
    have B14:=B12.out (M:=λb=>b=R) n2 Ky;have C14:=Kz.out (M:=λb=>b=R) ak Ky;have ahd:=ah (Sn.out.out (M:=λb=>b=R) ak Ky);have acf:=aJ Gu Ky.size;generalize zl.setRow R (splice cs2 (q+k*17) (wP it))=w14 at *;generalize splice cs2 (q+k*17) (wP it)=cs4 at *;clear hx EJ Nj Nc J3 uK Ky c12 c13 c14 uJ B12 Kz Sn Sq l0 fu fA gy mQ lbx ahc Gu MJ Gf hit wK xP aha hC;go_wp2
    go_roundw
    case rel=>exact⟨k+1,n2',P2,cs4,by omega,by go_num,by omega,Qs,JX,acf,acn,aeD,B14,C14,ahd⟩
    case measure=>simp[intOf];omega
  . obtain rfl:k=m:=by omega
    have U6:Hid (fq cs' q xs1):=ah (by
     have:=hC.out;rw[<-HL0.out,JM,<-Ta.out]at this
     exact this)
    have hn1:n'<=n+iK B f wV k:=hn';have ahe:=ah xQ;have hRr:=hSr.ro rY uN.out hkm;have JQ:wr.cell? ⟨T,46,none⟩=some (.int .i64 (s.c 46)):=(hST.out.cell 46).trans (bJ s ak rfl);have lTr:=hST.out.lt;have Cc:=hAr.lt;have ahf:Calls ja0 152 #[.slice (some ⟨R,q,none⟩) k k,.agg #[i0,i1],s.c 46] wr λe w'=>(∃b,e=.returned (.slice (some ⟨b,0,none⟩) k k)/\wr.heap.size<=b/\Ints w' (some ⟨b,0,none⟩) sz)/\Below wr wr w':=by
     have hg:∀i,i<fl.length->fl.getD i 0=fl[i]! := λi h=>by simp[List.getD,h]
     have hG:∀i (h:i<xs1.length),xs1[i]=Wq B f z i0 i1 (vN Y B i0 (fl.getD i 0)):=λi h=>by
      have h':i<fl.length:=by have:=Af.out;have:=HM.out;omega
      have e1:=Ta.out;subst e1;have e0:=HX0.out;subst e0;simp[gH,List.getD,ja6 h']
     have h1:=abY (some ⟨R,q,none⟩) xs1 k i0 i1 (s.c 46) (λi=>Ic B f z i0 i1 (fl.getD i 0)) (λi=>Fw.TI B i0 1 (fl.getD i 0)) (λi=>(B (fl.getD i 0)).sty) wr (U6.out.ims hAr) (by rw[Af.out];omega) (λi h=>by rw[hG i h];rfl) (λi h=>by rw[hG i h];rfl) (λi h=>by
      have ho:=JR.out xs1[i] (jc3 _);have hb:=(hRr.box _ ho.d).1;rw[<-ho.bx]at hb;have e:xs1[i].ld.id=fl.getD i 0:=by rw[hG i h];rfl
      have e2:(B xs1[i].ld.id).sty=(B (fl.getD i 0)).sty:=by rw[e]
      rw[e2]at hb
      exact⟨_,_,_,hb⟩)
     rw[Af.out]at h1;have e:yU (λi=>Ic B f z i0 i1 (fl.getD i 0)) (λi=>Fw.TI B i0 1 (fl.getD i 0)) k i1 (s.c 46)=sz:=by rw[<-HSZ.out];unfold clS;rw[HM.out,PO.out]
     rw[e]at h1;exact h1
    obtain⟨l0,fu,fA,gy⟩:=At.three A0;have oZ:=ah hSr;have akY:k<=64:=hl;clear hC hn' hlt hRr hSr xQ HI4
    go_upto_region 12 with(go_at_call 152;(with_reducible refine ahf.mono ?_);rintro e' w5 ⟨⟨bz,rfl,gbz,yg⟩,hb5⟩)
    have hS5:=oZ.out.after hb5;have xJ:=hAr.keep hb5;have B5:=A0.keep hb5;have C5:=A4.keep hb5;have Qj:=ah (hST.out.keep hb5);have ahg:=ah yg;have Ws:N4<=w5.heap.size:=aJ FL hb5.size;have gz:N4<=bz:=aJ FL gbz;clear ahf hb5 yg oZ hAr A0 A4 hST FL gbz l0 fu fA gy JQ lTr Cc
    go_loopw [109] (λiv wr=>∃(j n2:Nat) (P2:Nat->Prop) (cs2:Array Value),j<=k/\iv=.int .i64 j/\n2<=n+iK B f wV k+iK B f xs1 j/\pJ Y B F w P n2 P2 wr/\(∀b,b<N4->P2 b->P b)/\N4<=wr.heap.size/\At wr R (.cells cs2 232)/\Hid (fq cs2 q (rO (clB B f z i0 i1 sz) xs1 j))/\At wr w (.cells #[z,i0,i1] 99)/\At wr (w.heap.size+1) (.cells #[.slice none 0 0,()] 167)/\Hid (At wr T (.cells (cells s) 68))/\Hid (Ints wr (some ⟨bz,0,none⟩) sz)) (λiv _=>k-(intOf iv).toNat)
    case atStart=>exact⟨0,n',P',cs',eX _,rfl,by have h0:iK B f xs1 0=0:=rfl;omega,hS5,ahe.out,Ws,xJ,ah (by rw[Ad];exact U6.out),B5,C5,Qj,ahg⟩
    case round =>
     clear hS5 xJ B5 C5 Qj ahg U6 ahe hn1 Ws;obtain⟨j,n2,P2,cs2,hj,rfl,hn2,hSr,xQ,FL,hAr,hC,A0,A4,hST,yg⟩:=hrel;by_cases hlt:j<k
     . have hltz:(j:Int)<(k:Int):=by omega
       have hjx:j<xs1.length:=by rw[Af.out];exact hlt
       have hjc:j<(rO (clB B f z i0 i1 sz) xs1 j).length:=by rw[gW];exact hjx
       have pK:=hC.out.at_ hAr hjc;rw[o7 _ _ hjx]at pK;obtain⟨x,hx⟩:=aA (xs1[j]);have kg:=ah (JR.out x (hx▸jc3 _));rw[hx]at pK;have HX:=ah hx;have oZ:=ah hSr;have hRr:=hSr.ro rY uN.out hkm;have hbx:=(hRr.box x.ld.id kg.out.d).1;rw[<-kg.out.bx]at hbx;obtain⟨sx,hsx⟩:=aA ((B x.ld.id).sty);rw[hsx]at hbx;generalize Y.vf x.ld.id=vf at hbx;generalize Y.va x.ld.id=va at hbx;generalize (B x.ld.id).ib=ib at hbx;have HSX:=ah hsx;have pG:=ah hbx;have wS:¬ P2 R:=λh=>Ym (xQ R lR4 h);have Cc:=hAr.lt;have MR:wr.cell? ⟨R,q+j*17+12,none⟩=some (.pointer x.bx):=(pK 12 ak).trans rfl;have Sc:wr.cell? ⟨R,q+j*17+5,none⟩=some (.int .i64 x.ld.id):=(pK 5 ak).trans rfl;obtain⟨lz,cz⟩:=lints yg.out (by rw[HLZ.out];exact hlt);obtain⟨v,hv⟩:=aA (sz.getD j 0);rw[hv]at cz;obtain⟨l0,fu,fA,gy⟩:=At.three A0;clear hRr hbx pK hsx hx hSr
       go_upto_region 15 with(fail)
       clear cz lz;have xE:=λX (h:Below wr wr X)=>Sd hK z x.ld.id i0 i1 hz kg.out.d x.bx kg.out.bx X ((oZ.out.after h).ro rY uN.out hkm);obtain⟨cs0,xP⟩:=aA (Fw.lJ B z i0 x.ld.id);simp only[xP]at xE;refine aj.fQ (λa0 a W5=>∃(U:Nat) (ahh ahi u119 ahj ahk ahl ahm:Value),a={ a0 with tmps:=(((((((a0.tmps.setIfInBounds 117 ahh).setIfInBounds 118 ahi).setIfInBounds 119 u119).setIfInBounds 120 ahj).setIfInBounds 121 ahk).setIfInBounds 122 ahl).setIfInBounds 123 ahm).setIfInBounds 13 (.pointer U) }/\wr.heap.size<=U/\At W5 U (.cells #[cs0,.int .i64 (-1)] 95)/\Below wr wr W5) ?_ ?_
       . have hSd:Below wr wr wr.drew:=Below.drew aD
         refine iC (S:=λX=>Below wr wr X) 9 ?_ ?_
         . exact hSd
         intro hx;clear hSd;refine aF 0 ?_;refine aF 1 ?_;refine aF 2 ?_;refine aF 3 ?_;refine aF 4 ?_;refine aF 5 ?_;clear MR Sc l0 fu fA gy pG hC hST yg A0 A4 hAr;refine tk2 6 7 ?_ ?_
         . refine aj.Step.call eD (xE _ hx) ?_
           rintro e' w9 ⟨rfl,hb⟩;replace hx:=Below.ay hx aC hb;clear hb;refine⟨_,rfl,λ_=>hx,?_⟩
           (try simp only[bM,bN,bO,tks])
           refine tk1 7 ?_;refine aj.Step.value (u:=.pointer w9) (w':=w9.alloc (.cells #[(),()] 95)) eD ?_;obtain⟨iL,uM,AT,fK,gT⟩:∃iL,iL=w9.alloc (.cells #[(),()] 95)/\At iL w9 (.cells #[(),()] 95)/\Below w9 w9 iL/\wr.heap.size<=w9.heap.size:=⟨_,rfl,At.new _ _,aB aD _,hx.size⟩;rw[<-uM];clear uM;replace hx:=Below.ay hx aC fK;generalize w9.heap.size=U at *;refine⟨λ_=>hx,?_⟩;exact Zs
         . refine aj.Step.value (u:=.pointer wr.drew) (w':=wr.drew.alloc (.cells #[(),()] 95)) eD ?_
           obtain⟨iL,uM,AT,fK,gT⟩:∃iL,iL=wr.drew.alloc (.cells #[(),()] 95)/\At iL wr.drew (.cells #[(),()] 95)/\Below wr.drew wr.drew iL/\wr.heap.size<=wr.drew.heap.size:=⟨_,rfl,At.new _ _,aB aD _,hx.size⟩;rw[<-uM];clear uM;replace hx:=Below.ay hx aC fK;generalize wr.drew.heap.size=U at *;refine⟨λ_=>hx,?_⟩
           (try simp only[bM,bN,bO,tks])
           refine tk1 6 ?_;refine aj.Step.call eD (xE _ hx) ?_;rintro e' w9 ⟨rfl,hb⟩;replace hx:=Below.ay hx aC hb;replace AT:=AT.keep hb;clear hb;refine⟨_,rfl,λ_=>hx,?_⟩;exact Zs
       . rintro a W9 ⟨U,ahh,ahi,u119,ahj,ahk,ahl,ahm,rfl,gU,AU,fK⟩
         simp only[List.setIfInBounds_toArray,List.set_cons_zero,List.set_cons_succ];clear xE MR Sc l0 fu fA gy
         have HIM:Hid (qE wr R (q+j*17) x):=ah (by
          have h:=hC.out.at_ hAr hjc;rw[o7 _ _ hjx,HX.out]at h
          exact h)
         have ahn:=ah (aL.keep pG.out fK);have lR9:=aT Cc fK.size;have MR:W9.cell? ⟨R,q+j*17+12,none⟩=some (.pointer x.bx):=(fK.cell (p:=⟨R,_,none⟩) Cc).trans ((HIM.out 12 ak).trans rfl);obtain⟨l2,bS,bX,bY,bZ,cu,cK,bU,bV⟩:=At.bx1 ahn.out;clear bS bX bY bZ cu cK;have uI:=λX=>eY (Fw.ed sx 0) (Fw.ed sx 2) X;obtain⟨e02,Gf⟩:=aA (Fw.wr (Fw.ed sx 0+Fw.ed sx 2));simp only[Gf]at uI;obtain⟨t1,ht1⟩:=aA (IntKind.i64.wrap (v+e02))
         go_upto_region 17 with(go_at_call 87;(with_reducible refine(uI _).mono ?_);rintro e' iL ⟨rfl,gY⟩;replace AU:=AU.keep gY;obtain⟨lU,cU0,cU1⟩:=At.two AU;have zU1:=AU.thaw 1)
         generalize hW:ja5 _ _ _=Ch;replace AU:At Ch U (.cells #[cs0,t1] 95):=hW▸At.set AU 1 _;have fF:Below wr wr Ch:=by
          rw[<-hW];exact Below.setCell (Below.ay fK aC gY) gU _
         clear hW gY fK ahn lR9 MR l2 bU bV uI cU0 cU1 zU1 lU;obtain⟨lU,cU0,cU1⟩:=At.two AU;have aho:=ah (oZ.out.after fF);have nN:=hAr.keep fF;have B11:=A0.keep fF;have M8:=A4.keep fF;have uE:=ah (hST.out.keep fF)
         have H9:=ah (yg.out.keep fF λ_ a ha=>by
          have h:=lints yg.out (by rw[HLZ.out];exact hlt);injection ha with ha;rw[<-ha]
          exact h.1)
         have Sc:Ch.cell? ⟨R,q+j*17+5,none⟩=some (.int .i64 x.ld.id):=(fF.cell (p:=⟨R,_,none⟩) Cc).trans ((HIM.out 5 ak).trans rfl);have ahp:=fF.size;obtain⟨l0,fu,fA,gy⟩:=At.three B11;have hcs1:=rJ B f xs1 hjx;rw[HX.out]at hcs1;have hcs2:=wL B f xs1 (j+1);rw[Af.out,Ww.out k,HCS.out]at hcs2;have akZ:=HCS.out;have hnn:=HN.out;obtain⟨ly,wK⟩:=aA (Fw.lay B f x.ld.id i0 i1 cs0 t1);have KQ:ly.id=x.ld.id:=by rw[<-wK];rfl
         have OC:=ah (show q+j*17+5+7<=cs2.size by have:=hC.out.1;rw[gW]at this;have h2:j*17+17<=xs1.length*17:=ak;omega);have n1:w.heap.size≠Y.pm:=by omega
         have n2':w.heap.size≠R:=by omega
         have n5:U≠Y.pm:=by omega
         have n6:U≠R:=by omega
         have hSd:Out (λb=>b=Y.pm\/b=R) Ch Ch.drew/\Ch.drew.cell? ⟨R,q+j*17+5,none⟩=some (.int .i64 x.ld.id)/\True:=⟨(Out.refl _ _).drew,Sc,trivial⟩;clear fF HIM pG hAr A0 A4 hST yg;refine iC (S:=λX=>Out (λb=>b=Y.pm\/b=R) Ch X/\X.cell? ⟨R,q+j*17+5,none⟩=some (.int .i64 x.ld.id)/\True) 15 ?_ ?_
         . exact hSd
         intro hx;clear hSd;refine fJ 0 ?_;refine fJ 1 ?_;refine fJ 2 ?_;refine fJ 3 ?_;refine fJ 4 ?_;refine fJ 5 ?_;refine fJ 6 ?_;refine fJ 7 ?_;refine fJ 8 ?_;refine fJ 9 ?_;refine fJ 10 ?_;have qF:=rM hL rY uN.out hkm (aho.out.after ((Below.refl Ch.heap.size Ch).drew)) x.ld.id i0 i1 cs0 t1 kg.out.d kg.out.f ak;rw[wK]at qF;refine tk1 11 ?_;refine aj.Step.call eD qF ?_;rintro e' iL ⟨rfl,n3',P3,hn3,mF,H7,jQ⟩;have Wo:R<Ch.drew.heap.size:=nN.lt;have mJ:At iL R (.cells cs2 232):=At.out (M:=λb=>b=Y.pm) (At.drew nN) ak jQ;have uD:iL.cell? ⟨R,q+j*17+5,none⟩=some (.int .i64 x.ld.id):=(Out.cell jQ (q+j*17+5) Wo ak).trans Sc;have o8:Out (λb=>b=Y.pm\/b=R) Ch iL:=((Out.refl _ Ch).drew).trans (jQ.mono λb _ h => .inl h);refine⟨_,rfl,λ_=>⟨o8,uD,trivial⟩,?_⟩
         (try simp only[bM,bN,bO,tks])
         have JN:Out (λb=>b=Y.pm\/b=R) Ch iL/\iL.cell? ⟨R,q+j*17+5,none⟩=some (.int .i64 x.ld.id)/\True:=⟨o8,uD,trivial⟩;refine fJ 12 ?_;refine fJ 13 ?_;refine tk1 14 ?_;refine aj.Step.skip (aY mP (.tmp 149) (.tmp 147) rfl rfl rfl mJ (dB ly) OC.out (ou ly)) ?_;have Nj:At (iL.setRow R (splice cs2 (q+j*17+5) (dV ly))) R (.cells (splice cs2 (q+j*17+5) (dV ly)) 232):=At.setRow mJ _;have nR:Out (λb=>b=R) iL (iL.setRow R (splice cs2 (q+j*17+5) (dV ly))):=Out.setRow (M:=λb=>b=R) (Out.refl _ _) rfl _;have adp:(iL.setRow R (splice cs2 (q+j*17+5) (dV ly))).cell? ⟨R,q+j*17+5,none⟩=some (.int .i64 x.ld.id):=by
          have h1:=mH (cs:=cs2) (vs:=dV ly) (q:=q+j*17+5) (j:=0) Z4i (by rw[dB];omega);rw[Nat.add_zero]at h1;rw[Nj.cell,h1,<-KQ];rfl
         have hOr:=o8.trans (nR.mono λb _ h => .inr h);refine⟨λ_=>⟨hOr,adp,trivial⟩,?_⟩
         (try simp only[bM,bN,bO,tks])
         refine gZ ?_;have qG:¬ P3 R:=λh=>wS (H7 R Wo h);have hput:=hC.out.R6 hjc ly;rw[o7 _ _ hjx,HX.out]at hput
         have ajv:Hid (fq (splice cs2 (q+j*17+5) (dV ly)) q (rO (clB B f z i0 i1 sz) xs1 (j+1))):=ah (by
          rw[<-Ab _ _ hjx,HX.out];have e:clB B f z i0 i1 sz j x={ x with ld:=ly }:=by
           unfold clB;rw[hv,xP,HSX.out,<-wK,<-ht1,qK,<-Gf];rfl
          rw[e]
          exact hput.1)
         have uJ:=mF.own (M:=λb=>b=R) nR λb hb h=>by subst h;exact⟨qG,sU⟩
         have B12:=B11.out (M:=λb=>b=Y.pm\/b=R) ak hOr;have Kz:=M8.out (M:=λb=>b=Y.pm\/b=R) ak hOr;have Sn:=ah (uE.out.out (M:=λb=>b=Y.pm\/b=R) ak hOr);have ahq:=ah (vP H9.out hOr ak);have JX:∀b,b<N4->P3 b->P b:=λb hb h=>xQ b hb (H7 b (by show b<Ch.heap.size;omega) h);have Gu:N4<=(iL.setRow R (splice cs2 (q+j*17+5) (dV ly))).heap.size:=aJ (aJ FL ahp) hOr.size;generalize iL.setRow R (splice cs2 (q+j*17+5) (dV ly))=wO at *;generalize splice cs2 (q+j*17+5) (dV ly)=Ag at *;clear hx JN hput mJ nR adp uD jQ o8 hOr H7 mF qF l0 fu fA gy Sc nN B11 M8 uE H9 hC lU cU0 cU1 AU aho;go_wp2
         go_roundw
         case rel=>exact⟨j+1,n3',P3,Ag,by omega,by go_num,by omega,uJ,JX,Gu,Nj,ajv,B12,Kz,Sn,ahq⟩
         case measure=>simp[intOf];omega
     . obtain rfl:j=k:=by omega
       have hC2:Hid (fq cs2 q xs2):=ah (by
        have:=hC.out;rw[<-Af.out,Ew,<-HX2.out]at this
        exact this)
       have HN2:Hid (n2<=n+2*(fl.map (Fw.cst B f)).sum):=ah (by
        have h1:=hn2;rw[Ww.out j,HCS.out]at h1
        omega)
       have wS:¬ P2 R:=λh=>Ym (xQ R lR4 h);have hPN:=ah (show¬ P2 (w.heap.size+1)from λh=>by have:=hP _ (xQ _ ak h);omega);have oZ:=ah hSr;have aco:=ah hSr.lt;have hb6:Below wr wr (wr.alloc (.cells #[.int .i64 1] 3)):=aB aD _;have xK:At (wr.alloc (.cells #[.int .i64 1] 3)) wr.heap.size (.cells #[.int .i64 1] 3):=At.new _ _;have EH:=Yc (some ⟨R,q,none⟩) xs2 j wr.heap.size _ ((hC2.out.ims hAr).after hb6) (by rw[HL2.out];omega) (xK.cell 0) xK.lt;rw[HL2.out]at EH;have hs6:=hb6.size;clear hC hn2 hlt hSr xQ xK
       go_upto_region 20 with(first|(go_at_call 153;(with_reducible refine(nD 1 _).mono ?_);rintro e w1 ⟨rfl,rfl⟩)|(go_at_call 148;(with_reducible refine EH.mono ?_);rintro e' w7 ⟨⟨bt,rfl,gbt,hT⟩,nW⟩))
       have Nk:Below wr wr w7:=hb6.trans (nW.mono hs6);have elg:long.length=j:=by rw[<-HLG.out];simp[nG,HL2.out]
       have hIt:Ints w7 (some ⟨bt,0,none⟩) long:=by
        have h1:=fP _ _ KR hT;have h2:=rP (nG xs2);rw[HLG.out,elg]at h2;rw[HLG.out,h2]at h1;exact h1
       have hS7:=oZ.out.after Nk;have Oj:=hAr.keep Nk;have B7:=A0.keep Nk;have C7:=A4.keep Nk;have acr:=ah (hST.out.keep Nk);have hN7:N4<=w7.heap.size:=aJ FL Nk.size;have hP7:=ah (λb (h:P2 b)=>aT (aco.out b h) Nk.size);have HIt:=ah hIt;clear EH hb6 nW hT gbt hs6 oZ hAr A0 A4 hST FL aco Nk hIt yg;have JQ:w7.cell? ⟨T,46,none⟩=some (.int .i64 (s.c 46)):=(acr.out.cell 46).trans (bJ s ak rfl);have lT7:=acr.out.lt;have UW:∀X,(Instr.build 167 #[(1,.int .i64 high)]).run ja0 X=.ok (.agg #[.slice none 0 0,high]) X:=λ_=>by kernel_rfl
       have mD:=MW (some ⟨bt,0,none⟩) long j j (s.c 46) w7 HIt.out elg aC ak;rw[HHI.out]at mD;have ELG:=ah elg;clear elg
       go_upto_region 21 with(go_at_call 154;(with_reducible refine mD.mono ?_);rintro e w8 ⟨rfl,rfl⟩)
       generalize hW:ja4 _ _=w9;obtain⟨Cb,hCb⟩:=aA w7.heap.size;have AC:At w9 Cb (.cells #[.slice none 0 0,high] 167):=hW▸At.new' _ hCb.symm;have fK:Below w7 w7 w9:=hW▸aB aD _;have hPC:¬ P2 Cb:=λh=>by have:=hP7.out Cb h;omega
       have gC:N4<=Cb:=by omega
       rw[hCb];have Om:=hS7.after fK;have pI:=Oj.keep fK;have B9:=B7.keep fK;have C9:=C7.keep fK;have Yx:=ah (acr.out.keep fK);have ahr:=ah (HIt.out.after fK);have hN9:N4<=w9.heap.size:=aJ hN7 fK.size;clear hW mD UW fK hS7 Oj B7 C7 acr HIt JQ lT7 hCb hP7 hN7;obtain⟨l0,fu,fA,gy⟩:=At.three B9;obtain⟨lC,Gs,Gt⟩:=At.two AC
       go_upto_if 163 with(fail)
       go_cut [16]from 162 to 166 (λv w2=>v=.int .i64 room/\Below w9 w9 w2)
       case first =>
        by_cases hh:i1 = -1
        . have e1:=HRM.out
          rw[if_pos hh]at e1;exact Z3a
        . have e1:=HRM.out
          rw[if_neg hh]at e1;exact Z3a
       case rest =>
        obtain⟨rfl,gY⟩:=hcut;have mF:=Om.after gY;have mJ:=pI.keep gY;have B10:=B9.keep gY;have Oq:=C9.keep gY;have yY:=AC.keep gY;have EK:=ah (Yx.out.keep gY);have EF:N4<=wc.heap.size:=aJ hN9 gY.size;have ajw:=mF.lt;have aen:wc.cell? ⟨T,43,none⟩=some (.int .i64 (s.c 43)):=(EK.out.cell 43).trans (bJ s ak rfl);have JQ:wc.cell? ⟨T,46,none⟩=some (.int .i64 (s.c 46)):=(EK.out.cell 46).trans (bJ s ak rfl);have ajx:=EK.out.lt;have U7:=Ev (some ⟨bt,0,none⟩) long j j (s.c 43) room (s.c 46) wc (ahr.out.after gY) ELG.out aC ak;have e:Ju.row (Ju.starts (s.c 43) room (s.c 46) long) j=st:=by rw[<-HST.out,HL2.out]
        rw[e]at U7;clear e Om pI B9 C9 AC Yx ahr hN9 gY l0 fu fA gy lC Gs Gt
        go_upto_region 25 with(go_at_call 155;(with_reducible refine U7.mono ?_);rintro e' qh ⟨⟨bst,rfl,ajy,Qk⟩,fF⟩)
        have qH:=mF.after fF;have nN:=mJ.keep fF;have B11:=B10.keep fF;have M8:=Oq.keep fF;have JY:=yY.keep fF;have uE:=ah (EK.out.keep fF);have Y1:=ah Qk;obtain⟨N5,Ws⟩:=aA qh.heap.size;have CU:∀b,P2 b->b<N5:=λb h=>by have h1:=qH.lt b h;rw[Ws]at h1;exact h1
        have ak0:N4<=N5:=by have:=fF.size;omega
        have lC5:Cb<N5:=by have:=JY.lt;omega
        have ajz:st≠[]->bst<N5:=λh=>by
         obtain⟨b',o',e,hl,hc⟩:=Ints.at_ Qk (k:=0) (List.length_pos_iff.2 h);injection e with e;injection e with e1 e2;omega
        have HN5:=ah Ws;have HP5:=ah CU;have ajA:=ah hPC;have hXL:Hid (xs.length=j):=ah (by rw[<-HXS.out.1,List.length_mapIdx,HL2.out]);have nst:bst≠Cb:=by have:=yY.lt;omega
        clear U7 fF mF mJ B10 Oq yY EK Qk ajy ajw EF aen JQ ajx Ws CU hPC
        go_loopw [174] (λiv wr=>∃(i:Nat) (v:Value),i<=j/\iv=.int .i64 i/\pJ Y B F w P n2 P2 wr/\At wr R (.cells cs2 232)/\At wr Cb (.cells #[v,high] 167)/\Hid (wr.ownsRow N5 101 7 v (xs.take i).length (wU (xs.take i)))/\At wr w (.cells #[z,i0,i1] 99)/\At wr (w.heap.size+1) (.cells #[.slice none 0 0,()] 167)/\Hid (At wr T (.cells (cells s) 68))/\Hid (Ints wr (some ⟨bst,0,none⟩) st)/\N5<=wr.heap.size) (λiv _=>j-(intOf iv).toNat)
        case atStart=>exact⟨0,.slice none 0 0,eX _,rfl,qH,nN,JY,ah (World.ownsRow_nil _ _ _ _),B11,M8,uE,Y1,by rw[HN5.out];exact aH _⟩
        case round =>
         clear qH nN JY B11 M8 uE Y1;obtain⟨i,v,hi,rfl,hSr,hAr,AC,hown,A0,A4,hST,yg,FL⟩:=hrel;by_cases hlt:i<j
         . have hltz:(i:Int)<(j:Int):=by omega
           have hix:i<xs2.length:=by rw[HL2.out];exact hlt
           have pK:=hC2.out.at_ hAr hix;obtain⟨x,hx⟩:=aA (xs2[i]);rw[hx]at pK;have HX:=ah hx;have oZ:=ah hSr;obtain⟨lz,cz⟩:=lints yg.out (by rw[Db.out];exact hlt);obtain⟨v0,hv0⟩:=aA (st.getD i 0);rw[hv0]at cz;have HV0:=ah hv0;have Cc:=hAr.lt;clear hx hSr hv0
           go_upto_region 28 with(first|(refine dn aR _ rfl rfl (by with_reducible assumption) ?_)|(refine bW aR rfl ?_)|(refine bP aR _ _ rfl rfl rfl Z4m ?_))
           generalize hW:jb9 _ _ _=W3;obtain⟨Q,hQ⟩:=aA wr.heap.size;have AQ:At W3 Q (.cells (lZ x) 232):=hW▸hQ▸At.setRow (At.new _ _) _;have hb3:Below wr wr W3:=hW▸aM (aB aD _) aC _;have gQ:wr.heap.size<=Q:=Nat.le_of_eq hQ;have gQ2:Q<=wr.heap.size:=Nat.le_of_eq hQ.symm;rw[hQ];clear hW hQ pK cz lz Cc;have aeP:=ah (hST.out.keep hb3);have B3:=A0.keep hb3;have Yv:W3.cell? ⟨T,44,none⟩=some (.int .i64 (s.c 44)):=(aeP.out.cell 44).trans (bJ s ak rfl);have lT3:=aeP.out.lt;have lQ:=AQ.lt;have hIQ:Hid (qE W3 Q 0 x):=ah λj hj=>by rw[Nat.zero_add];exact AQ.cell j
           obtain⟨l0,fu,fA,gy⟩:=At.three B3;have hSd:Below W3 W3 W3.drew:=Below.drew aD;refine iC (S:=λX=>Below W3 W3 X) 10 ?_ ?_
           . exact hSd
           intro hx;clear hSd;refine aF 0 ?_;refine aF 1 ?_;refine jh 3 rfl (Er (.tmp 19) aR rfl rfl (λX h=>qE.keep hIQ.out h lQ)) ?_;refine aF 5 ?_;refine aF 6 ?_;refine aF 7 ?_;refine tk1 2 ?_;refine aj.Step.call eD (nD 0 _) ?_;rintro e' w7 ⟨rfl,hw7⟩;have nW:Below W3.drew W3.drew w7:=hw7▸aB aD _;have AB:At w7 W3.drew (.cells #[()] 3):=hw7▸At.new _ _;clear hw7;replace hx:=Below.ay hx aC nW;generalize W3.drew.heap.size=Bq at *;refine⟨_,rfl,λ_=>hx,?_⟩
           (try simp only[bM,bN,bO,tks])
           refine tk1 4 ?_;refine aj.Step.call eD (RZ x Bq w7 (AB.cell 0)) ?_;rintro e' w8 ⟨rfl,oq⟩;replace hx:=Below.ay hx aC oq;refine⟨_,rfl,λ_=>hx,?_⟩
           (try simp only[bM,bN,bO,tks])
           refine tk1 8 ?_;refine aj.Step.call eD (Bj (s.c 44) (Bd x) i0 w8) ?_;rintro e' w9 ⟨rfl,rfl⟩;refine⟨_,rfl,λ_=>hx,?_⟩
           (try simp only[bM,bN,bO,tks])
           refine aF 9 ?_;refine gZ ?_;have ahs:Below wr wr w8:=Below.ay hb3 aC hx;have AQ8:=AQ.keep hx;clear nW oq AB hx aeP B3 Yv lT3 l0 fu fA gy hIQ AQ lQ hb3;obtain⟨la,hla⟩:=aA (Ju.across (s.c 44) (Bd x) i0);rw[hla];obtain⟨p0,hp0⟩:=aA (IntKind.i64.wrap (la+x.m0));obtain⟨p1,hp1⟩:=aA (IntKind.i64.wrap (v0+x.m2));obtain⟨y,hy⟩:∃y:Fw.Ld,{ x.ld with a0:=p0,a1:=p1 }=y:=⟨_,rfl⟩;have HY:Hid (clE (s.c 44) i0 st i x=y):=ah (by unfold clE;rw[HV0.out,hla,<-qK (v0+x.m2),<-qK (la+x.m0),hp0,hp1];exact hy)
           have HTK:Hid (xs.take (i+1)=xs.take i++[y]):=ah (by
            have hxi:i<xs.length:=by rw[hXL.out];exact hlt
            rw[jc8 hxi];congr 2;have e:=HXS.out.1;have e2:xs[i]=clE (s.c 44) i0 st i xs2[i]:=by subst e;simp
            rw[e2,HX.out,HY.out])
           have lQ8:=AQ8.lt;have c13:w8.cell? ⟨Q,13,none⟩=some (.int .i64 x.m0):=(AQ8.cell 13).trans rfl;have c15:w8.cell? ⟨Q,15,none⟩=some (.int .i64 x.m2):=(AQ8.cell 15).trans rfl;have c10:w8.cell? ⟨Q,10,none⟩=some (.int .i64 x.ld.a0):=(AQ8.cell 10).trans rfl;have c11:w8.cell? ⟨Q,11,none⟩=some (.int .i64 x.ld.a1):=(AQ8.cell 11).trans rfl;have z10:=AQ8.thaw 10;have z11:=AQ8.thaw 11
           go_upto_region 30 with(fail)
           generalize hW:ja5 _ _ _=W9;have AQ9:At W9 Q (.cells (lZ { x with ld:=y }) 232):=by
            rw[<-hW,<-hy];exact At.set (At.set AQ8 10 _) 11 _
           have fK:Below wr wr W9:=by
            rw[<-hW];exact Below.setCell (Below.setCell ahs gQ _) gQ _
           clear hW lQ8 c13 c15 c10 c11 z10 z11 AQ8 ahs hp0 hp1 hla hy;have Ng:=bG (M:=λ_=>False) hown.out (λ_ _ q=>q) (Out.of_below fK);have hs9:=fK.size;obtain⟨g',c',w',hr,hown',hOa⟩:=U8 y Ng ak iJ;obtain⟨ln,hln⟩:=aA ((xs.take i).length+1);rw[hln]at hr hown';clear hln;have hrun:=ah hr
           have hQL:∀j,j<7->W9.cell? ⟨Q,5+j,none⟩=(dV y)[j]? := λj hj=>by
            rw[AQ9.cell];exact Z20
           have YZ:∀b,v.ownBlock=some b->N5<=b:=λb h=>(hown.out.lt b h).1;have AC9:=AC.keep fK;have ACn:At w' Cb (.cells #[v,high] 167):=At.out (M:=λb=>v.ownBlock=some b) (AC9.alloc _) (λh=>by have:=YZ Cb h;omega) hOa;obtain⟨lC9,aeI,aeJ⟩:=At.two AC9;obtain⟨lCn,aeK,aeL⟩:=At.two ACn;have aeM:=ACn.thaw 0;have lQ9:=AQ9.lt;have HQL:=ah hQL;clear hr Ng hQL
           go_upto_region 31 with(first|(refine eB zZ mP aR _ rfl rfl (dB y) HQL.out ?_)|(refine uF aR _ rfl rfl ?_)|(at_builtin;refine wpList_append_run aR _ _ 165 rfl rfl rfl hrun.out ?_))
           generalize hW:ja5 _ _ _=M7;have yY:At M7 Cb (.cells #[.slice g' ln c',high] 167):=hW▸At.set ACn 0 _;have Nh:Out (λb=>b=Cb) w' M7:=hW▸Out.set (M:=λb=>b=Cb) (Out.refl _ _) rfl 0 _
           have Qw:Hid (M7.ownsRow N5 101 7 (.slice g' ln c') (xs.take (i+1)).length (wU (xs.take (i+1)))):=ah (by
            rw[HTK.out]
            exact bG (M:=λb=>b=Cb) hown' (λg hg e=>by have:=(hown'.lt g hg).1;omega) Nh)
           have Ni:Out (λb=>v.ownBlock=some b\/b=Cb) wr M7:=(Out.of_below (aB fK _)).trans ((hOa.mono λb _ h => .inl h).trans (Nh.mono λb _ h => .inr h))
           have hoff:∀b,b<N5->b≠Cb->¬ (v.ownBlock=some b\/b=Cb):=λb hb hn h=>by
            rcases h with h|h
            . have:=YZ b h;omega
            . exact hn h
           have mF:=oZ.out.own Ni λb hb h=>by
            rcases h with h|h
            . have h1:=YZ b h
              exact⟨λhp=>by have:=HP5.out b hp;omega,by omega⟩
            . subst h
              exact⟨ajA.out,by omega⟩
           have mJ:=hAr.out (hoff R ak ak) Ni;have B10:=A0.out (hoff _ ak ak) Ni;have Oq:=A4.out (hoff _ ak ak) Ni;have EK:=ah (hST.out.out (hoff T ak ak) Ni);have aht:=ah (vP yg.out Ni (hoff bst (ajz (λe=>by have:=Db.out;rw[e]at this;simp at this;omega)) ak));have EF:N5<=M7.heap.size:=aJ FL Ni.size;clear hW ACn Nh hown' hOa Ni hoff AC9 lC9 aeI aeJ lCn aeK aeL aeM lQ9 HQL fK hs9 AQ9 hown hAr A0 A4 AC hST yg hrun;go_wp2
           go_roundw
           case rel=>exact⟨i+1,_,by omega,by go_num,mF,mJ,yY,Qw,B10,Oq,EK,aht,EF⟩
           case measure=>simp[intOf];omega
         . obtain rfl:i=j:=by omega
           have hfull:xs.take i=xs:=jb6 (by rw[hXL.out];exact aH _);rw[hfull]at hown
           have hxne:xs≠[]:=λe=>by
            have h1:=hXL.out;rw[e]at h1;have h2:=HM.out;exact hne (List.length_eq_zero_iff.1 (by rw[h2,<-h1];rfl))
           obtain⟨Rr,cap,csr,rfl,YZ,gR,AR,Ie⟩:=MX hown.out hxne;obtain⟨lC,Gs,Gt⟩:=At.two AC;have c4:=A4.nM;have lw:w.heap.size+1<wr.heap.size:=A4.lt;have HRC:=ah Ie;have oZ:=ah hSr;have hHI:=ah HXS.out.2;clear Ie hown hSr hfull hxne hAr A0 hST yg;go_wp2;generalize hW:ja5 _ _ _=W6;replace A4:At W6 (w.heap.size+1) (.cells #[.slice Rr xs.length cap,high] 167):=hW▸At.set (At.set A4 0 _) 1 _;have MP:Out (λb=>b=w.heap.size+1) wr W6:=by
            exact Z21
           clear hW c4 lC Gs Gt AC;have AR6:=AR.out (M:=λb=>b=w.heap.size+1) ak MP;have qL:=oZ.out.own MP λb hb h=>by subst h;exact⟨hPN.out,by omega⟩
           have c4:=A4.lc;have iV:=qL.fin;have KI:=qL.kp;have hNw:=qL.new;have aeO:¬ P2 Rr:=λh=>by have:=HP5.out Rr h;omega
           refine bodyPost_ret (v:=.agg #[.slice Rr xs.length cap,high]) (by simp[results,Tryz.results113,go_sem,(c4.2 0),(c4.2 1),c4.1];first|done|exact⟨rfl,rfl⟩|rfl) rfl ⟨Rr,cap,csr,P2,n2,by rw[hHI.out],by omega,AR6,HRC.out,HN2.out,KI,hNw,aeO,iV⟩
end
structure Wk(B:Int->Fw.Bx)(F:Int->Nat)(D:Int->Prop):Prop where
 down:∀z,D z->∀k∈(B z).fl,D k/\F z=F k+1
 len:∀z,D z->(B z).fl.length<=64
 kind:∀z,D z->(B z).sty.c 0=0\/(B z).sty.c 0=1\/(B z).sty.c 0=2
 deep:∀z,D z->F z<=1000
theorem nP.lt{X:World}{b:Nat}(h:nP X b):b<X.heap.size:=by
 obtain⟨n,g,h1,_⟩:=h;exact h1.lt
section
variable {Y:p9} {B:Int->Fw.Bx} {F:Int->Nat} {D:Int->Prop}
def aeQ(Y:p9)(B:Int->Fw.Bx)(F:Int->Nat)(D:Int->Prop)(f:Nat):Prop :=
 ∀(z i0 i1:Int) (w:World) (n:Nat) (P:Nat->Prop),D z->F z=f->Wf i0->Wf i1->RO w Y B D nP->Kp Y B F n P w->(∀b,P b->b<w.heap.size)->n+Fw.cst B f z<maxLen ->
  Calls ja0 83 #[Y.lb,.agg #[z,i0,i1]] w λe w' =>
   ∃v n' P',e=.returned v/\CV w' P' v (Fw.cont B f z i0 i1)/\n'<=n+Fw.cst B f z/\Kp Y B F n' P' w'/\(∀b,P' b->P b\/w.heap.size<=b)/\Out (λb=>b=Y.pm) w w'
theorem acs(B:Int->Fw.Bx)(f:Nat)(z:Int):1<=Fw.cst B f z:=by
 cases f<;>simp only[Fw.cst]<;>omega
theorem adq(W:Wk B F D)(f:Nat)(hL:∀f',f=f'+1->vO Y B F D nP f'):aeQ Y B F D f:=by
 intro z i0 i1 w n P hz hf h0 h1 hR FK hP hn;have hc1:=acs B f z;by_cases hne:(B z).fl=[]
 . have hc:Fw.cont B f z i0 i1=([],(B z).sty.c 54):=by
    cases f with
    | zero=>rfl
    | succ f=>simp only[Fw.cont];rw[if_pos hne]
   refine(JK nP.keep z i0 i1 hz w hR hne).mono λe w' ⟨he,hb⟩ => ?_;refine⟨_,n,P,he,?_,by omega,FK.out (M:=λ_=>False) (Out.of_below hb) λ_ _ q=>q,λb h => .inl h,Out.of_below hb⟩;rw[hc];exact⟨none,0,rfl,.inl rfl⟩
 . obtain⟨f',rfl⟩:∃f',f=f'+1:=by
    cases hfl:(B z).fl with
    | nil=>exact absurd hfl hne
    | cons k l =>
      have:=(W.down z hz k (by rw[hfl];simp)).2;exact⟨F k,by omega⟩
   have hdn:∀k∈(B z).fl,D k/\F k=f':=λk hk=>by
    have:=W.down z hz k hk;exact⟨this.1,by omega⟩
   obtain⟨hpP,g,hg,hgv⟩:=FK;have FK:Kp Y B F n P w:=⟨hpP,g,hg,hgv⟩;have KA:=hR.wf z hz;cases hgk:g (klit z i0 i1)with
   | some v =>
     have hcv:=hgv z i0 i1 v KA h0 h1 hgk;rw[hf]at hcv;obtain⟨A,cap,rfl,hld⟩:=hcv;refine(JL nP.keep z i0 i1 hz w hR n h0 h1 hne g hg _ _ _ _ hgk).mono λe w' ⟨he,hb⟩ => ?_;exact⟨_,n,P,he,⟨A,cap,rfl,hld.out (M:=λ_=>False) (Out.of_below hb) (λ_ _ q=>q) λ_ q=>q⟩,by omega,FK.out (M:=λ_=>False) (Out.of_below hb) λ_ _ q=>q,λb h => .inl h,Out.of_below hb⟩
   | none =>
     obtain⟨xs,hxs⟩:=aA ((Fw.kind B (Fw.lay B f') f' z i0 i1).1);obtain⟨hi,hhi⟩:=aA ((Fw.kind B (Fw.lay B f') f' z i0 i1).2);have hk:Fw.kind B (Fw.lay B f') f' z i0 i1=(xs,hi):=by rw[<-hxs,<-hhi]
     have acu:xs.map (·.id)=(B z).fl:=by rw[<-hxs];exact Fw.Lp B f' z i0 i1
     have hcn:Fw.cont B (F z) z i0 i1=(xs.map (Fw.mv B i0 i1),hi):=by
      rw[hf];simp only[Fw.cont];rw[if_neg hne];show((Fw.kind B (Fw.lay B f') f' z i0 i1).1.map (Fw.mv B i0 i1),(Fw.kind B (Fw.lay B f') f' z i0 i1).2)=_;rw[hxs,hhi]
     have hDx:∀x∈xs,D x.id:=λx hx=>(hdn x.id (by rw[<-acu];exact List.mem_map_of_mem hx)).1;have hlx:xs.length=(B z).fl.length:=by rw[<-acu,jb7]
     have aeR:=W.len z hz;have aeS:f'<=1000:=by have:=W.deep z hz;omega
     have ab8:Fw.cst B (f'+1) z=1+3*((B z).fl.map (Fw.cst B f')).sum:=rfl;rw[ab8]at hn hc1 ⊢
     have hxne:xs≠[]:=λe=>by
      rw[e]at acu;exact hne acu.symm
     have key:∀(kf:FuncId),(∀(args:Array Value) (X:World),(callFunc kf args).run ja0 X=.ok (.enter kf args) X)->(∀X,nP X Y.km->(Instr.lookup 104 (.map (some Y.km)) (.int .i64 ((B z).sty.c 0)) false).run ja0 X=.ok (.func (.func kf) #[] #[]) X) ->
       (∀X,RO X Y B D nP->Kp Y B F n P X->(∀b,P b->b<X.heap.size)->Calls ja0 kf #[Y.lb,.agg #[z,i0,i1]] X λe X'=>∃R cap cs P' n',e=.returned (.agg #[.slice (some ⟨R,0,none⟩) xs.length cap,hi])/\X.heap.size<=R/\At X' R (.cells cs 101)/\nH cs xs/\n'<=n+2*((B z).fl.map (Fw.cst B f')).sum/\Kp Y B F n' P' X'/\(∀b,P' b->P b\/X.heap.size<=b)/\¬ P' R/\Out (λb=>b=Y.pm) X X') ->
       Calls ja0 83 #[Y.lb,.agg #[z,i0,i1]] w λe w' =>
        ∃v n' P',e=.returned v/\CV w' P' v (Fw.cont B (f'+1) z i0 i1)/\n'<=n+(1+3*((B z).fl.map (Fw.cst B f')).sum)/\Kp Y B F n' P' w'/\(∀b,P' b->P b\/w.heap.size<=b)/\Out (λb=>b=Y.pm) w w':=λkf hcf Ol hkind =>
      (MO nP.keep nP.out F z i0 i1 hz w hR n P FK hP h0 h1 hne kf hcf hR.kinds.lt Ol xs hi hcn hDx (2*((B z).fl.map (Fw.cst B f')).sum) ak ak g hg hgk hkind).mono λe w' ⟨v,P',n',h1,h2,h3,h4,h5,h6⟩=>⟨v,n',P',h1,by rw[hf]at h2;exact h2,by omega,h4,h5,h6⟩
     rcases W.kind z hz with hq|hq|hq
     . refine key 111 (λ_ _=>rfl) (λX h=>h.look _ _ (.inl ⟨hq,rfl⟩)) λX hRX hKX hPX => ?_
       refine aex (hL f' rfl) nP.keep nP.out W.down (λz hz=>aJ (W.len z hz) ak) aeS hRX hRX.kinds.lt z i0 i1 hz hdn hne aeR n hKX hPX ak xs hi ?_;rw[<-hk];unfold Fw.kind;rw[if_neg ak,if_neg ak]
     . refine key 112 (λ_ _=>rfl) (λX h=>h.look _ _ (.inr (.inl ⟨hq,rfl⟩))) λX hRX hKX hPX => ?_
       refine ajl (hL f' rfl) nP.keep nP.out hRX hRX.kinds.lt z i0 i1 hz hdn hne aeR n hKX hPX ak xs hi ?_ hxne;rw[<-hk];unfold Fw.kind;rw[if_pos hq]
     . refine key 113 (λ_ _=>rfl) (λX h=>h.look _ _ (.inr (.inr ⟨hq,rfl⟩))) λX hRX hKX hPX => ?_
       refine acp (hL f' rfl) nP.keep nP.out hRX hRX.kinds.lt z i0 i1 hz hdn hne aeR n hKX hPX ak xs hi ?_;rw[<-hk];unfold Fw.kind;rw[if_neg ak,if_pos hq]
theorem Ij(W:Wk B F D)(f:Nat)(hI:aeQ Y B F D f):vO Y B F D nP f:=by
 intro z r0 r1 t0 t1 w n P hz hf hR FK hP hkm hn
 refine(abL (Iv:=λP X=>Kp Y B F n P X/\∀b,P b->b<X.heap.size) (Iv2:=λP X=>∃n',n'<=n+Fw.cst B f z/\Kp Y B F n' P X) nP.keep
  (λ{P M X X'} h k hm=>⟨h.1.out k hm,λb hb=>aT (h.2 b hb) k.size⟩)
  (λ{P M X X'} h k hm=>by obtain⟨n',h1,h2⟩:=h;exact⟨n',h1,h2.out k hm⟩)
  (λ{P X} h=>⟨n,by omega,h.1⟩) P z r0 r1 t0 t1 hz w hR ⟨FK,hP⟩ hP (Fw.cont B f) ?_).mono λe w' ⟨he,⟨P',⟨n',h1,h2⟩,h3⟩,h4⟩=>⟨he,n',P',h1,h2,h3,h4⟩
 intro X i0 hRX hKX hi0;have hb:=Fw.Dx (B z).sty 0 r0 r0 t0;refine(hI z i0 (-1) X n P hz hf (by rw[iQ,hi0];omega) Z4e hRX hKX.1 hKX.2 hn).mono λe X' ⟨v,n',P',he,hcv,hn',hK',hP',hO⟩ => ?_;obtain⟨A,cap,rfl,_⟩:=hcv;exact⟨⟨_,he⟩,⟨P',⟨n',hn',hK'⟩,hP'⟩,hO⟩
theorem J4(Y:p9)(W:Wk B F D):∀f,aeQ Y B F D f/\vO Y B F D nP f:=by
 intro f
 induction f with
 | zero =>
   have h:=adq (Y:=Y) W 0 λf' e=>by omega
   exact⟨h,Ij W 0 h⟩
 | succ f ih =>
   have h:=adq (Y:=Y) W (f+1) λf' e=>by obtain rfl:f=f':=ak;exact ih.2
   exact⟨h,Ij W (f+1) h⟩
end
end Go.Proofs.YtdnggaapcgomhaaGreat.Fix
