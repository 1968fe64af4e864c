/- What functions of the program do, in plain numbers, part 17; no conditions. -/
import Derived.Test.YtmidaiklolmkcaaGreatM16
set_option linter.unusedVariables false
set_option linter.unusedSimpArgs false
set_option linter.unusedSectionVars false
set_option maxRecDepth 100000
namespace Go.Proofs.YtmidaiklolmkcaaGreat.Fix
open Go.ChangeShapes Go.WideShapes Go.ChangeAt Go.RowKit
def BO(W:World)(g:Nat)(l:List (Nat×Nat)):Prop:=g<W.heap.size/\∀k (h:k<l.length),W.cell? ⟨g,k*2,none⟩=some (.int .i64 (l[k].1:Int))/\W.cell? ⟨g,k*2+1,none⟩=some (.int .i64 (l[k].2:Int))
theorem BO.out{M:Nat->Prop}{W W':World}{g:Nat}{l:List (Nat×Nat)}(h:BO W g l)(k:Out M W W')(hm:¬ M g):BO W' g l:=⟨aV h.1 k.size,λi hi=>⟨(Out.cell k _ h.1 hm).trans (h.2 i hi).1,(Out.cell k _ h.1 hm).trans (h.2 i hi).2⟩⟩
theorem Sl{W:World}{base:Nat}{v:Value}{l:List (Nat×Nat)}(h:W.ownsRow base 44 2 v l.length ((Li.flat l).map (Value.int .i64)))(hn:l≠[]):∃g c,v=.slice (some ⟨g,0,none⟩) l.length c/\base<=g/\BO W g l:=by
 rcases h.2 with⟨rfl,h0⟩|⟨g,cap,cur,rfl,hb,hgb,hnc,hcm,hsz,htk⟩
 . exact absurd (List.length_eq_zero_iff.1 h0) hn
 . have hA:At W g (.cells cur 44):=hgb
   have key:∀i (x:Int),i<l.length*2->(Li.flat l)[i]? = some x->W.cell? ⟨g,i,none⟩=some (.int .i64 x):=λi x hi hx=>by
    have e:((Li.flat l).map (Value.int .i64))[i]? = some (.int .i64 x):=by rw[List.getElem?_map,hx];rfl
    rw[<-htk,List.getElem?_take,if_pos hi,Array.getElem?_toList]at e;rw[hA.cell];exact e
   exact⟨g,cap,rfl,hb,hA.lt,λk hk=>⟨key _ _ aj (Li.flat_get l hk).1,key _ _ aj (Li.flat_get l hk).2⟩⟩
section
variable {Y:sj} {B:Int->Fw.Bx} {F:Int->Nat} {D:Int->Prop} {KM:World->Nat->Prop} {f:Nat} {w:World} {P:Nat->Prop}
def rwG(B:Int->Fw.Bx)(i0:Int)(x:Im):Im:={ x with it:=Fw.jG B i0 x.ld.id }
theorem aaL{i0:Int}{x:Im}(h:Ll Y B D F f i0 x):Ll Y B D F f i0 (rwG B i0 x):=⟨h.d,h.f,h.bx,h.m0,h.m1,h.m2,h.m3⟩
theorem aaM(Y:sj)(B:Int->Fw.Bx)(i0:Int)(fl:List Int):(iw Y B i0 fl).map (rwG B i0)=fl.map (rwI Y B i0):=by unfold iw;rw[List.map_map];rfl
set_option maxHeartbeats 16000000 in
theorem ahE(hL:vJ Y B F D KM f)(hK:∀(X X':World) (b:Nat),KM X b->Below X.heap.size X X'->KM X' b)(qR:∀(X X':World) (b:Nat),KM X b->Out (λq=>q≠b) X X'->KM X' b)(hR0:RO w Y B D KM)(hkm:Y.km<w.heap.size)
  (z i0 i1:Int) (hz:D z) (hdn:∀k∈(B z).fl,D k/\F k=f) (hne:(B z).fl≠[]) (hl:(B z).fl.length<=64) (n:Nat) (ER:Kp Y B F n P w) (hP:∀b,P b->b<w.heap.size) (hn:n+2*((B z).fl.map (Fw.cst B f)).sum<maxLen) (xs:List Fw.Ld) (hi:Int) (hm:Fw.yC B (Fw.lay B f) z i0 i1=(xs,hi)) (hxl:xs≠[]) :
  Calls Tryz.prog 67 #[.pointer (some ⟨Y.lb,0,none⟩),.agg #[.int .i64 z,.int .i64 i0,.int .i64 i1]] w λe w'=>∃R cap cs P' n',e=.returned (.agg #[.slice (some ⟨R,0,none⟩) xs.length cap,.int .i64 hi])/\w.heap.size<=R/\At w' R (.cells cs 77)/\oV cs xs/\n'<=n+2*((B z).fl.map (Fw.cst B f)).sum/\Kp Y B F n' P' w'/\(∀b,P' b->P b\/w.heap.size<=b)/\¬ P' R/\Out (λb=>b=Y.pm) w w':=by
 obtain⟨es0,RG,pU⟩:=hR0.EO;have hpl:=pU.lt;obtain⟨fl,hfl⟩:=aA ((B z).fl);rw[hfl]at hdn hne hl hn ⊢;obtain⟨s,hs⟩:=aA ((B z).sty);obtain⟨wP,hx0⟩:=aA (iw Y B i0 fl);obtain⟨xs1,hx1⟩:=aA (wP.map (rwG B i0));obtain⟨qA,Jc⟩:=aA ((fl.map λk=>Fw.wr (Fe.clamp (Fw.jG B i0 k) (Fw.jG B i0 k).b+Fw.wJ B i0 0 k)));obtain⟨br,hbr⟩:=aA (Li.brk i0 (s.c 46) (s.b 45) qA);obtain⟨hh,Lg⟩:=aA ((if br.length=1 then i1 else -1))
 have HMR:Hid (Fw.aY B (Fw.lay B f) z i0 i1 hh fl true 0 br=(xs,hi)):=ah (by
  rw[<-hm];unfold Fw.yC
  simp only[hfl,hs,Jc,hbr,Lg])
 obtain⟨m,hmm⟩:=aA fl.length;have HL0:Hid (wP.length=m):=ah (by rw[<-hx0,<-hmm];simp[iw]);have zZ:Hid (xs1.length=m):=ah (by rw[<-hx1,List.length_map,HL0.out]);have RN:Hid (qA.length=m):=ah (by rw[<-Jc,List.length_map,hmm]);have QO:Hid (xs1=fl.map (rwI Y B i0)):=ah (by rw[<-hx1,<-hx0,aaM])
 have Wy:Hid (∀x∈wP,Ll Y B D F f i0 x):=ah (by
  rw[<-hx0];intro x hx;obtain⟨k,hk,e⟩:=List.mem_map.1 hx;rw[<-e]
  exact Qn (hdn k hk).1 (hdn k hk).2)
 have I6:Hid (∀x∈xs1,Ll Y B D F f i0 x):=ah (by
  rw[<-hx1];intro x hx;obtain⟨y,hy,e⟩:=List.mem_map.1 hx;rw[<-e]
  exact aaL (Wy.out y hy))
 have HCS:Hid (jh B f xs1 m=(fl.map (Fw.cst B f)).sum):=ah (by
  unfold jh;rw[QO.out,<-hmm];rw[<-List.map_take,List.take_length,List.map_map]
  rfl)
 have HXG:Hid (xs1=wP.map (rwG B i0)):=ah hx1.symm;have HX0:Hid (wP=iw Y B i0 fl):=ah hx0.symm;have HLO:=ah Jc;have HBR:=ah hbr;have HHH:=ah Lg;have HSS:=ah hs;have F5:=ah hfl;have HM:=ah hmm;have HN:=ah hn;have HDN:=ah hdn;have sV:=ah hR0;have HXL:=ah hxl;rw[hmm]at hl;have hm0:0<m:=by rw[<-hmm];exact List.length_pos_iff.2 hne
 clear hx1 hx0 Jc hbr Lg hm hmm hxl;have hS:=rA.start ER hP;have wL:=hR0;obtain⟨b0,hb0⟩:=aA (Y.bl z);have hbx:=(wL.box z hz).1;rw[hb0,hs]at hbx;generalize Y.vf z=zvf at hbx;generalize Y.va z=zva at hbx;generalize (B z).ib=MR at hbx;have R4:=hbx.lt
 have n0p:b0≠Y.pm:=λe=>by
  rw[e]at hbx;exact absurd (At.uniq hbx pU) eZ
 have b1:Below w.heap.size w ((w.alloc (.cells #[.int .i64 z,.int .i64 i0,.int .i64 i1] 75)).alloc (.cells #[.slice none 0 0,.int .i64 0] 120)):=Below.alloc' (Below.alloc' aF _) _;have A0:At ((w.alloc (.cells #[.int .i64 z,.int .i64 i0,.int .i64 i1] 75)).alloc (.cells #[.slice none 0 0,.int .i64 0] 120)) w.heap.size (.cells #[.int .i64 z,.int .i64 i0,.int .i64 i1] 75):=At.alloc (At.new _ _) _;have A4:At ((w.alloc (.cells #[.int .i64 z,.int .i64 i0,.int .i64 i1] 75)).alloc (.cells #[.slice none 0 0,.int .i64 0] 120)) (w.heap.size+1) (.cells #[.slice none 0 0,.int .i64 0] 120):=At.new' _ EM;have hS1:=hS.after b1;have Fh:=wL.keep hK b1;have Wo:=ah (aL.keep hbx b1);clear hdn hR0 wL hS pU hs hbx hfl ER hn;go_enter Tryz.func67,Tryz.ntmps67
 go_upto_region 1 with(fail)
 generalize (w.alloc (.cells #[.int .i64 z,.int .i64 i0,.int .i64 i1] 75)).alloc (.cells #[.slice none 0 0,.int .i64 0] 120)=w1 at *;have aeT:=A4.lt;have hsz:=b1.size;have hlk:=λX (h:Below w1.heap.size w1 X)=>(Fh.keep hK h).look hz;simp only[hb0]at hlk;obtain⟨lY,xw,xA,zu,zw,zy,zA⟩:=At.six Fh.lay;obtain⟨l0,aB,aC,bH⟩:=At.three A0;have hSd:Below w1.heap.size w1 w1.drew:=Below.drew aF;refine lF (S:=λX=>Below w1.heap.size w1 X) 8 ?_ ?_
 . exact hSd
 intro hx;clear hSd;refine aM 0 ?_;refine aM 1 ?_;refine aM 2 ?_;refine aM 3 ?_;refine aM 4 ?_;refine aM 5 ?_;refine rO 6 rfl (eB aX rfl rfl rfl (λX h=>hlk X h)) ?_;refine aM 7 ?_;refine ko ?_;have hx2:Below w1.heap.size w1 w1.drew:=hx;generalize w1.drew=w3 at *;have aar:=hx2.size;have uN:=hS1.after hx2;have B3:=A0.keep hx2;have C3:=A4.keep hx2;have Ac:=ah (aL.keep Wo.out hx2);have EW:=uN.ro qR sV.out hkm;have rF:Calls Tryz.prog 92 #[.pointer (some ⟨Y.lb,0,none⟩),.agg #[.int .i64 z,.int .i64 i0,.int .i64 i1]] w3 λe w'=>(∃R q cs,e=.returned (.slice (some ⟨R,q,none⟩) m m)/\w3.heap.size<=R/\At w' R (.cells cs 168)/\fE cs q wP)/\Below w3.heap.size w3 w':=by
  exact Z2p
 obtain⟨l0,aB,aC,bH⟩:=At.three B3;clear b1 A0 A4 hS1 Fh hlk xw xA zu zw zy zA lY hx EW hb0 Wo
 go_upto_region 4 with(go_at_call 92;(with_reducible refine rF.mono ?_);rintro e' w4 ⟨⟨R,q,cs,rfl,gR,Yp,RH⟩,hb4⟩)
 clear rF;have HI4:=ah RH;have Qk:=uN.after hb4;have B4:=B3.keep hb4;have C4:=C3.keep hb4;have LH:=ah (aL.keep Ac.out hb4);have acN:=hb4.size;have ru:w.heap.size+1<R:=by omega
 have VI:¬ P R:=λh=>by have:=hP R h;omega
 have n0R:b0≠R:=by omega
 have lR4:=Yp.lt;clear hb4 RH B3 C3 uN hx2 l0 aB aC bH Ac
 go_loopw [31] (λiv wr=>∃(k:Nat) (cs':Array Value),k<=m/\iv=.int .i64 k/\rA Y B F w P n P wr/\At wr R (.cells cs' 168)/\Hid (fE cs' q (DZ (rwG B i0) wP k))/\At wr w.heap.size (.cells #[.int .i64 z,.int .i64 i0,.int .i64 i1] 75)/\At wr (w.heap.size+1) (.cells #[.slice none 0 0,.int .i64 0] 120)/\Hid (aL wr b0 s zvf zva MR)) (λiv _=>m-(intOf iv).toNat)
 case atStart=>exact⟨0,cs,fC _,rfl,Qk,Yp,ah (by rw[D5];exact HI4.out),B4,C4,LH⟩
 case round =>
  clear Qk Yp B4 C4 LH HI4;obtain⟨k,cs',hk,rfl,hSr,hAr,hC,A0,A4,wz⟩:=hrel;by_cases hlt:k<m
  . have hltz:(k:Int)<(m:Int):=by omega
    have hkx:k<wP.length:=by rw[HL0.out];exact hlt
    have hkc:k<(DZ (rwG B i0) wP k).length:=by rw[j6];exact hkx
    have qG:=hC.out.at_ hAr hkc;rw[tT _ _ hkx]at qG;obtain⟨x,hx⟩:=aA (wP[k]);have mI:=ah (Wy.out x (hx▸List.getElem_mem _));rw[hx]at qG;have HX:=ah hx;have qx:=ah hSr;have hRr:=hSr.ro qR sV.out hkm;have hbx:=(hRr.box x.ld.id mI.out.d).1;rw[<-mI.out.bx]at hbx;obtain⟨sx,hsx⟩:=aA ((B x.ld.id).sty);rw[hsx]at hbx;generalize Y.vf x.ld.id=vf at hbx;generalize Y.va x.ld.id=va at hbx;generalize (B x.ld.id).ib=ib at hbx;have HSX:=ah hsx;have qE:=ah hbx;have BK:=hAr.lt;have n34:=sV.out.box x.ld.id mI.out.d;rw[<-mI.out.bx]at n34;have n4:x.bx≠R:=by have:=n34.1.lt;omega
    clear n34;clear hRr hbx hsx hx hSr
    go_upto_region 6 with(first|(refine dD aX _ rfl rfl (by with_reducible assumption) ?_)|(refine bX aX rfl ?_)|(refine bU aX _ _ rfl rfl rfl Z59 ?_))
    generalize hW:World.setRow _ _ _=W3;obtain⟨Q,hQ⟩:=aA wr.heap.size;have AQ:At W3 Q (.cells (nS x) 168):=hW▸hQ▸At.setRow (At.new _ _) _;have hb3:Below wr.heap.size wr W3:=hW▸bW (Below.alloc' aF _) aD _;have gQ:wr.heap.size<=Q:=Nat.le_of_eq hQ;rw[hQ];clear hW hQ qG;have B3:=A0.keep hb3;have JH:=ah (aL.keep qE.out hb3);have lbx:=aL.lt JH.out;have lQ:=AQ.lt;have cQ:W3.cell? ⟨Q,12,none⟩=some (.pointer (some ⟨x.bx,0,none⟩)):=(AQ.cell 12).trans rfl;have cb3:W3.cell? ⟨x.bx,3,none⟩=some (.int .i64 (sx.c 3)):=aL.int JH.out 3 aj rfl;have cb4:W3.cell? ⟨x.bx,4,none⟩=some (.int .i64 (sx.c 4)):=aL.int JH.out 4 aj rfl;have ahF:W3.cell? ⟨x.bx,53,none⟩=some (.int .i64 (sx.c 53)):=aL.int JH.out 53 aj rfl;obtain⟨l0,aB,aC,bH⟩:=At.three B3;have hSd:Below W3.heap.size W3 W3.drew:=Below.drew aF;refine lF (S:=λX=>Below W3.heap.size W3 X) 18 ?_ ?_
    . exact hSd
    intro hx;clear hSd;refine aM 0 ?_;refine aM 1 ?_;refine aM 2 ?_;refine aM 3 ?_;refine aM 4 ?_;refine aM 5 ?_;refine aM 6 ?_;refine aM 7 ?_;refine aM 8 ?_;refine aM 9 ?_;refine aM 10 ?_;refine aM 11 ?_;refine aM 12 ?_;refine aM 13 ?_;refine aM 14 ?_;refine aM 15 ?_;refine tk1 16 ?_;refine ak.Step.call dV (nI (sx.c 3) (sx.c 4) i0 (sx.c 53) _) ?_;rintro e' w5 ⟨rfl,hb⟩;replace hx:=Below.ay hx aD hb;clear hb;refine⟨_,rfl,λ_=>hx,?_⟩
    (try simp only[bL,bM,bN,tks])
    refine aM 17 ?_;refine ko ?_;have yZ:Below wr.heap.size wr w5:=Below.ay hb3 aD hx;have AQ5:=AQ.keep hx;have xK:=hAr.keep yZ;have hS5:=qx.out.after yZ;have B5:=A0.keep yZ;have C5:=A4.keep yZ;have Lp:=ah (aL.keep qE.out yZ);have FH:=ah (aL.keep wz.out yZ);clear cQ cb3 cb4 ahF lbx lQ l0 aB aC bH hx AQ JH B3 A0 A4 hAr wz qE qx hb3;obtain⟨base,hbase⟩:=aA (Fx.len (sx.c 3) (sx.c 4) i0 (sx.c 53));rw[hbase];obtain⟨it,hit⟩:=aA (Fw.EX sx 0 base i0)
    have oD:∀X,Calls Tryz.prog 93 #[.agg #[.int .i64 (sx.c 3),.int .i64 (sx.c 4),.int .i64 (sx.c 7),.int .i64 (sx.c 8),.int .i64 (sx.c 11),.int .i64 (sx.c 12)],.agg (cells sx),.int .i64 base,.int .i64 i0] X λe X'=>e=.returned (.agg (wI it))/\Below X.heap.size X X':=λX=>by
     rw[<-hit];exact Qf _ _ _ _ _ _ sx base i0 X
    have lbx:=aL.lt Lp.out;have Yn:=xK.lt;have lQ:=AQ5.lt;have cQ:w5.cell? ⟨Q,12,none⟩=some (.pointer (some ⟨x.bx,0,none⟩)):=(AQ5.cell 12).trans rfl;have nQ:Q≠R:=by omega
    have n2:w.heap.size≠R:=by omega
    obtain⟨l0,aB,aC,bH⟩:=At.three B5;have aaN:=ah (show q+k*17+5<=cs'.size by have:=hC.out.1;rw[j6]at this;have h2:k*17+17<=wP.length*17:=aj;omega);have hSd:Out (λb=>b=R) w5 w5.drew:=(Out.refl _ _).drew
    go_upto_region 7 with(fail)
    refine lF (S:=λX=>Out (λb=>b=R) w5 X) 21 ?_ ?_
    . exact hSd
    intro hx;clear hSd;refine jJ 0 ?_;refine jJ 1 ?_;refine jJ 2 ?_;refine jJ 3 ?_;refine jJ 4 ?_;refine jJ 5 ?_;refine jJ 6 ?_;refine rO 7 rfl (p8 (.tmp 59) aX rfl rfl (λX h=>At.out Lp.out n4 h)) ?_;refine jJ 8 ?_;refine jJ 9 ?_;refine jJ 10 ?_;refine jJ 11 ?_;refine rO 12 rfl (jd aX (.tmp 64) rfl rfl (λX h=>aL.style (At.out Lp.out n4 h))) ?_;refine jJ 13 ?_;refine jJ 14 ?_;refine jJ 15 ?_;refine jJ 16 ?_;refine tk1 17 ?_;refine ak.Step.call dV (oD _) ?_;rintro e' eG ⟨rfl,hb⟩;have LW:At eG R (.cells cs' 168):=At.keep (At.drew xK) hb;have Jd:Out (λb=>b=R) w5 eG:=Out.trans' ((Out.refl _ w5).drew) (Out.of_below (M:=λ_=>False) hb) λ_ _ q=>q.elim;refine⟨_,rfl,λ_=>Jd,?_⟩
    (try simp only[bL,bM,bN,tks])
    refine jJ 18 ?_;refine jJ 19 ?_;refine tk1 20 ?_;refine ak.Step.skip (fB (q:=q+k*17) zV (.tmp 72) (.tmp 70) rfl rfl rfl LW (iD it) aaN.out (Ct it)) ?_;have aaO:=At.setRow LW (splice cs' (q+k*17) (wI it));have uK:Out (λb=>b=R) eG (eG.setRow R (splice cs' (q+k*17) (wI it))):=Out.setRow (M:=λb=>b=R) (Out.refl _ _) rfl _;refine⟨λ_=>Jd.trans uK,?_⟩
    (try simp only[bL,bM,bN,tks])
    refine ko ?_;have JD:=Jd.trans uK;have Ei:=hC.out.abH hkc it;rw[tT _ _ hkx,HX.out]at Ei
    have ac1:Hid (fE (splice cs' (q+k*17) (wI it)) q (DZ (rwG B i0) wP (k+1))):=ah (by
     rw[<-yS _ _ hkx,HX.out];have e:rwG B i0 x={ x with it:=it }:=by
      unfold rwG Fw.jG;rw[HSX.out,<-hit,<-hbase]
     rw[e]
     exact Ei.1)
    have OC:=hS5.own (M:=λb=>b=R) JD λb hb h=>by subst h;exact⟨VI,by omega⟩
    have B14:=B5.out (M:=λb=>b=R) n2 JD;have C14:=C5.out (M:=λb=>b=R) aj JD;have Qo:=ah (At.out (M:=λb=>b=R) FH.out n0R JD);generalize eG.setRow R (splice cs' (q+k*17) (wI it))=uP at *;generalize splice cs' (q+k*17) (wI it)=cs4 at *;clear hx Ei xK LW Jd uK JD hS5 B5 C5 Lp FH l0 aB aC bH oD lbx Yn lQ cQ hbase hit hC AQ5 yZ;go_wp2
    go_roundw
    case rel=>exact⟨k+1,cs4,by omega,by go_num,OC,aaO,ac1,B14,C14,Qo⟩
    case measure=>simp[intOf];omega
  . obtain rfl:k=m:=by omega
    have R6:Hid (fE cs' q xs1):=ah (by
     have:=hC.out;rw[<-HL0.out,IY,<-HXG.out]at this
     exact this)
    have qx:=ah hSr;have HRR:=ah (hSr.ro qR sV.out hkm);have BK:=hAr.lt;obtain⟨l0,aB,aC,bH⟩:=At.three A0;have JA:=aL.lt wz.out;have ac2:wr.cell? ⟨b0,46,none⟩=some (.int .i64 (s.c 46)):=aL.int wz.out 46 aj rfl;have ahG:wr.cell? ⟨b0,45,none⟩=some (.bool (s.b 45)):=(At.cell wz.out 45).trans (by rw[Iz _ _ _ _ aj];rfl);clear hC hSr hlt
    go_upto_region 9 with(fail)
    have hSd:Below wr.heap.size wr wr.drew:=Below.drew aF;refine lF (S:=λX=>Below wr.heap.size wr X) 18 ?_ ?_
    . exact hSd
    intro hx;clear hSd;refine aM 0 ?_;refine aM 3 ?_;refine aM 4 ?_;refine aM 5 ?_;refine aM 6 ?_;refine aM 7 ?_;refine aM 8 ?_;refine aM 9 ?_;refine aM 10 ?_;refine aM 11 ?_;refine aM 12 ?_;refine aM 13 ?_;refine aM 14 ?_;refine aM 15 ?_;refine tk1 1 ?_;refine ak.Step.call dV (Lh 0 _) ?_;rintro e' w7 ⟨rfl,hw7⟩;have wX:Below wr.drew.heap.size wr.drew w7:=hw7▸Below.alloc' aF _;have AB:At w7 wr.drew.heap.size (.cells #[.int .i64 0] 3):=hw7▸At.new _ _;clear hw7;replace hx:=Below.ay hx aD wX;generalize wr.drew.heap.size=Bq at *;refine⟨_,rfl,λ_=>hx,?_⟩
    (try simp only[bL,bM,bN,tks])
    have oD:=acz #[.pointer (some ⟨Bq,0,none⟩)] (λi=>qA.getD i 0) (some ⟨R,q,none⟩) xs1 k w7 (R6.out.ims (hAr.keep hx)) (by rw[zZ.out];omega) (λi h X hb=>by
     have h':i<fl.length:=by have:=zZ.out;have:=HM.out;omega
     have ex:xs1[i]=rwI Y B i0 fl[i]:=by
      have e1:=QO.out;subst e1;simp
     have el:qA.getD i 0=Fw.wr (Fe.clamp (Fw.jG B i0 fl[i]) (Fw.jG B i0 fl[i]).b+Fw.wJ B i0 0 fl[i]):=by
      rw[<-HLO.out,List.getD,List.getElem?_map,List.getElem?_eq_getElem h'];rfl
     have ho:=I6.out xs1[i] (List.getElem_mem _);have hbx:=aL.keep ((HRR.out.box _ ho.d).1) (Below.ay hx aD hb);rw[<-ho.bx]at hbx;have h1:=Vo xs1[i] _ _ _ _ Bq X hbx ((hb.cell (p:=⟨Bq,0,none⟩) AB.lt).trans (AB.cell 0));rw[el];rw[ex]at h1 ⊢
     exact h1)
    rw[zZ.out]at oD;refine tk1 2 ?_;refine ak.Step.call dV oD ?_;rintro e' w8 ⟨⟨bt,rfl,gbt,hT⟩,wW⟩;replace hx:=Below.ay hx aD wW;refine⟨_,rfl,λ_=>hx,?_⟩
    (try simp only[bL,bM,bN,tks])
    have hIt:Ints w8 (some ⟨bt,0,none⟩) qA:=by
     have h1:=gM _ _ JK hT;have h2:=sF qA;rw[RN.out]at h2;rw[h2]at h1;exact h1
    have hs8:=hx.size;have Wz:=Sk (some ⟨bt,0,none⟩) qA k k i0 (s.c 46) (s.b 45) w8 hIt RN.out aj aD;rw[HBR.out]at Wz;refine tk1 16 ?_;refine ak.Step.call dV Wz ?_;rintro e' w9 ⟨v,rfl,hown,gV⟩;replace hx:=Below.ay hx aD gV;refine⟨_,rfl,λ_=>hx,?_⟩
    (try simp only[bL,bM,bN,tks])
    have abR:br≠[]:=by
     rw[<-HBR.out];unfold Li.brk;rw[Li.pW _ _ _ _ (by rw[RN.out];exact hm0)];exact List.cons_ne_nil _ _
    obtain⟨g,cbr,rfl,gg,Qp⟩:=Sl hown abR;refine aM 17 ?_;refine ko ?_;obtain⟨nb,hnb⟩:=aA br.length;rw[hnb];have HNB:=ah hnb;have aiM:nb<=64:=by
     have h1:=Li.CZ i0 (s.c 46) (s.b 45) qA;rw[HBR.out,hnb,RN.out]at h1;omega
    have gg2:wr.heap.size<=g:=by omega
    have afl:=ah Qp;have qF:=hAr.keep hx;have MQ:=qx.out.after hx;have B9:=A0.keep hx;have C9:=A4.keep hx;have LV:=ah (aL.keep wz.out hx);have hE:=HHH.out;rw[hnb]at hE;have HHE:=ah hE;have dH:=hx.size;clear oD Wz hIt hT gbt hown wX wW gV AB hx qx hAr A0 A4 wz HRR ac2 ahG JA l0 aB aC bH Qp hnb hE gg hs8 abR;obtain⟨l0,aB,aC,bH⟩:=At.three B9
    go_upto_if 93 with(fail)
    go_cut [11]from 91 to 97 (λv w2=>v=.int .i64 hh/\Below w9.heap.size w9 w2)
    case first =>
     by_cases hq:nb=1
     . have e1:=HHE.out
       rw[if_pos hq]at e1;have E1:=ah e1;have hq1:(nb:Int)=1:=by omega
       have hq2:((nb:Int)==1)=true:=by rw[hq1];rfl
       exact Z1o
     . have e1:=HHE.out
       rw[if_neg hq]at e1;have E1:=ah e1;have hq1:¬ (nb:Int)=1:=by omega
       have hq2:((nb:Int)==1)=false:=by rw[beq_eq_false_iff_ne];exact hq1
       exact Z1o
    case rest =>
     obtain⟨rfl,jy⟩:=hcut;have nV:=MQ.after jy;have oo:=qF.keep jy;have B10:=B9.keep jy;have MS:=C9.keep jy;have vM:=ah (aL.keep LV.out jy);have LX:=ah (BO.out (M:=λ_=>False) afl.out (Out.of_below jy) λh=>h);have RU:∀X,(Instr.build 120 #[]).run Tryz.prog X=.ok (.agg #[.slice none 0 0,.int .i64 0]) X:=λ_=>by kernel_rfl
     have afm:=jy.size;clear MQ qF B9 C9 LV afl jy l0 aB aC bH HHE
     go_upto_region 15 with(fail)
     generalize hW:World.alloc _ _=cZ;obtain⟨Cb,hCb⟩:=aA wc.heap.size;have AC:At cZ Cb (.cells #[.slice none 0 0,.int .i64 0] 120):=hW▸At.new' _ hCb.symm;have fQ:Below wc.heap.size wc cZ:=hW▸Below.alloc' aF _;rw[hCb];have rD:=nV.after fQ;have pz:=oo.keep fQ;have B11:=B10.keep fQ;have LM:=MS.keep fQ;have vN:=ah (aL.keep vM.out fQ);have WA:=ah (BO.out (M:=λ_=>False) LX.out (Out.of_below fQ) λh=>h);obtain⟨N5,TL⟩:=aA cZ.heap.size;have lC5:Cb<N5:=by have:=AC.lt;omega
     have Yn:R<N5:=by have:=pz.lt;omega
     have lg5:g<N5:=by have:=WA.out.1;omega
     have nCR:Cb≠R:=by have:=oo.lt;omega
     have nCg:Cb≠g:=by have:=LX.out.1;omega
     have nRg:R≠g:=by omega
     have nC0:b0<R:=by omega
     have nCw:w.heap.size+1<Cb:=by have:=MS.lt;omega
     have HN5:=ah TL;have Cr:=ah (show∀b,P b->b<w.heap.size from hP);have H0:Hid (br.drop 0=Li.tail i0 (s.c 46) (s.b 45) qA 0/\0<=k/\([]:List Fw.Ld).length=0/\(xs,hi)=([]++(Fw.aY B (Fw.lay B f) z i0 i1 hh fl (decide (0=0)) 0 (br.drop 0)).1,(Fw.aY B (Fw.lay B f) z i0 i1 hh fl (decide (0=0)) 0 (br.drop 0)).2)):=ah ⟨by rw[<-HBR.out];rfl,fC _,rfl,by rw[<-HMR.out];rfl⟩;clear hW RU fQ nV oo B10 MS vM LX hCb TL afm dH
     go_loopw [100] (λiv wr=>∃(k2 n':Nat) (P':Nat->Prop) (cs2:Array Value) (v:Value) (y:Int) (out:List Fw.Ld) (at_:Nat),k2<=nb/\iv=.int .i64 k2/\Hid (br.drop k2=Li.tail i0 (s.c 46) (s.b 45) qA at_/\at_<=k/\out.length=at_/\(xs,hi)=(out++(Fw.aY B (Fw.lay B f) z i0 i1 hh fl (decide (k2=0)) y (br.drop k2)).1,(Fw.aY B (Fw.lay B f) z i0 i1 hh fl (decide (k2=0)) y (br.drop k2)).2))/\n'<=n+2*jh B f xs1 at_/\rA Y B F w P n' P' wr/\Hid (∀b,b<N5->P' b->P b)/\N5<=wr.heap.size/\At wr R (.cells cs2 168)/\Hid (fE cs2 (q+at_*17) (xs1.drop at_))/\At wr Cb (.cells #[v,.int .i64 y] 120)/\Hid (wr.ownsRow N5 77 7 v out.length (wO out))/\Hid (∀b,v.ownBlock=some b->¬ P' b)/\At wr w.heap.size (.cells #[.int .i64 z,.int .i64 i0,.int .i64 i1] 75)/\At wr (w.heap.size+1) (.cells #[.slice none 0 0,.int .i64 0] 120)/\Hid (aL wr b0 s zvf zva MR)/\Hid (BO wr g br)) (λiv _=>nb-(intOf iv).toNat)
     case atStart=>exact⟨0,n,P,cs',.slice none 0 0,0,[],0,fC _,rfl,H0,by omega,rD,ah λb _ h=>h,by rw[HN5.out];exact aG _,pz,ah (by simpa using R6.out),AC,ah (World.ownsRow_nil _ _ _ _),ah (λb h=>by simp[Value.ownBlock]at h),B11,LM,vN,WA⟩
     case round =>
      clear rD pz AC B11 LM vN WA H0 R6;obtain⟨k2,n',P',cs2,v,y,out,at_,hk2,rfl,hTT,hn',hSr,xP,ES,hAr,hC,AC,hown,Yh,A0,A4,wz,Qp⟩:=hrel;by_cases hlt:k2<nb
      . have hltz:(k2:Int)<(nb:Int):=by omega
        have ZX:Hid (k2<nb):=ah hlt;have hkb:k2<br.length:=by rw[HNB.out];exact hlt
        have hat:at_<qA.length:=Classical.byContradiction λh=>by
         have h1:=hTT.out.1;rw[Li.oN _ _ _ _ aj]at h1;have h2:=congrArg List.length h1;rw[List.length_drop]at h2;simp at h2;omega
        obtain⟨en,hen⟩:=aA (Li.stop i0 (s.c 46) (s.b 45) qA at_);have hgt:at_<en:=by rw[<-hen];exact Li.vY _ _ _ _ _
        have hle:en<=k:=by rw[<-hen,<-RN.out];exact Li.Ce _ _ _ _ hat
        have hdr:br.drop k2=(at_,en)::Li.tail i0 (s.c 46) (s.b 45) qA en:=by rw[hTT.out.1,Li.pW _ _ _ _ hat,hen]
        have hb2:br[k2]=(at_,en)/\br.drop (k2+1)=Li.tail i0 (s.c 46) (s.b 45) qA en:=by
         rw[List.drop_eq_getElem_cons hkb]at hdr;injection hdr with h1 h2;exact⟨h1,h2⟩
        obtain⟨lg,hpc⟩:=Qp.out;have hp2:=hpc k2 hkb;rw[hb2.1]at hp2;obtain⟨cg0,cg1⟩:=hp2;have HB2:=ah hb2;have HDR:=ah hdr;have qx:=ah hSr;obtain⟨y1,hy1⟩:=aA ((if (decide (k2=0))=true then y else Fw.wr (y+s.c 46)));have HY1:=ah hy1;clear hpc hb2 hdr hen hSr hy1 hat
        go_upto_region 17 with(fail)
        generalize hW:World.alloc _ _=W2;obtain⟨L,hL2⟩:=aA wr.heap.size;have AL:At W2 L (.cells #[.int .i64 (at_:Int),.int .i64 (en:Int)] 44):=hW▸At.new' _ hL2.symm;have hb2:Below wr.heap.size wr W2:=hW▸Below.alloc' aF _;have gL:N5<=L:=by omega
        rw[hL2];have AC2:=AC.keep hb2;have ac3:=ah (aL.keep wz.out hb2);have lCb:=AC2.lt;clear hW hL2 lg cg0 cg1
        go_upto_if 106 with(fail)
        go_cut []from 105 to 116 (λw2=>At w2 Cb (.cells #[v,.int .i64 y1] 120)/\Out (λb=>b=Cb) W2 w2)
        case first =>
         by_cases hk0:k2=0
         . have ac0:¬ (0:Int)<(k2:Int):=by omega
           have e1:=HY1.out;rw[if_pos (by simp[hk0])]at e1;have E1:=ah e1;clear e1 hk0;go_wp2
           go_meet
           case rel=>exact⟨by rw[<-E1.out];exact AC2,Out.refl _ _⟩
         . have ac0:(0:Int)<(k2:Int):=by omega
           have e1:=HY1.out;rw[if_neg (by simp[hk0]),<-rH]at e1;have E1:=ah e1;have ac2:W2.cell? ⟨b0,46,none⟩=some (.int .i64 (s.c 46)):=aL.int ac3.out 46 aj rfl;have JA:=aL.lt ac3.out;obtain⟨lC,FJ,FK⟩:=At.two AC2;have zC1:=AC2.thaw 1;clear e1 hk0
           go_upto_region 18 with(fail)
           have hSd:Below W2.heap.size W2 W2.drew:=Below.drew aF;refine lF (S:=λX=>Below W2.heap.size W2 X) 9 ?_ ?_
           . exact hSd
           intro hx;clear hSd;refine aM 0 ?_;refine aM 1 ?_;refine aM 2 ?_;refine aM 3 ?_;refine aM 4 ?_;refine aM 5 ?_;refine aM 6 ?_;refine aM 7 ?_;refine aM 8 ?_;refine tk1 9 ?_;refine ak.Step.skip dV ?_;generalize hW:World.setCell _ _ _=W3;have AC3:At W3 Cb (.cells #[v,.int .i64 y1] 120):=by
            rw[<-hW,<-E1.out];exact At.set AC2 1 _
           have hO3:Out (λb=>b=Cb) W2 W3:=by
            rw[<-hW];exact Out.set (M:=λb=>b=Cb) (Out.refl _ _) rfl 1 _
           refine⟨by intro hlt;exact absurd hlt aH,?_⟩
           (try simp only[bL,bM,bN,tks])
           refine ko ?_;clear hW lC FJ FK zC1 hx ac2 JA;go_wp2
           go_meet
           case rel=>exact⟨At.drew AC3,Out.drew hO3⟩
        case rest =>
         obtain⟨AC3,hO3⟩:=hcut;have hPC:¬ P' Cb:=λh=>by have:=Cr.out _ (xP.out _ lC5 h);omega
         have wM:¬ P' R:=λh=>by have:=Cr.out _ (xP.out _ Yn h);omega
         have uN:=(qx.out.after hb2).own hO3 λb hb h=>by subst h;exact⟨hPC,by omega⟩
         have hOA:Out (λb=>b=Cb) wr wc:=(Out.of_below hb2).trans hO3;have hA3:=hAr.out (M:=λb=>b=Cb) (Ne.symm nCR) hOA;have B3:=A0.out (M:=λb=>b=Cb) aj hOA;have C3:=A4.out (M:=λb=>b=Cb) aj hOA;have Ac:=ah (At.out (M:=λb=>b=Cb) wz.out aj hOA);have afn:=ah (BO.out (M:=λb=>b=Cb) Qp.out hOA (Ne.symm nCg));have AL3:=AL.out (M:=λb=>b=Cb) aj hO3;have hown3:=ah (bJ (M:=λb=>b=Cb) hown.out (λg' hg' e=>by have:=(hown.out.lt g' hg').1;omega) hOA);have hN3:N5<=wc.heap.size:=aJ ES hOA.size;obtain⟨lL,cL0,cL1⟩:=At.two AL3;have hcp:¬ k=at_:=by omega
         have hle1:at_<=en:=by omega
         have hle3:at_<=k:=by omega
         have afo:(at_:Int)<=(en:Int):=by omega
         have afp:(en:Int)<=(k:Int):=by omega
         clear AC2 ac3 AL hO3 hOA hAr A0 A4 wz Qp hown hb2 qx lCb;obtain⟨d,hd⟩:=aA (en-at_);have hd0:0<d:=by omega
         have aja:d<=64:=by omega
         have Tn:Hid (at_+d=en):=ah aj
         go_upto_region 20 with(fail)
         have HD:=ah hd;clear hd hle1 hle3 afo afp hcp cL0 cL1 lL AL3;obtain⟨xsl,Sn⟩:=aA ((xs1.drop at_).take d);have ac4:xsl.length=d:=by rw[<-Sn,List.length_take,List.length_drop,zZ.out];have:=Tn.out;omega
         obtain⟨X1,hX1⟩:=aA (Ea B f s i0 i1 hh xsl);obtain⟨deep,PU⟩:=aA (I4 hh X1);obtain⟨X2,hX2⟩:=aA (tX B f s i0 i1 deep X1);obtain⟨bs,hbs⟩:=aA (tY s i0 deep X2);have hmap:xsl=((fl.drop at_).take d).map (rwI Y B i0):=by rw[<-Sn,QO.out,<-List.map_drop,<-List.map_take]
         have HRL:Hid (Fw.eX B (Fw.lay B f) z i0 i1 hh ((fl.drop at_).take d)=(bs.map (·.ld),deep)):=ah (by
          rw[<-hbs]
          exact FD Y B f z i0 i1 hh _ s HSS.out X1 X2 deep (by rw[<-hmap];exact hX1) PU hX2)
         have HBL:Hid (bs.length=d):=ah (by
          have h1:X1.length=d:=by rw[<-hX1];unfold Ea;rw[List.length_mapIdx,ac4]
          have h2:X2.length=d:=by
           rw[<-hX2];unfold tX;split
           . rw[List.length_map,h1]
           . exact h1
          rw[<-hbs];unfold tY
          rw[List.length_mapIdx,h2])
         have hcs:jh B f xsl xsl.length+jh B f xs1 at_=jh B f xs1 en:=by
          unfold jh;rw[List.take_length,<-Sn,<-Tn.out,List.take_add,List.map_append,List.sum_append];omega
         have hcs2:=wC B f xs1 en;rw[zZ.out,HCS.out]at hcs2;have hnn:=HN.out;have Sq:=aeG hL hK qR sV.out hkm R (q+at_*17) (k-at_) z i0 i1 hh hz xsl cs2 wc n' P' uN hA3 (by rw[<-Sn];exact hC.out.front (by rw[List.length_drop,zZ.out];have:=Tn.out;omega)) (λx hx=>I6.out x (List.mem_of_mem_drop (List.mem_of_mem_take (Sn.symm▸hx)))) wM aj aj aj s HSS.out X1 X2 deep hX1 PU hX2;rw[ac4,hbs]at Sq;rw[ac4]at hcs;obtain⟨l0,aB,aC,bH⟩:=At.three B3;have hC3:=ah hC.out;clear hX1 PU hX2 hbs hmap Sn uN hA3 hC
         go_upto_region 22 with(go_at_call 97;(with_reducible refine Sq.mono ?_);rintro e' w6 ⟨rfl,n2,P2,z8,hn2,zo,rC,hP2,xL,hI6,hM6,mP⟩)
         have hs6:=mP.size;have npm:Y.pm<w.heap.size:=hpl;have GK:∀b,b≠R->w.heap.size<=b->¬ (b=Y.pm\/b=R):=λb h1 h2 h=>by rcases h with h|h<;>omega
         have AC6:=AC3.out (GK Cb nCR aj) mP;have B6:=B3.out (GK _ aj aj) mP;have C6:=C3.out (GK _ aj aj) mP;have LJ:=ah (At.out (M:=λb=>b=Y.pm\/b=R) Ac.out (by rintro(h|h);exact n0p h;exact n0R h) mP);have afq:=ah (BO.out afn.out mP (GK g (Ne.symm nRg) aj));have hown6:=ah (bJ (M:=λb=>b=Y.pm\/b=R) hown3.out (λg' hg'=>GK g' (by have:=(hown3.out.lt g' hg').1;omega) (by have:=(hown3.out.lt g' hg').1;omega)) mP);have ac5:Hid (∀b,b<N5->P2 b->P b):=ah λb hb h=>xP.out b hb (hP2 b aj h);have afr:Hid (∀b,v.ownBlock=some b->¬ P2 b):=ah λb h hp=>Yh.out b h (hP2 b (hown3.out.lt b h).2 hp)
         have ahH:Hid (fE z8 (q+en*17) (xs1.drop en)):=ah (by
          have h1:=hC3.out.rest hM6 (by rw[List.length_drop,zZ.out];have:=Tn.out;omega);rw[List.drop_drop,Tn.out]at h1;have e:q+at_*17+d*17=q+en*17:=by have:=Tn.out;omega
          rw[e]at h1
          exact h1)
         have HI6:=ah hI6;have hN6:N5<=w6.heap.size:=aJ hN3 hs6;have HN2:Hid (n2<=n+2*jh B f xs1 en):=ah aj;obtain⟨sh,hsh⟩:∃l:List Fw.Ld,(bs.map (·.ld)).map (λx=>{ x with a1:=Fw.wr (x.a1+y1) })=l:=⟨_,rfl⟩;have HSH:=ah hsh;have HSL:Hid (sh.length=d):=ah (by rw[<-hsh,List.length_map,List.length_map,HBL.out]);have HOL:=ah hTT.out.2.2.1;clear Sq hn2 hP2 hI6 hM6 mP AC3 B3 C3 Ac afn hown3 Yh xP hN3 GK hsh hcs hcs2 hn' hC3 l0 aB aC bH wM hPC ES
         go_loopw [129] (λiv wr=>∃(i:Nat) (v3:Value),i<=d/\iv=.int .i64 i/\rA Y B F w P n2 P2 wr/\At wr R (.cells z8 168)/\At wr Cb (.cells #[v3,.int .i64 y1] 120)/\Hid (wr.ownsRow N5 77 7 v3 (out++sh.take i).length (wO (out++sh.take i)))/\Hid (∀b,v3.ownBlock=some b->¬ P2 b)/\At wr w.heap.size (.cells #[.int .i64 z,.int .i64 i0,.int .i64 i1] 75)/\At wr (w.heap.size+1) (.cells #[.slice none 0 0,.int .i64 0] 120)/\Hid (aL wr b0 s zvf zva MR)/\Hid (BO wr g br)/\N5<=wr.heap.size) (λiv _=>d-(intOf iv).toNat)
         case atStart=>exact⟨0,v,fC _,rfl,zo,xL,AC6,ah (by simpa using hown6.out),afr,B6,C6,LJ,afq,hN6⟩
         case round =>
          clear zo xL AC6 hown6 afr B6 C6 LJ afq hN6;obtain⟨i,v3,ajb,rfl,hSr,hAr,AC,hown,Yh,A0,A4,wz,Qp,ES⟩:=hrel;by_cases hlt:i<d
          . have hltz:(i:Int)<(d:Int):=by omega
            have hix:i<bs.length:=by rw[HBL.out];exact hlt
            have qG:=HI6.out.at_ hAr hix;obtain⟨x,hx⟩:=aA (bs[i]);rw[hx]at qG;have HX:=ah hx;have qx:=ah hSr;have aaP:=ah hSr.lt;have BK:=hAr.lt;clear hx hSr
            go_upto_region 24 with(first|(refine dD aX _ rfl rfl (by with_reducible assumption) ?_)|(refine bX aX rfl ?_)|(refine bU aX _ _ rfl rfl rfl Z59 ?_))
            generalize hW:World.setRow _ _ _=W3;obtain⟨Q,hQ⟩:=aA wr.heap.size;have AQ:At W3 Q (.cells (nS x) 168):=hW▸hQ▸At.setRow (At.new _ _) _;have hb3:Below wr.heap.size wr W3:=hW▸bW (Below.alloc' aF _) aD _;have gQ:wr.heap.size<=Q:=Nat.le_of_eq hQ;rw[hQ];clear hW hQ qG BK;obtain⟨p,hp⟩:=aA (IntKind.i64.wrap (x.ld.a1+y1));obtain⟨y',hy'⟩:∃y:Fw.Ld,{ x.ld with a1:=p }=y:=⟨_,rfl⟩
            have HTK:Hid (sh.take (i+1)=sh.take i++[y']):=ah (by
             have hxi:i<sh.length:=by rw[HSL.out];exact hlt
             rw[List.take_succ_eq_append_getElem hxi];congr 2;have e:=HSH.out;have e2:sh[i]={ bs[i].ld with a1:=Fw.wr (bs[i].ld.a1+y1) }:=by subst e;simp
             rw[e2,HX.out,<-rH,hp,hy'])
            have AC3:=AC.keep hb3;have lQ:=AQ.lt;have c11:W3.cell? ⟨Q,11,none⟩=some (.int .i64 x.ld.a1):=(AQ.cell 11).trans rfl;have z11:=AQ.thaw 11;obtain⟨lC,FJ,FK⟩:=At.two AC3
            go_upto_region 25 with(fail)
            generalize hW:World.setCell _ _ _=W9;have AQ9:At W9 Q (.cells (nS { x with ld:=y' }) 168):=by
             rw[<-hW,<-hy'];exact At.set AQ 11 _
            have gV:Below wr.heap.size wr W9:=by
             rw[<-hW];exact Below.setCell hb3 gQ _
            clear hW lQ c11 z11 AQ hb3 hp hy' AC3 lC FJ FK;have LY:=bJ (M:=λ_=>False) hown.out (λ_ _ q=>q) (Out.of_below gV);have Yk:=gV.size;obtain⟨g',c',w',hr,hown',hOa,hgg⟩:=Oy y' LY aj (by rw[List.length_append,HOL.out,List.length_take,HSL.out];omega);obtain⟨ln,hln⟩:=aA ((out++sh.take i).length+1);rw[hln]at hr hown';clear hln;have hrun:=ah hr
            have hQL:∀j,j<7->W9.cell? ⟨Q,5+j,none⟩=(eH y')[j]? := λj hj=>by
             rw[AQ9.cell];exact Z2r
            have WB:∀b,v3.ownBlock=some b->N5<=b:=λb h=>(hown.out.lt b h).1;have Yt:=AC.keep gV;have ACn:At w' Cb (.cells #[v3,.int .i64 y1] 120):=At.out (M:=λb=>v3.ownBlock=some b) (Yt.alloc _) (λh=>by have:=WB Cb h;omega) hOa;obtain⟨lC9,ac6,ac7⟩:=At.two Yt;obtain⟨lCn,ac8,ac9⟩:=At.two ACn;have ac':=ACn.thaw 0;have lQ9:=AQ9.lt;have HQL:=ah hQL;clear hr LY hQL
            go_upto_region 26 with(first|(refine eY zU og aX _ rfl rfl (dG y') HQL.out ?_)|(refine uG aX _ rfl rfl ?_)|(at_builtin;refine wpList_append_run aX _ _ 118 rfl rfl rfl hrun.out ?_))
            generalize hW:World.setCell _ _ _=LK;have yY:At LK Cb (.cells #[.slice (some ⟨g',0,none⟩) ln c',.int .i64 y1] 120):=hW▸At.set ACn 0 _;have LZ:Out (λb=>b=Cb) w' LK:=hW▸Out.set (M:=λb=>b=Cb) (Out.refl _ _) rfl 0 _
            have OH:Hid (LK.ownsRow N5 77 7 (.slice (some ⟨g',0,none⟩) ln c') (out++sh.take (i+1)).length (wO (out++sh.take (i+1)))):=ah (by
             rw[HTK.out,<-List.append_assoc]
             exact bJ (M:=λb=>b=Cb) hown' (λg hg e=>by have:=(hown'.lt g hg).1;omega) LZ)
            have afs:Hid (∀b,(Value.slice (some ⟨g',0,none⟩) ln c').ownBlock=some b->¬ P2 b):=ah λb h hp=>by
             have e:g'=b:=by simpa[Value.ownBlock]using h
             subst e;rcases hgg with h1|h1
             . exact Yh.out _ h1 hp
             . have:=aaP.out _ hp;omega
            have L6:Out (λb=>v3.ownBlock=some b\/b=Cb) wr LK:=(Out.of_below (Below.alloc' gV _)).trans ((hOa.mono λb _ h => .inl h).trans (LZ.mono λb _ h => .inr h))
            have hoff:∀b,b<N5->b≠Cb->¬ (v3.ownBlock=some b\/b=Cb):=λb hb hn h=>by
             rcases h with h|h
             . have:=WB b h;omega
             . exact hn h
            have nV:=qx.out.own L6 λb hb h=>by
             rcases h with h|h
             . have h1:=WB b h
               exact⟨Yh.out b h,by omega⟩
             . subst h
               exact⟨λhp=>by have:=Cr.out _ (ac5.out _ lC5 hp);omega,by omega⟩
            have oo:=hAr.out (hoff R Yn (Ne.symm nCR)) L6;have B10:=A0.out (hoff _ aj aj) L6;have MS:=A4.out (hoff _ aj aj) L6;have vM:=ah (At.out wz.out (hoff b0 aj aj) L6);have LX:=ah (BO.out Qp.out L6 (hoff g lg5 (Ne.symm nCg)));have Ed:N5<=LK.heap.size:=aJ ES L6.size;clear hW ACn LZ hown' hOa L6 hoff Yt lC9 ac6 ac7 lCn ac8 ac9 ac' lQ9 HQL gV Yk AQ9 hown hAr A0 A4 AC wz Qp hrun Yh hgg;go_wp2
            go_roundw
            case rel=>exact⟨i+1,_,by omega,by go_num,nV,oo,yY,OH,afs,B10,MS,vM,LX,Ed⟩
            case measure=>simp[intOf];omega
          . obtain rfl:i=d:=by omega
            have hfull:sh.take i=sh:=List.take_of_length_le (by rw[HSL.out];exact aG _);rw[hfull]at hown;have lC:=AC.lt;obtain⟨lC,FJ,FK⟩:=At.two AC;have zC1:=AC.thaw 1;obtain⟨y2,hy2⟩:=aA (IntKind.i64.wrap (y1+deep))
            go_upto_region 28 with(fail)
            generalize hW:World.setCell _ _ _=Sj;have Ee:At Sj Cb (.cells #[v3,.int .i64 y2] 120):=hW▸At.set AC 1 _;have LZ:Out (λb=>b=Cb) wr Sj:=hW▸Out.set (M:=λb=>b=Cb) (Out.refl _ _) rfl 1 _
            have uJ:=hSr.own LZ λb hb h=>by
             subst h;exact⟨λhp=>by have:=Cr.out _ (ac5.out _ lC5 hp);omega,by omega⟩
            have L8:=hAr.out (M:=λb=>b=Cb) (Ne.symm nCR) LZ;have Yr:=A0.out (M:=λb=>b=Cb) aj LZ;have JE:=A4.out (M:=λb=>b=Cb) aj LZ;have GI:=ah (At.out (M:=λb=>b=Cb) wz.out aj LZ);have aft:=ah (BO.out (M:=λb=>b=Cb) Qp.out LZ (Ne.symm nCg));have ada:=ah (bJ (M:=λb=>b=Cb) hown.out (λg' hg' e=>by have:=(hown.out.lt g' hg').1;omega) LZ);have FL:N5<=Sj.heap.size:=aJ ES LZ.size
            have ahI:Hid (br.drop (k2+1)=Li.tail i0 (s.c 46) (s.b 45) qA en/\en<=k/\(out++sh).length=en/\(xs,hi)=((out++sh)++(Fw.aY B (Fw.lay B f) z i0 i1 hh fl (decide (k2+1=0)) y2 (br.drop (k2+1))).1,(Fw.aY B (Fw.lay B f) z i0 i1 hh fl (decide (k2+1=0)) y2 (br.drop (k2+1))).2)):=ah ⟨HB2.out.2,hle,by rw[List.length_append,HOL.out,HSL.out];have:=Tn.out;omega,by
             have h1:=hTT.out.2.2.2;rw[HDR.out,<-HB2.out.2]at h1;have h2:=FE (y1:=y1) (l:=bs.map (·.ld)) (d:=deep) h1 (by rw[HSS.out];exact HY1.out) (by rw[show((at_,en):Nat×Nat).2-((at_,en):Nat×Nat).1=i from HD.out];exact HRL.out);rw[HSH.out,<-rH,hy2]at h2
             exact h2⟩
            clear hW lC FJ FK zC1 LZ hown hAr A0 A4 AC wz Qp hSr hfull hy2;go_wp2
            go_roundw
            case rel=>exact⟨k2+1,n2,P2,z8,v3,y2,out++sh,en,by have:=ZX.out;omega,by go_num,ahI,HN2.out,uJ,ac5,FL,L8,ahH,Ee,ada,Yh,Yr,JE,GI,aft⟩
            case measure=>have:=ZX.out;simp[intOf];omega
      . obtain rfl:k2=nb:=by omega
        have hend:br.drop k2=[]:=by rw[<-HNB.out];exact List.drop_length
        have h4:=hTT.out.2.2.2;rw[hend,I9,List.append_nil]at h4;have hxo:xs=out/\hi=y:=by injection h4 with h1 h2;exact⟨h1,h2⟩
        obtain⟨Rr,cap,csr,rfl,WB,gR',AR,GH⟩:=LC hown.out (by rw[<-hxo.1];exact HXL.out);obtain⟨lC,FJ,FK⟩:=At.two AC;obtain⟨l4,fF,fG⟩:=At.two A4;have iQ:=A4.thaw 0;have iR:=A4.thaw 1;have lw:w.heap.size+1<wr.heap.size:=A4.lt;have HRC:=ah GH;have qx:=ah hSr;have HXO:=ah hxo;have adb:=ah (Yh.out Rr rfl);have hPN:=ah (show¬ P' (w.heap.size+1)from λh=>by have:=Cr.out _ (xP.out _ aj h);omega)
        have HN2:Hid (n'<=n+2*(fl.map (Fw.cst B f)).sum):=ah (by
         have h1:=wC B f xs1 at_;rw[zZ.out,HCS.out]at h1
         omega)
        clear GH hown hSr hAr A0 wz Qp h4 hxo hend;go_wp2;generalize hW:World.setCell _ _ _=W6;replace A4:At W6 (w.heap.size+1) (.cells #[.slice (some ⟨Rr,0,none⟩) out.length cap,.int .i64 y] 120):=hW▸At.set (At.set A4 0 _) 1 _;have TI:Out (λb=>b=w.heap.size+1) wr W6:=by
         exact Z2s
        clear hW fF fG iQ iR lC FJ FK AC;have AR6:=AR.out (M:=λb=>b=w.heap.size+1) aj TI;have zo:=qx.out.own TI λb hb h=>by subst h;exact⟨hPN.out,by omega⟩
        obtain⟨l4,fF,fG⟩:=At.two A4;have mP:=zo.fin;have JG:=zo.kp;have hNw:=zo.new;refine bodyPost_ret (v:=.agg #[.slice (some ⟨Rr,0,none⟩) out.length cap,.int .i64 y]) (by simp[results,Tryz.results67,go_sem,fF,fG,l4];first|done|exact⟨rfl,rfl⟩|rfl) rfl ⟨Rr,cap,csr,P',n',by rw[HXO.out.1,HXO.out.2],by omega,AR6,by rw[HXO.out.1];exact HRC.out,HN2.out,JG,hNw,adb.out,mP⟩
end
end Go.Proofs.YtmidaiklolmkcaaGreat.Fix
