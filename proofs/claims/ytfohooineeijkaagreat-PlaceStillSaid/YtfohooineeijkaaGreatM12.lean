/- Steps of the program (12); no conditions. -/
import Derived.Test.YtfohooineeijkaaGreatM11
set_option linter.all false
set_option maxRecDepth 100000
set_option maxHeartbeats 16000000
namespace Go.Proofs.YtfohooineeijkaaGreat.Fix
open Go.ChangeShapes Go.WideShapes Go.ChangeAt Go.RowKit
open Go.Proofs.Tryz renaming prog → ja0
open World renaming alloc → ja4,setCell → ja5,setRow → jb5
open List renaming getElem?_eq_getElem → ja6,length_append → ja7,take_of_length_le → jb6,length_map → jb7,getElem?_map → jc0,getElem_mem → jc2,take_succ_eq_append_getElem → jc8,length_take → jc9
def Cc(W:World)(g:Nat)(l:List (Nat×Nat)):Prop:=g<W.heap.size/\∀k (h:k<l.length),W.cell? ⟨g,k*2,none⟩=some (.int .i64 (l[k].1:Int))/\W.cell? ⟨g,k*2+1,none⟩=some (.int .i64 (l[k].2:Int))
theorem Cc.out{M:Nat->Prop}{W W':World}{g:Nat}{l:List (Nat×Nat)}(h:Cc W g l)(k:Out M W W')(hm:¬ M g):Cc W' g l:=⟨aU h.1 k.size,λi hi=>⟨(Out.cell k _ h.1 hm).trans (h.2 i hi).1,(Out.cell k _ h.1 hm).trans (h.2 i hi).2⟩⟩
theorem UE{W:World}{base:Nat}{v:Value}{l:List (Nat×Nat)}(h:W.ownsRow base 57 2 v l.length ((Li.flat l).map (Value.int .i64)))(hn:l≠[]):∃g c,v=.slice (some ⟨g,0,none⟩) l.length c/\base<=g/\Cc W g l:=by
 rcases h.2 with⟨rfl,h0⟩|⟨g,cap,cur,rfl,hb,hgb,hnc,hcm,hsz,htk⟩
 . exact absurd (List.length_eq_zero_iff.1 h0) hn
 . have hA:At W g (.cells cur 57):=hgb
   have key:∀i (x:Int),i<l.length*2->(Li.flat l)[i]? = some x->W.cell? ⟨g,i,none⟩=some (.int .i64 x):=λi x hi hx=>by
    have e:((Li.flat l).map (Value.int .i64))[i]? = some (.int .i64 x):=by rw[jc0,hx];rfl
    rw[<-htk,List.getElem?_take,if_pos hi,Array.getElem?_toList]at e;rw[hA.cell];exact e
   exact⟨g,cap,rfl,hb,hA.lt,λk hk=>⟨key _ _ ak (Li.flat_get l hk).1,key _ _ ak (Li.flat_get l hk).2⟩⟩
section
variable {Y:pU} {B:Int->Fw.Bx} {F:Int->Nat} {D:Int->Prop} {KM:World->Nat->Prop} {f:Nat} {w:World} {P:Nat->Prop}
def rwG(B:Int->Fw.Bx)(i0:Int)(x:Im):Im:={ x with it:=Fw.tY B i0 x.ld.id }
theorem abD{i0:Int}{x:Im}(h:Ml Y B D F f i0 x):Ml Y B D F f i0 (rwG B i0 x):=⟨h.d,h.f,h.bx,h.m0,h.m1,h.m2,h.m3⟩
theorem abE(Y:pU)(B:Int->Fw.Bx)(i0:Int)(fl:List Int):(gD Y B i0 fl).map (rwG B i0)=fl.map (rwI Y B i0):=by unfold gD;rw[List.map_map];rfl
theorem aiQ(hL:vG Y B F D KM f)(hK:∀(X X':World) (b:Nat),KM X b->Below X X X'->KM X' b)(rT:∀(X X':World) (b:Nat),KM X b->Out (λq=>q≠b) X X'->KM X' b)(hR0:RO w Y B D KM)(hkm:Y.km<w.heap.size)
  (z i0 i1:Int) (hz:D z) (hdn:∀k∈(B z).fl,D k/\F k=f) (hne:(B z).fl≠[]) (hl:(B z).fl.length<=64) (n:Nat) (FB:Kp Y B F n P w) (hP:∀b,P b->b<w.heap.size) (hn:n+2*((B z).fl.map (Fw.cst B f)).sum<maxLen) (xs:List Fw.Ld) (hi:Int) (hm:Fw.SI B (Fw.lay B f) z i0 i1=(xs,hi)) (hxl:xs≠[]) :
  Calls ja0 96 #[Y.lb,.agg #[z,i0,i1]] w λe w'=>∃R cap cs P' n',e=.returned (.agg #[.slice (some ⟨R,0,none⟩) xs.length cap,hi])/\w.heap.size<=R/\At w' R (.cells cs 88)/\nD cs xs/\n'<=n+2*((B z).fl.map (Fw.cst B f)).sum/\Kp Y B F n' P' w'/\(∀b,P' b->P b\/w.heap.size<=b)/\¬ P' R/\Out (λb=>b=Y.pm) w w':=by
 obtain⟨es0,Uc,nY⟩:=hR0.Fz;have hpl:=nY.lt;obtain⟨fl,hfl⟩:=aA ((B z).fl);rw[hfl]at hdn hne hl hn ⊢;obtain⟨s,hs⟩:=aA ((B z).sty);obtain⟨wO,hx0⟩:=aA (gD Y B i0 fl);obtain⟨xs1,hx1⟩:=aA (wO.map (rwG B i0));obtain⟨oQ,JH⟩:=aA ((fl.map λk=>Fw.wr (Fe.clamp (Fw.tY B i0 k) (Fw.tY B i0 k).b+Fw.SH B i0 0 k)));obtain⟨br,hbr⟩:=aA (Li.brk i0 (s.c 46) (s.b 45) oQ);obtain⟨hh,Mg⟩:=aA ((if br.length=1 then i1 else -1))
 have HMR:Hid (Fw.dO B (Fw.lay B f) z i0 i1 hh fl true 0 br=(xs,hi)):=ah (by
  rw[<-hm];unfold Fw.SI
  simp only[hfl,hs,JH,hbr,Mg])
 obtain⟨m,hmm⟩:=aA fl.length;have HL0:Hid (wO.length=m):=ah (by rw[<-hx0,<-hmm];simp[gD]);have zY:Hid (xs1.length=m):=ah (by rw[<-hx1,jb7,HL0.out]);have Pm:Hid (oQ.length=m):=ah (by rw[<-JH,jb7,hmm]);have Sj:Hid (xs1=fl.map (rwI Y B i0)):=ah (by rw[<-hx1,<-hx0,abE])
 have Yk:Hid (∀x∈wO,Ml Y B D F f i0 x):=ah (by
  rw[<-hx0];intro x hx;obtain⟨k,hk,e⟩:=List.mem_map.1 hx;rw[<-e]
  exact Rx (hdn k hk).1 (hdn k hk).2)
 have JB:Hid (∀x∈xs1,Ml Y B D F f i0 x):=ah (by
  rw[<-hx1];intro x hx;obtain⟨y,hy,e⟩:=List.mem_map.1 hx;rw[<-e]
  exact abD (Yk.out y hy))
 have HCS:Hid (iF B f xs1 m=(fl.map (Fw.cst B f)).sum):=ah (by
  unfold iF;rw[Sj.out,<-hmm];rw[<-List.map_take,List.take_length,List.map_map]
  rfl)
 have HXG:Hid (xs1=wO.map (rwG B i0)):=ah hx1.symm;have HX0:Hid (wO=gD Y B i0 fl):=ah hx0.symm;have HLO:=ah JH;have HBR:=ah hbr;have HHH:=ah Mg;have OZ:=ah hs;have Gu:=ah hfl;have HM:=ah hmm;have HN:=ah hn;have HDN:=ah hdn;have uG:=ah hR0;have HXL:=ah hxl;rw[hmm]at hl;have hm0:0<m:=by rw[<-hmm];exact List.length_pos_iff.2 hne
 clear hx1 hx0 JH hbr Mg hm hmm hxl;have hS:=o9.start FB hP;have wK:=hR0;obtain⟨b0,hb0⟩:=aA (Y.bl z);have hbx:=(wK.box z hz).1;rw[hb0,hs]at hbx;generalize Y.vf z=zvf at hbx;generalize Y.va z=zva at hbx;generalize (B z).ib=ND at hbx;have Uq:=hbx.lt
 have n0p:b0≠Y.pm:=λe=>by
  rw[e]at hbx;exact absurd (At.uniq hbx nY) aV
 have b1:Below w w ((w.alloc (.cells #[z,i0,i1] 86)).alloc (.cells #[.slice none 0 0,()] 147)):=aB (aB aD _) _;have A0:At ((w.alloc (.cells #[z,i0,i1] 86)).alloc (.cells #[.slice none 0 0,()] 147)) w.heap.size (.cells #[z,i0,i1] 86):=At.alloc (At.new _ _) _;have A4:At ((w.alloc (.cells #[z,i0,i1] 86)).alloc (.cells #[.slice none 0 0,()] 147)) (w.heap.size+1) (.cells #[.slice none 0 0,()] 147):=At.new' _ Ka;have hS1:=hS.after b1;have FT:=wK.keep hK b1;have Yc:=ah (aL.keep hbx b1);clear hdn hR0 wK hS nY hs hbx hfl FB hn;go_enter Tryz.func96,Tryz.ntmps96
 go_upto_region 1 with(fail)
 generalize (w.alloc (.cells #[z,i0,i1] 86)).alloc (.cells #[.slice none 0 0,()] 147)=w1 at *;have afW:=A4.lt;have hsz:=b1.size;have hlk:=λX (h:Below w1 w1 X)=>(FT.keep hK h).look hz;simp only[hb0]at hlk;obtain⟨lY,xk,xq,zn,zo,zq,zu⟩:=At.six FT.lay;obtain⟨l0,eY,eZ,fV⟩:=At.three A0;have hSd:Below w1 w1 w1.drew:=Below.drew aD;refine gZ (S:=λX=>Below w1 w1 X) 8 ?_ ?_
 . exact hSd
 intro hx;clear hSd;refine aG 0 ?_;refine aG 1 ?_;refine aG 2 ?_;refine aG 3 ?_;refine aG 4 ?_;refine aG 5 ?_;refine jc 6 rfl (aY aQ rfl rfl rfl (λX h=>hlk X h)) ?_;refine aG 7 ?_;refine gX ?_;have hx2:Below w1 w1 w1.drew:=hx;generalize w1.drew=w3 at *;have abg:=hx2.size;have qp:=hS1.after hx2;have B3:=A0.keep hx2;have C3:=A4.keep hx2;have z8:=ah (aL.keep Yc.out hx2);have FH:=qp.ro rT uG.out hkm;have nM:Calls ja0 131 #[Y.lb,.agg #[z,i0,i1]] w3 λe w'=>(∃R q cs,e=.returned (.slice (some ⟨R,q,none⟩) m m)/\w3.heap.size<=R/\At w' R (.cells cs 216)/\eX cs q wO)/\Below w3 w3 w':=by
  exact Z1v
 obtain⟨l0,eY,eZ,fV⟩:=At.three B3;clear b1 A0 A4 hS1 FT hlk xk xq zn zo zq zu lY hx FH hb0 Yc
 go_upto_region 4 with(go_at_call 131;(with_reducible refine nM.mono ?_);rintro e' w4 ⟨⟨R,q,cs,rfl,gR,hA4,Ud⟩,hb4⟩)
 clear nM;have HI4:=ah Ud;have F8:=qp.after hb4;have B4:=B3.keep hb4;have C4:=C3.keep hb4;have ME:=ah (aL.keep z8.out hb4);have adK:=hb4.size;have sI:w.heap.size+1<R:=by omega
 have XH:¬ P R:=λh=>by have:=hP R h;omega
 have n0R:b0≠R:=by omega
 have lR4:=hA4.lt;clear hb4 Ud B3 C3 qp hx2 l0 eY eZ fV z8
 go_loopw [31] (λiv wr=>∃(k:Nat) (cs':Array Value),k<=m/\iv=.int .i64 k/\o9 Y B F w P n P wr/\At wr R (.cells cs' 216)/\Hid (eX cs' q (Ei (rwG B i0) wO k))/\At wr w (.cells #[z,i0,i1] 86)/\At wr (w.heap.size+1) (.cells #[.slice none 0 0,()] 147)/\Hid (aL wr b0 s zvf zva ND)) (λiv _=>m-(intOf iv).toNat)
 case atStart=>exact⟨0,cs,eP _,rfl,F8,hA4,ah (by rw[Ej];exact HI4.out),B4,C4,ME⟩
 case round =>
  clear F8 hA4 B4 C4 ME HI4;obtain⟨k,cs',hk,rfl,hSr,hAr,hC,A0,A4,wm⟩:=hrel;by_cases hlt:k<m
  . have hltz:(k:Int)<(m:Int):=by omega
    have hkx:k<wO.length:=by rw[HL0.out];exact hlt
    have hkc:k<(Ei (rwG B i0) wO k).length:=by rw[jo];exact hkx
    have pz:=hC.out.at_ hAr hkc;rw[sS _ _ hkx]at pz;obtain⟨x,hx⟩:=aA (wO[k]);have j5:=ah (Yk.out x (hx▸jc2 _));rw[hx]at pz;have HX:=ah hx;have oN:=ah hSr;have hRr:=hSr.ro rT uG.out hkm;have hbx:=(hRr.box x.ld.id j5.out.d).1;rw[<-j5.out.bx]at hbx;obtain⟨sx,hsx⟩:=aA ((B x.ld.id).sty);rw[hsx]at hbx;generalize Y.vf x.ld.id=vf at hbx;generalize Y.va x.ld.id=va at hbx;generalize (B x.ld.id).ib=ib at hbx;have HSX:=ah hsx;have oZ:=ah hbx;have BU:=hAr.lt;have n34:=uG.out.box x.ld.id j5.out.d;rw[<-j5.out.bx]at n34;have n4:x.bx≠R:=by have:=n34.1.lt;omega
    clear n34;clear hRr hbx hsx hx hSr
    go_upto_region 6 with(first|(refine dn aQ _ rfl rfl (by with_reducible assumption) ?_)|(refine bW aQ rfl ?_)|(refine bM aQ _ _ rfl rfl rfl Z4k ?_))
    generalize hW:jb5 _ _ _=W3;obtain⟨Q,hQ⟩:=aA wr.heap.size;have AQ:At W3 Q (.cells (lZ x) 216):=hW▸hQ▸At.setRow (At.new _ _) _;have hb3:Below wr wr W3:=hW▸aM (aB aD _) aC _;have gQ:wr.heap.size<=Q:=Nat.le_of_eq hQ;rw[hQ];clear hW hQ pz;have B3:=A0.keep hb3;have Kl:=ah (aL.keep oZ.out hb3);have lbx:=aL.lt Kl.out;have lQ:=AQ.lt;have cQ:W3.cell? ⟨Q,12,none⟩=some (.pointer x.bx):=(AQ.cell 12).trans rfl;have cb3:W3.cell? ⟨x.bx,3,none⟩=some (.int .i64 (sx.c 3)):=aL.int Kl.out 3 ak rfl;have cb4:W3.cell? ⟨x.bx,4,none⟩=some (.int .i64 (sx.c 4)):=aL.int Kl.out 4 ak rfl;have aiR:W3.cell? ⟨x.bx,53,none⟩=some (.int .i64 (sx.c 53)):=aL.int Kl.out 53 ak rfl;obtain⟨l0,eY,eZ,fV⟩:=At.three B3;have hSd:Below W3 W3 W3.drew:=Below.drew aD;refine gZ (S:=λX=>Below W3 W3 X) 18 ?_ ?_
    . exact hSd
    intro hx;clear hSd;refine aG 0 ?_;refine aG 1 ?_;refine aG 2 ?_;refine aG 3 ?_;refine aG 4 ?_;refine aG 5 ?_;refine aG 6 ?_;refine aG 7 ?_;refine aG 8 ?_;refine aG 9 ?_;refine aG 10 ?_;refine aG 11 ?_;refine aG 12 ?_;refine aG 13 ?_;refine aG 14 ?_;refine aG 15 ?_;refine tk1 16 ?_;refine aj.Step.call eB (iL (sx.c 3) (sx.c 4) i0 (sx.c 53) _) ?_;rintro e' w5 ⟨rfl,hb⟩;replace hx:=Below.ay hx aC hb;clear hb;refine⟨_,rfl,λ_=>hx,?_⟩
    (try simp only[bN,bO,bP,tks])
    refine aG 17 ?_;refine gX ?_;have yU:Below wr wr w5:=Below.ay hb3 aC hx;have AQ5:=AQ.keep hx;have xD:=hAr.keep yU;have hS5:=oN.out.after yU;have B5:=A0.keep yU;have C5:=A4.keep yU;have Mr:=ah (aL.keep oZ.out yU);have Gf:=ah (aL.keep wm.out yU);clear cQ cb3 cb4 aiR lbx lQ l0 eY eZ fV hx AQ Kl B3 A0 A4 hAr wm oZ oN hb3;obtain⟨base,hbase⟩:=aA (Fx.len (sx.c 3) (sx.c 4) i0 (sx.c 53));rw[hbase];obtain⟨it,hit⟩:=aA (Fw.asI sx 0 base i0)
    have mO:∀X,Calls ja0 132 #[.agg #[sx.c 3,sx.c 4,sx.c 7,sx.c 8,sx.c 11,sx.c 12],.agg (cells sx),base,i0] X λe X'=>e=.returned (.agg (wI it))/\Below X.heap.size X X':=λX=>by
     rw[<-hit];exact Rl _ _ _ _ _ _ sx base i0 X
    have lbx:=aL.lt Mr.out;have lR5:=xD.lt;have lQ:=AQ5.lt;have cQ:w5.cell? ⟨Q,12,none⟩=some (.pointer x.bx):=(AQ5.cell 12).trans rfl;have nQ:Q≠R:=by omega
    have n2:w.heap.size≠R:=by omega
    obtain⟨l0,eY,eZ,fV⟩:=At.three B5;have abF:=ah (show q+k*17+5<=cs'.size by have:=hC.out.1;rw[jo]at this;have h2:k*17+17<=wO.length*17:=ak;omega);have hSd:Out (λb=>b=R) w5 w5.drew:=(Out.refl _ _).drew
    go_upto_region 7 with(fail)
    refine gZ (S:=λX=>Out (λb=>b=R) w5 X) 21 ?_ ?_
    . exact hSd
    intro hx;clear hSd;refine xX 0 ?_;refine xX 1 ?_;refine xX 2 ?_;refine xX 3 ?_;refine xX 4 ?_;refine xX 5 ?_;refine xX 6 ?_;refine jc 7 rfl (ou (.tmp 59) aQ rfl rfl (λX h=>At.out Mr.out n4 h)) ?_;refine xX 8 ?_;refine xX 9 ?_;refine xX 10 ?_;refine xX 11 ?_;refine jc 12 rfl (iD aQ (.tmp 64) rfl rfl (λX h=>aL.style (At.out Mr.out n4 h))) ?_;refine xX 13 ?_;refine xX 14 ?_;refine xX 15 ?_;refine xX 16 ?_;refine tk1 17 ?_;refine aj.Step.call eB (mO _) ?_;rintro e' zh ⟨rfl,hb⟩;have ML:At zh R (.cells cs' 216):=At.keep (At.drew xD) hb;have JI:Out (λb=>b=R) w5 zh:=Out.trans' ((Out.refl _ w5).drew) (Out.of_below (M:=λ_=>False) hb) λ_ _ q=>q.elim;refine⟨_,rfl,λ_=>JI,?_⟩
    (try simp only[bN,bO,bP,tks])
    refine xX 18 ?_;refine xX 19 ?_;refine tk1 20 ?_;refine aj.Step.skip (aS (q:=q+k*17) zU (.tmp 72) (.tmp 70) rfl rfl rfl ML (gH it) abF.out (CG it)) ?_;have abG:=At.setRow ML (splice cs' (q+k*17) (wI it));have uD:Out (λb=>b=R) zh (zh.setRow R (splice cs' (q+k*17) (wI it))):=Out.setRow (M:=λb=>b=R) (Out.refl _ _) rfl _;refine⟨λ_=>JI.trans uD,?_⟩
    (try simp only[bN,bO,bP,tks])
    refine gX ?_;have Kg:=JI.trans uD;have EA:=hC.out.acC hkc it;rw[sS _ _ hkx,HX.out]at EA
    have ad2:Hid (eX (splice cs' (q+k*17) (wI it)) q (Ei (rwG B i0) wO (k+1))):=ah (by
     rw[<-yN _ _ hkx,HX.out];have e:rwG B i0 x={ x with it:=it }:=by
      unfold rwG Fw.tY;rw[HSX.out,<-hit,<-hbase]
     rw[e]
     exact EA.1)
    have PU:=hS5.own (M:=λb=>b=R) Kg λb hb h=>by subst h;exact⟨XH,by omega⟩
    have B14:=B5.out (M:=λb=>b=R) n2 Kg;have C14:=C5.out (M:=λb=>b=R) ak Kg;have RA:=ah (At.out (M:=λb=>b=R) Gf.out n0R Kg);generalize zh.setRow R (splice cs' (q+k*17) (wI it))=w14 at *;generalize splice cs' (q+k*17) (wI it)=cs4 at *;clear hx EA xD ML JI uD Kg hS5 B5 C5 Mr Gf l0 eY eZ fV mO lbx lR5 lQ cQ hbase hit hC AQ5 yU;go_wp2
    go_roundw
    case rel=>exact⟨k+1,cs4,by omega,by go_num,PU,abG,ad2,B14,C14,RA⟩
    case measure=>simp[intOf];omega
  . obtain rfl:k=m:=by omega
    have Us:Hid (eX cs' q xs1):=ah (by
     have:=hC.out;rw[<-HL0.out,Jw,<-HXG.out]at this
     exact this)
    have oN:=ah hSr;have HRR:=ah (hSr.ro rT uG.out hkm);have BU:=hAr.lt;obtain⟨l0,eY,eZ,fV⟩:=At.three A0;have J9:=aL.lt wm.out;have ad3:wr.cell? ⟨b0,46,none⟩=some (.int .i64 (s.c 46)):=aL.int wm.out 46 ak rfl;have aiS:wr.cell? ⟨b0,45,none⟩=some (.bool (s.b 45)):=(At.cell wm.out 45).trans (by rw[Jj _ _ _ _ ak];rfl);clear hC hSr hlt
    go_upto_region 9 with(fail)
    have hSd:Below wr wr wr.drew:=Below.drew aD;refine gZ (S:=λX=>Below wr wr X) 18 ?_ ?_
    . exact hSd
    intro hx;clear hSd;refine aG 0 ?_;refine aG 3 ?_;refine aG 4 ?_;refine aG 5 ?_;refine aG 6 ?_;refine aG 7 ?_;refine aG 8 ?_;refine aG 9 ?_;refine aG 10 ?_;refine aG 11 ?_;refine aG 12 ?_;refine aG 13 ?_;refine aG 14 ?_;refine aG 15 ?_;refine tk1 1 ?_;refine aj.Step.call eB (Mh 0 _) ?_;rintro e' w7 ⟨rfl,hw7⟩;have mX:Below wr.drew wr.drew w7:=hw7▸aB aD _;have AB:At w7 wr.drew (.cells #[()] 3):=hw7▸At.new _ _;clear hw7;replace hx:=Below.ay hx aC mX;generalize wr.drew.heap.size=Bq at *;refine⟨_,rfl,λ_=>hx,?_⟩
    (try simp only[bN,bO,bP,tks])
    have mO:=adw #[Bq] (λi=>oQ.getD i 0) (some ⟨R,q,none⟩) xs1 k w7 (Us.out.ims (hAr.keep hx)) (by rw[zY.out];omega) (λi h X hb=>by
     have h':i<fl.length:=by have:=zY.out;have:=HM.out;omega
     have ex:xs1[i]=rwI Y B i0 fl[i]:=by
      have e1:=Sj.out;subst e1;simp
     have el:oQ.getD i 0=Fw.wr (Fe.clamp (Fw.tY B i0 fl[i]) (Fw.tY B i0 fl[i]).b+Fw.SH B i0 0 fl[i]):=by
      rw[<-HLO.out,List.getD,jc0,ja6 h'];rfl
     have ho:=JB.out xs1[i] (jc2 _);have hbx:=aL.keep ((HRR.out.box _ ho.d).1) (Below.ay hx aC hb);rw[<-ho.bx]at hbx;have h1:=Xq xs1[i] _ _ _ _ Bq X hbx ((hb.cell (p:=⟨Bq,0,none⟩) AB.lt).trans (AB.cell 0));rw[el];rw[ex]at h1 ⊢
     exact h1)
    rw[zY.out]at mO;refine tk1 2 ?_;refine aj.Step.call eB mO ?_;rintro e' w8 ⟨⟨bt,rfl,gbt,hT⟩,vB⟩;replace hx:=Below.ay hx aC vB;refine⟨_,rfl,λ_=>hx,?_⟩
    (try simp only[bN,bO,bP,tks])
    have hIt:Ints w8 (some ⟨bt,0,none⟩) oQ:=by
     have h1:=fM _ _ Ko hT;have h2:=rG oQ;rw[Pm.out]at h2;rw[h2]at h1;exact h1
    have hs8:=hx.size;have Yl:=UD (some ⟨bt,0,none⟩) oQ k k i0 (s.c 46) (s.b 45) w8 hIt Pm.out ak aC;rw[HBR.out]at Yl;refine tk1 16 ?_;refine aj.Step.call eB Yl ?_;rintro e' w9 ⟨v,rfl,hown,fF⟩;replace hx:=Below.ay hx aC fF;refine⟨_,rfl,λ_=>hx,?_⟩
    (try simp only[bN,bO,bP,tks])
    have acM:br≠[]:=by
     rw[<-HBR.out];unfold Li.brk;rw[Li.qU _ _ _ _ (by rw[Pm.out];exact hm0)];exact List.cons_ne_nil _ _
    obtain⟨g,cbr,rfl,gg,RB⟩:=UE hown acM;refine aG 17 ?_;refine gX ?_;obtain⟨nb,hnb⟩:=aA br.length;rw[hnb];have HNB:=ah hnb;have ajZ:nb<=64:=by
     have h1:=Li.Dj i0 (s.c 46) (s.b 45) oQ;rw[HBR.out,hnb,Pm.out]at h1;omega
    have gg2:wr.heap.size<=g:=by omega
    have ags:=ah RB;have o8:=hAr.keep hx;have NC:=oN.out.after hx;have B9:=A0.keep hx;have C9:=A4.keep hx;have MK:=ah (aL.keep wm.out hx);have hE:=HHH.out;rw[hnb]at hE;have HHE:=ah hE;have aiT:=hx.size;clear mO Yl hIt hT gbt hown mX vB fF AB hx oN hAr A0 A4 wm HRR ad3 aiS J9 l0 eY eZ fV RB hnb hE gg hs8 acM;obtain⟨l0,eY,eZ,fV⟩:=At.three B9
    go_upto_if 93 with(fail)
    go_cut [11]from 91 to 97 (λv w2=>v=.int .i64 hh/\Below w9 w9 w2)
    case first =>
     by_cases hq:nb=1
     . have e1:=HHE.out
       rw[if_pos hq]at e1;have E1:=ah e1;have hq1:(nb:Int)=1:=by omega
       have hq2:((nb:Int)==1)=true:=by rw[hq1];rfl
       exact Z13
     . have e1:=HHE.out
       rw[if_neg hq]at e1;have E1:=ah e1;have hq1:¬ (nb:Int)=1:=by omega
       have hq2:((nb:Int)==1)=false:=by rw[beq_eq_false_iff_ne];exact hq1
       exact Z13
    case rest =>
     obtain⟨rfl,iP⟩:=hcut;have mF:=NC.after iP;have mJ:=o8.keep iP;have B10:=B9.keep iP;have NG:=C9.keep iP;have vJ:=ah (aL.keep MK.out iP);have MN:=ah (Cc.out (M:=λ_=>False) ags.out (Out.of_below iP) λh=>h);have Uk:∀X,(Instr.build 147 #[]).run ja0 X=.ok (.agg #[.slice none 0 0,()]) X:=λ_=>by kernel_rfl
     have agt:=iP.size;clear NC o8 B9 C9 MK ags iP l0 eY eZ fV HHE
     go_upto_region 15 with(fail)
     generalize hW:ja4 _ _=p9;obtain⟨Cb,hCb⟩:=aA wc.heap.size;have AC:At p9 Cb (.cells #[.slice none 0 0,()] 147):=hW▸At.new' _ hCb.symm;have fE:Below wc wc p9:=hW▸aB aD _;rw[hCb];have qD:=mF.after fE;have nJ:=mJ.keep fE;have B11:=B10.keep fE;have MH:=NG.keep fE;have vK:=ah (aL.keep vJ.out fE);have Ym:=ah (Cc.out (M:=λ_=>False) MN.out (Out.of_below fE) λh=>h);obtain⟨N5,Vz⟩:=aA p9.heap.size;have lC5:Cb<N5:=by have:=AC.lt;omega
     have lR5:R<N5:=by have:=nJ.lt;omega
     have lg5:g<N5:=by have:=Ym.out.1;omega
     have nCR:Cb≠R:=by have:=mJ.lt;omega
     have nCg:Cb≠g:=by have:=MN.out.1;omega
     have nRg:R≠g:=by omega
     have nC0:b0<R:=by omega
     have nCw:w.heap.size+1<Cb:=by have:=NG.lt;omega
     have HN5:=ah Vz;have CF:=ah (show∀b,P b->b<w.heap.size from hP);have H0:Hid (br.drop 0=Li.tail i0 (s.c 46) (s.b 45) oQ 0/\0<=k/\([]:List Fw.Ld).length=0/\(xs,hi)=([]++(Fw.dO B (Fw.lay B f) z i0 i1 hh fl (decide (0=0)) 0 (br.drop 0)).1,(Fw.dO B (Fw.lay B f) z i0 i1 hh fl (decide (0=0)) 0 (br.drop 0)).2)):=ah ⟨by rw[<-HBR.out];rfl,eP _,rfl,by rw[<-HMR.out];rfl⟩;clear hW Uk fE mF mJ B10 NG vJ MN hCb Vz agt aiT
     go_loopw [100] (λiv wr=>∃(k2 n':Nat) (P':Nat->Prop) (cs2:Array Value) (v:Value) (y:Int) (out:List Fw.Ld) (at_:Nat),k2<=nb/\iv=.int .i64 k2/\Hid (br.drop k2=Li.tail i0 (s.c 46) (s.b 45) oQ at_/\at_<=k/\out.length=at_/\(xs,hi)=(out++(Fw.dO B (Fw.lay B f) z i0 i1 hh fl (decide (k2=0)) y (br.drop k2)).1,(Fw.dO B (Fw.lay B f) z i0 i1 hh fl (decide (k2=0)) y (br.drop k2)).2))/\n'<=n+2*iF B f xs1 at_/\o9 Y B F w P n' P' wr/\Hid (∀b,b<N5->P' b->P b)/\N5<=wr.heap.size/\At wr R (.cells cs2 216)/\Hid (eX cs2 (q+at_*17) (xs1.drop at_))/\At wr Cb (.cells #[v,y] 147)/\Hid (wr.ownsRow N5 88 7 v out.length (wN out))/\Hid (∀b,v.ownBlock=some b->¬ P' b)/\At wr w (.cells #[z,i0,i1] 86)/\At wr (w.heap.size+1) (.cells #[.slice none 0 0,()] 147)/\Hid (aL wr b0 s zvf zva ND)/\Hid (Cc wr g br)) (λiv _=>nb-(intOf iv).toNat)
     case atStart=>exact⟨0,n,P,cs',.slice none 0 0,0,[],0,eP _,rfl,H0,by omega,qD,ah λb _ h=>h,by rw[HN5.out];exact aJ _,nJ,ah (by simpa using Us.out),AC,ah (World.ownsRow_nil _ _ _ _),ah (λb h=>by simp[Value.ownBlock]at h),B11,MH,vK,Ym⟩
     case round =>
      clear qD nJ AC B11 MH vK Ym H0 Us;obtain⟨k2,n',P',cs2,v,y,out,at_,hk2,rfl,hTT,hn',hSr,xJ,FC,hAr,hC,AC,hown,hvg,A0,A4,wm,RB⟩:=hrel;by_cases hlt:k2<nb
      . have hltz:(k2:Int)<(nb:Int):=by omega
        have HK2:Hid (k2<nb):=ah hlt;have hkb:k2<br.length:=by rw[HNB.out];exact hlt
        have hat:at_<oQ.length:=Classical.byContradiction λh=>by
         have h1:=hTT.out.1;rw[Li.qR _ _ _ _ ak]at h1;have h2:=congrArg List.length h1;rw[List.length_drop]at h2;simp at h2;omega
        obtain⟨en,hen⟩:=aA (Li.stop i0 (s.c 46) (s.b 45) oQ at_);have hgt:at_<en:=by rw[<-hen];exact Li.yt _ _ _ _ _
        have hle:en<=k:=by rw[<-hen,<-Pm.out];exact Li.IZ _ _ _ _ hat
        have hdr:br.drop k2=(at_,en)::Li.tail i0 (s.c 46) (s.b 45) oQ en:=by rw[hTT.out.1,Li.qU _ _ _ _ hat,hen]
        have hb2:br[k2]=(at_,en)/\br.drop (k2+1)=Li.tail i0 (s.c 46) (s.b 45) oQ en:=by
         rw[List.drop_eq_getElem_cons hkb]at hdr;injection hdr with h1 h2;exact⟨h1,h2⟩
        obtain⟨lg,hpc⟩:=RB.out;have hp2:=hpc k2 hkb;rw[hb2.1]at hp2;obtain⟨cg0,cg1⟩:=hp2;have HB2:=ah hb2;have HDR:=ah hdr;have oN:=ah hSr;obtain⟨y1,hy1⟩:=aA ((if (decide (k2=0))=true then y else Fw.wr (y+s.c 46)));have HY1:=ah hy1;clear hpc hb2 hdr hen hSr hy1 hat
        go_upto_region 17 with(fail)
        generalize hW:ja4 _ _=W2;obtain⟨L,hL2⟩:=aA wr.heap.size;have AL:At W2 L (.cells #[.int .i64 (at_:Int),.int .i64 (en:Int)] 57):=hW▸At.new' _ hL2.symm;have hb2:Below wr wr W2:=hW▸aB aD _;have gL:N5<=L:=by omega
        rw[hL2];have AC2:=AC.keep hb2;have ad4:=ah (aL.keep wm.out hb2);have lCb:=AC2.lt;clear hW hL2 lg cg0 cg1
        go_upto_if 106 with(fail)
        go_cut []from 105 to 116 (λw2=>At w2 Cb (.cells #[v,y1] 147)/\Out (λb=>b=Cb) W2 w2)
        case first =>
         by_cases hk0:k2=0
         . have adY:¬ (0:Int)<(k2:Int):=by omega
           have e1:=HY1.out;rw[if_pos (by simp[hk0])]at e1;have E1:=ah e1;clear e1 hk0;go_wp2
           go_meet
           case rel=>exact⟨by rw[<-E1.out];exact AC2,Out.refl _ _⟩
         . have adY:(0:Int)<(k2:Int):=by omega
           have e1:=HY1.out;rw[if_neg (by simp[hk0]),<-qI]at e1;have E1:=ah e1;have ad3:W2.cell? ⟨b0,46,none⟩=some (.int .i64 (s.c 46)):=aL.int ad4.out 46 ak rfl;have J9:=aL.lt ad4.out;obtain⟨lC,Gg,Gh⟩:=At.two AC2;have zC1:=AC2.thaw 1;clear e1 hk0
           go_upto_region 18 with(fail)
           have hSd:Below W2 W2 W2.drew:=Below.drew aD;refine gZ (S:=λX=>Below W2 W2 X) 9 ?_ ?_
           . exact hSd
           intro hx;clear hSd;refine aG 0 ?_;refine aG 1 ?_;refine aG 2 ?_;refine aG 3 ?_;refine aG 4 ?_;refine aG 5 ?_;refine aG 6 ?_;refine aG 7 ?_;refine aG 8 ?_;refine tk1 9 ?_;refine aj.Step.skip eB ?_;generalize hW:ja5 _ _ _=W3;have AC3:At W3 Cb (.cells #[v,y1] 147):=by
            rw[<-hW,<-E1.out];exact At.set AC2 1 _
           have hO3:Out (λb=>b=Cb) W2 W3:=by
            rw[<-hW];exact Out.set (M:=λb=>b=Cb) (Out.refl _ _) rfl 1 _
           refine⟨by intro hlt;exact absurd hlt aF,?_⟩
           (try simp only[bN,bO,bP,tks])
           refine gX ?_;clear hW lC Gg Gh zC1 hx ad3 J9;go_wp2
           go_meet
           case rel=>exact⟨At.drew AC3,Out.drew hO3⟩
        case rest =>
         obtain⟨AC3,hO3⟩:=hcut;have hPC:¬ P' Cb:=λh=>by have:=CF.out _ (xJ.out _ lC5 h);omega
         have wL:¬ P' R:=λh=>by have:=CF.out _ (xJ.out _ lR5 h);omega
         have qp:=(oN.out.after hb2).own hO3 λb hb h=>by subst h;exact⟨hPC,by omega⟩
         have hOA:Out (λb=>b=Cb) wr wc:=(Out.of_below hb2).trans hO3;have hA3:=hAr.out (M:=λb=>b=Cb) (Ne.symm nCR) hOA;have B3:=A0.out (M:=λb=>b=Cb) ak hOA;have C3:=A4.out (M:=λb=>b=Cb) ak hOA;have z8:=ah (At.out (M:=λb=>b=Cb) wm.out ak hOA);have agu:=ah (Cc.out (M:=λb=>b=Cb) RB.out hOA (Ne.symm nCg));have AL3:=AL.out (M:=λb=>b=Cb) ak hO3;have hown3:=ah (bD (M:=λb=>b=Cb) hown.out (λg' hg' e=>by have:=(hown.out.lt g' hg').1;omega) hOA);have hN3:N5<=wc.heap.size:=aH FC hOA.size;obtain⟨lL,cL0,cL1⟩:=At.two AL3;have hcp:¬ k=at_:=by omega
         have hle1:at_<=en:=by omega
         have hle3:at_<=k:=by omega
         have agv:(at_:Int)<=(en:Int):=by omega
         have agw:(en:Int)<=(k:Int):=by omega
         clear AC2 ad4 AL hO3 hOA hAr A0 A4 wm RB hown hb2 oN lCb;obtain⟨d,hd⟩:=aA (en-at_);have hd0:0<d:=by omega
         have akp:d<=64:=by omega
         have QB:Hid (at_+d=en):=ah ak
         go_upto_region 20 with(fail)
         have HD:=ah hd;clear hd hle1 hle3 agv agw hcp cL0 cL1 lL AL3;obtain⟨xsl,UF⟩:=aA ((xs1.drop at_).take d);have ad5:xsl.length=d:=by rw[<-UF,jc9,List.length_drop,zY.out];have:=QB.out;omega
         obtain⟨X1,hX1⟩:=aA (Eo B f s i0 i1 hh xsl);obtain⟨deep,QJ⟩:=aA (Jz hh X1);obtain⟨X2,hX2⟩:=aA (sV B f s i0 i1 deep X1);obtain⟨bs,hbs⟩:=aA (sW s i0 deep X2);have hmap:xsl=((fl.drop at_).take d).map (rwI Y B i0):=by rw[<-UF,Sj.out,<-List.map_drop,<-List.map_take]
         have HRL:Hid (Fw.nT B (Fw.lay B f) z i0 i1 hh ((fl.drop at_).take d)=(bs.map (·.ld),deep)):=ah (by
          rw[<-hbs]
          exact Gc Y B f z i0 i1 hh _ s OZ.out X1 X2 deep (by rw[<-hmap];exact hX1) QJ hX2)
         have HBL:Hid (bs.length=d):=ah (by
          have h1:X1.length=d:=by rw[<-hX1];unfold Eo;rw[List.length_mapIdx,ad5]
          have h2:X2.length=d:=by
           rw[<-hX2];unfold sV;split
           . rw[jb7,h1]
           . exact h1
          rw[<-hbs];unfold sW
          rw[List.length_mapIdx,h2])
         have hcs:iF B f xsl xsl.length+iF B f xs1 at_=iF B f xs1 en:=by
          unfold iF;rw[List.take_length,<-UF,<-QB.out,List.take_add,List.map_append,List.sum_append];omega
         have hcs2:=wE B f xs1 en;rw[zY.out,HCS.out]at hcs2;have hnn:=HN.out;have UG:=afI hL hK rT uG.out hkm R (q+at_*17) (k-at_) z i0 i1 hh hz xsl cs2 wc n' P' qp hA3 (by rw[<-UF];exact hC.out.front (by rw[List.length_drop,zY.out];have:=QB.out;omega)) (λx hx=>JB.out x (List.mem_of_mem_drop (List.mem_of_mem_take (UF.symm▸hx)))) wL ak ak ak s OZ.out X1 X2 deep hX1 QJ hX2;rw[ad5,hbs]at UG;rw[ad5]at hcs;obtain⟨l0,eY,eZ,fV⟩:=At.three B3;have hC3:=ah hC.out;clear hX1 QJ hX2 hbs hmap UF qp hA3 hC
         go_upto_region 22 with(go_at_call 136;(with_reducible refine UG.mono ?_);rintro e' w6 ⟨rfl,n2,P2,zZ,hn2,qE,qC,hP2,xE,hI6,hM6,iQ⟩)
         have hs6:=iQ.size;have npm:Y.pm<w.heap.size:=hpl;have H7:∀b,b≠R->w.heap.size<=b->¬ (b=Y.pm\/b=R):=λb h1 h2 h=>by rcases h with h|h<;>omega
         have AC6:=AC3.out (H7 Cb nCR ak) iQ;have B6:=B3.out (H7 _ ak ak) iQ;have C6:=C3.out (H7 _ ak ak) iQ;have MF:=ah (At.out (M:=λb=>b=Y.pm\/b=R) z8.out (by rintro(h|h);exact n0p h;exact n0R h) iQ);have agx:=ah (Cc.out agu.out iQ (H7 g (Ne.symm nRg) ak));have hown6:=ah (bD (M:=λb=>b=Y.pm\/b=R) hown3.out (λg' hg'=>H7 g' (by have:=(hown3.out.lt g' hg').1;omega) (by have:=(hown3.out.lt g' hg').1;omega)) iQ);have ad6:Hid (∀b,b<N5->P2 b->P b):=ah λb hb h=>xJ.out b hb (hP2 b ak h);have agy:Hid (∀b,v.ownBlock=some b->¬ P2 b):=ah λb h hp=>hvg.out b h (hP2 b (hown3.out.lt b h).2 hp)
         have aiU:Hid (eX zZ (q+en*17) (xs1.drop en)):=ah (by
          have h1:=hC3.out.rest hM6 (by rw[List.length_drop,zY.out];have:=QB.out;omega);rw[List.drop_drop,QB.out]at h1;have e:q+at_*17+d*17=q+en*17:=by have:=QB.out;omega
          rw[e]at h1
          exact h1)
         have HI6:=ah hI6;have hN6:N5<=w6.heap.size:=aH hN3 hs6;have HN2:Hid (n2<=n+2*iF B f xs1 en):=ah ak;obtain⟨sh,hsh⟩:∃l:List Fw.Ld,(bs.map (·.ld)).map (λx=>{ x with a1:=Fw.wr (x.a1+y1) })=l:=⟨_,rfl⟩;have HSH:=ah hsh;have HSL:Hid (sh.length=d):=ah (by rw[<-hsh,jb7,jb7,HBL.out]);have HOL:=ah hTT.out.2.2.1;clear UG hn2 hP2 hI6 hM6 iQ AC3 B3 C3 z8 agu hown3 hvg xJ hN3 H7 hsh hcs hcs2 hn' hC3 l0 eY eZ fV wL hPC FC
         go_loopw [129] (λiv wr=>∃(i:Nat) (v3:Value),i<=d/\iv=.int .i64 i/\o9 Y B F w P n2 P2 wr/\At wr R (.cells zZ 216)/\At wr Cb (.cells #[v3,y1] 147)/\Hid (wr.ownsRow N5 88 7 v3 (out++sh.take i).length (wN (out++sh.take i)))/\Hid (∀b,v3.ownBlock=some b->¬ P2 b)/\At wr w (.cells #[z,i0,i1] 86)/\At wr (w.heap.size+1) (.cells #[.slice none 0 0,()] 147)/\Hid (aL wr b0 s zvf zva ND)/\Hid (Cc wr g br)/\N5<=wr.heap.size) (λiv _=>d-(intOf iv).toNat)
         case atStart=>exact⟨0,v,eP _,rfl,qE,xE,AC6,ah (by simpa using hown6.out),agy,B6,C6,MF,agx,hN6⟩
         case round =>
          clear qE xE AC6 hown6 agy B6 C6 MF agx hN6;obtain⟨i,v3,akq,rfl,hSr,hAr,AC,hown,hvg,A0,A4,wm,RB,FC⟩:=hrel;by_cases hlt:i<d
          . have hltz:(i:Int)<(d:Int):=by omega
            have hix:i<bs.length:=by rw[HBL.out];exact hlt
            have pz:=HI6.out.at_ hAr hix;obtain⟨x,hx⟩:=aA (bs[i]);rw[hx]at pz;have HX:=ah hx;have oN:=ah hSr;have abH:=ah hSr.lt;have BU:=hAr.lt;clear hx hSr
            go_upto_region 24 with(first|(refine dn aQ _ rfl rfl (by with_reducible assumption) ?_)|(refine bW aQ rfl ?_)|(refine bM aQ _ _ rfl rfl rfl Z4k ?_))
            generalize hW:jb5 _ _ _=W3;obtain⟨Q,hQ⟩:=aA wr.heap.size;have AQ:At W3 Q (.cells (lZ x) 216):=hW▸hQ▸At.setRow (At.new _ _) _;have hb3:Below wr wr W3:=hW▸aM (aB aD _) aC _;have gQ:wr.heap.size<=Q:=Nat.le_of_eq hQ;rw[hQ];clear hW hQ pz BU;obtain⟨p,hp⟩:=aA (IntKind.i64.wrap (x.ld.a1+y1));obtain⟨y',hy'⟩:∃y:Fw.Ld,{ x.ld with a1:=p }=y:=⟨_,rfl⟩
            have HTK:Hid (sh.take (i+1)=sh.take i++[y']):=ah (by
             have hxi:i<sh.length:=by rw[HSL.out];exact hlt
             rw[jc8 hxi];congr 2;have e:=HSH.out;have e2:sh[i]={ bs[i].ld with a1:=Fw.wr (bs[i].ld.a1+y1) }:=by subst e;simp
             rw[e2,HX.out,<-qI,hp,hy'])
            have AC3:=AC.keep hb3;have lQ:=AQ.lt;have c11:W3.cell? ⟨Q,11,none⟩=some (.int .i64 x.ld.a1):=(AQ.cell 11).trans rfl;have z11:=AQ.thaw 11;obtain⟨lC,Gg,Gh⟩:=At.two AC3
            go_upto_region 25 with(fail)
            generalize hW:ja5 _ _ _=W9;have AQ9:At W9 Q (.cells (lZ { x with ld:=y' }) 216):=by
             rw[<-hW,<-hy'];exact At.set AQ 11 _
            have fF:Below wr wr W9:=by
             rw[<-hW];exact Below.setCell hb3 gQ _
            clear hW lQ c11 z11 AQ hb3 hp hy' AC3 lC Gg Gh;have MO:=bD (M:=λ_=>False) hown.out (λ_ _ q=>q) (Out.of_below fF);have hs9:=fF.size;obtain⟨g',c',w',hr,hown',hOa,hgg⟩:=PK y' MO ak (by rw[ja7,HOL.out,jc9,HSL.out];omega);obtain⟨ln,hln⟩:=aA ((out++sh.take i).length+1);rw[hln]at hr hown';clear hln;have hrun:=ah hr
            have hQL:∀j,j<7->W9.cell? ⟨Q,5+j,none⟩=(dU y')[j]? := λj hj=>by
             rw[AQ9.cell];exact Z1z
            have Yn:∀b,v3.ownBlock=some b->N5<=b:=λb h=>(hown.out.lt b h).1;have AC9:=AC.keep fF;have ACn:At w' Cb (.cells #[v3,y1] 147):=At.out (M:=λb=>v3.ownBlock=some b) (AC9.alloc _) (λh=>by have:=Yn Cb h;omega) hOa;obtain⟨lC9,ad7,ad8⟩:=At.two AC9;obtain⟨lCn,ad9,ad'⟩:=At.two ACn;have aea:=ACn.thaw 0;have lQ9:=AQ9.lt;have HQL:=ah hQL;clear hr MO hQL
            go_upto_region 26 with(first|(refine dZ zS mM aQ _ rfl rfl (dB y') HQL.out ?_)|(refine um aQ _ rfl rfl ?_)|(at_builtin;refine wpList_append_run aQ _ _ 145 rfl rfl rfl hrun.out ?_))
            generalize hW:ja5 _ _ _=MG;have yT:At MG Cb (.cells #[.slice g' ln c',y1] 147):=hW▸At.set ACn 0 _;have MP:Out (λb=>b=Cb) w' MG:=hW▸Out.set (M:=λb=>b=Cb) (Out.refl _ _) rfl 0 _
            have PY:Hid (MG.ownsRow N5 88 7 (.slice g' ln c') (out++sh.take (i+1)).length (wN (out++sh.take (i+1)))):=ah (by
             rw[HTK.out,<-List.append_assoc]
             exact bD (M:=λb=>b=Cb) hown' (λg hg e=>by have:=(hown'.lt g hg).1;omega) MP)
            have agz:Hid (∀b,(Value.slice (some ⟨g',0,none⟩) ln c').ownBlock=some b->¬ P2 b):=ah λb h hp=>by
             have e:g'=b:=by simpa[Value.ownBlock]using h
             subst e;rcases hgg with h1|h1
             . exact hvg.out _ h1 hp
             . have:=abH.out _ hp;omega
            have MQ:Out (λb=>v3.ownBlock=some b\/b=Cb) wr MG:=(Out.of_below (aB fF _)).trans ((hOa.mono λb _ h => .inl h).trans (MP.mono λb _ h => .inr h))
            have hoff:∀b,b<N5->b≠Cb->¬ (v3.ownBlock=some b\/b=Cb):=λb hb hn h=>by
             rcases h with h|h
             . have:=Yn b h;omega
             . exact hn h
            have mF:=oN.out.own MQ λb hb h=>by
             rcases h with h|h
             . have h1:=Yn b h
               exact⟨hvg.out b h,by omega⟩
             . subst h
               exact⟨λhp=>by have:=CF.out _ (ad6.out _ lC5 hp);omega,by omega⟩
            have mJ:=hAr.out (hoff R lR5 (Ne.symm nCR)) MQ;have B10:=A0.out (hoff _ ak ak) MQ;have NG:=A4.out (hoff _ ak ak) MQ;have vJ:=ah (At.out wm.out (hoff b0 ak ak) MQ);have MN:=ah (Cc.out RB.out MQ (hoff g lg5 (Ne.symm nCg)));have Ev:N5<=MG.heap.size:=aH FC MQ.size;clear hW ACn MP hown' hOa MQ hoff AC9 lC9 ad7 ad8 lCn ad9 ad' aea lQ9 HQL fF hs9 AQ9 hown hAr A0 A4 AC wm RB hrun hvg hgg;go_wp2
            go_roundw
            case rel=>exact⟨i+1,_,by omega,by go_num,mF,mJ,yT,PY,agz,B10,NG,vJ,MN,Ev⟩
            case measure=>simp[intOf];omega
          . obtain rfl:i=d:=by omega
            have hfull:sh.take i=sh:=jb6 (by rw[HSL.out];exact aJ _);rw[hfull]at hown;have lC:=AC.lt;obtain⟨lC,Gg,Gh⟩:=At.two AC;have zC1:=AC.thaw 1;obtain⟨y2,hy2⟩:=aA (IntKind.i64.wrap (y1+deep))
            go_upto_region 28 with(fail)
            generalize hW:ja5 _ _ _=UC;have Ew:At UC Cb (.cells #[v3,y2] 147):=hW▸At.set AC 1 _;have MP:Out (λb=>b=Cb) wr UC:=hW▸Out.set (M:=λb=>b=Cb) (Out.refl _ _) rfl 1 _
            have uz:=hSr.own MP λb hb h=>by
             subst h;exact⟨λhp=>by have:=CF.out _ (ad6.out _ lC5 hp);omega,by omega⟩
            have MR:=hAr.out (M:=λb=>b=Cb) (Ne.symm nCR) MP;have B12:=A0.out (M:=λb=>b=Cb) ak MP;have Kh:=A4.out (M:=λb=>b=Cb) ak MP;have Hy:=ah (At.out (M:=λb=>b=Cb) wm.out ak MP);have agA:=ah (Cc.out (M:=λb=>b=Cb) RB.out MP (Ne.symm nCg));have aeb:=ah (bD (M:=λb=>b=Cb) hown.out (λg' hg' e=>by have:=(hown.out.lt g' hg').1;omega) MP);have Gi:N5<=UC.heap.size:=aH FC MP.size
            have aiV:Hid (br.drop (k2+1)=Li.tail i0 (s.c 46) (s.b 45) oQ en/\en<=k/\(out++sh).length=en/\(xs,hi)=((out++sh)++(Fw.dO B (Fw.lay B f) z i0 i1 hh fl (decide (k2+1=0)) y2 (br.drop (k2+1))).1,(Fw.dO B (Fw.lay B f) z i0 i1 hh fl (decide (k2+1=0)) y2 (br.drop (k2+1))).2)):=ah ⟨HB2.out.2,hle,by rw[ja7,HOL.out,HSL.out];have:=QB.out;omega,by
             have h1:=hTT.out.2.2.2;rw[HDR.out,<-HB2.out.2]at h1;have h2:=Gd (y1:=y1) (l:=bs.map (·.ld)) (d:=deep) h1 (by rw[OZ.out];exact HY1.out) (by rw[show((at_,en):Nat×Nat).2-((at_,en):Nat×Nat).1=i from HD.out];exact HRL.out);rw[HSH.out,<-qI,hy2]at h2
             exact h2⟩
            clear hW lC Gg Gh zC1 MP hown hAr A0 A4 AC wm RB hSr hfull hy2;go_wp2
            go_roundw
            case rel=>exact⟨k2+1,n2,P2,zZ,v3,y2,out++sh,en,by have:=HK2.out;omega,by go_num,aiV,HN2.out,uz,ad6,Gi,MR,aiU,Ew,aeb,hvg,B12,Kh,Hy,agA⟩
            case measure=>have:=HK2.out;simp[intOf];omega
      . obtain rfl:k2=nb:=by omega
        have hend:br.drop k2=[]:=by rw[<-HNB.out];exact List.drop_length
        have h4:=hTT.out.2.2.2;rw[hend,JE,List.append_nil]at h4;have hxo:xs=out/\hi=y:=by injection h4 with h1 h2;exact⟨h1,h2⟩
        obtain⟨Rr,cap,csr,rfl,Yn,gR',AR,Hw⟩:=Mw hown.out (by rw[<-hxo.1];exact HXL.out);obtain⟨lC,Gg,Gh⟩:=At.two AC;have c4:=A4.nI;have lw:w.heap.size+1<wr.heap.size:=A4.lt;have HRC:=ah Hw;have oN:=ah hSr;have HXO:=ah hxo;have aec:=ah (hvg.out Rr rfl);have hPN:=ah (show¬ P' (w.heap.size+1)from λh=>by have:=CF.out _ (xJ.out _ ak h);omega)
        have HN2:Hid (n'<=n+2*(fl.map (Fw.cst B f)).sum):=ah (by
         have h1:=wE B f xs1 at_;rw[zY.out,HCS.out]at h1
         omega)
        clear Hw hown hSr hAr A0 wm RB h4 hxo hend;go_wp2;generalize hW:ja5 _ _ _=W6;replace A4:At W6 (w.heap.size+1) (.cells #[.slice Rr out.length cap,y] 147):=hW▸At.set (At.set A4 0 _) 1 _;have Rq:Out (λb=>b=w.heap.size+1) wr W6:=by
         exact Z20
        clear hW c4 lC Gg Gh AC;have AR6:=AR.out (M:=λb=>b=w.heap.size+1) ak Rq;have qE:=oN.out.own Rq λb hb h=>by subst h;exact⟨hPN.out,by omega⟩
        have c4:=A4.lc;have iQ:=qE.fin;have Kk:=qE.kp;have hNw:=qE.new;refine bodyPost_ret (v:=.agg #[.slice Rr out.length cap,y]) (by simp[results,Tryz.results96,go_sem,(c4.2 0),(c4.2 1),c4.1];first|done|exact⟨rfl,rfl⟩|rfl) rfl ⟨Rr,cap,csr,P',n',by rw[HXO.out.1,HXO.out.2],by omega,AR6,by rw[HXO.out.1];exact HRC.out,HN2.out,Kk,hNw,aec.out,iQ⟩
end
section
variable {Y:pU} {B:Int->Fw.Bx} {F:Int->Nat} {D:Int->Prop} {KM:World->Nat->Prop} {f:Nat} {w:World} {P:Nat->Prop}
theorem abI(hL:vG Y B F D KM f)(hK:∀(X X':World) (b:Nat),KM X b->Below X X X'->KM X' b)(rT:∀(X X':World) (b:Nat),KM X b->Out (λq=>q≠b) X X'->KM X' b)(hR0:RO w Y B D KM)(hkm:Y.km<w.heap.size)
  (z i0 i1:Int) (hz:D z) (hdn:∀k∈(B z).fl,D k/\F k=f) (hne:(B z).fl≠[]) (hl:(B z).fl.length<=64) (n:Nat) (FB:Kp Y B F n P w) (hP:∀b,P b->b<w.heap.size) (hn:n+2*((B z).fl.map (Fw.cst B f)).sum<maxLen) (xs:List Fw.Ld) (hi:Int) (hm:Fw.sw B (Fw.lay B f) z i0 i1=(xs,hi)) :
  Calls ja0 97 #[Y.lb,.agg #[z,i0,i1]] w λe w'=>∃R cap cs P' n',e=.returned (.agg #[.slice (some ⟨R,0,none⟩) xs.length cap,hi])/\w.heap.size<=R/\At w' R (.cells cs 88)/\nD cs xs/\n'<=n+2*((B z).fl.map (Fw.cst B f)).sum/\Kp Y B F n' P' w'/\(∀b,P' b->P b\/w.heap.size<=b)/\¬ P' R/\Out (λb=>b=Y.pm) w w':=by
 obtain⟨es0,Uc,nY⟩:=hR0.Fz;have hpl:=nY.lt;obtain⟨fl,hfl⟩:=aA ((B z).fl);rw[hfl]at hdn hne hl hn ⊢;obtain⟨s,hs⟩:=aA ((B z).sty);obtain⟨wO,hx0⟩:=aA (gD Y B i0 fl);obtain⟨xs1,hx1⟩:=aA (wO.map (Vy B f z i0 i1));obtain⟨sz,hszz⟩:=aA (clS B f z i0 i1 fl);obtain⟨xs2,hx2⟩:=aA (xs1.mapIdx (clB B f z i0 i1 sz));obtain⟨long,hlong⟩:=aA (nC xs2);obtain⟨high,hhigh⟩:=aA (Li.long (s.c 46) long);obtain⟨room,hroom⟩:=aA ((if i1 = -1 then high else i1));obtain⟨st,hst⟩:=aA (Ju.row (Ju.starts (s.c 43) room (s.c 46) long) xs2.length)
 have HXS:Hid (xs2.mapIdx (clE (s.c 44) i0 st)=xs/\high=hi):=ah (by
  have h:=F9 Y B f z i0 i1 fl hfl sz hszz xs2 (by rw[hx0,hx1,hx2]) high (by rw[hs,hlong];exact hhigh);rw[hm,hs,hlong,hroom,hst]at h;injection h with h1 h2
  exact⟨h1.symm,h2.symm⟩)
 obtain⟨m,hmm⟩:=aA fl.length;have HL0:Hid (wO.length=m):=ah (by rw[<-hx0,<-hmm];simp[gD]);have zY:Hid (xs1.length=m):=ah (by rw[<-hx1,jb7,HL0.out]);have HL2:Hid (xs2.length=m):=ah (by rw[<-hx2,List.length_mapIdx,zY.out]);have HLZ:Hid (sz.length=m):=ah (by rw[<-hszz];unfold clS;rw[JC,hmm]);have CW:Hid (st.length=m):=ah (by rw[<-hst,Ju.oH,HL2.out])
 have Yk:Hid (∀x∈wO,Ml Y B D F f i0 x):=ah (by
  rw[<-hx0];intro x hx;obtain⟨k,hk,e⟩:=List.mem_map.1 hx;rw[<-e]
  exact Rx (hdn k hk).1 (hdn k hk).2)
 have JB:Hid (∀x∈xs1,Ml Y B D F f i0 x):=ah (by
  rw[<-hx1];intro x hx;obtain⟨y,hy,e⟩:=List.mem_map.1 hx;rw[<-e]
  exact abm (Yk.out y hy))
 have akr:Hid (∀x∈xs2,Ml Y B D F f i0 x):=ah (by
  rw[<-hx2];intro x hx;obtain⟨i,hi,e⟩:=List.mem_mapIdx.1 hx;rw[<-e]
  exact abn i (JB.out _ (jc2 _)))
 have VE:Hid (∀k,iF B f xs1 k=iF B f wO k):=ah λk=>XZ (by rw[<-hx1,List.map_map];rfl) k
 have HCS:Hid (iF B f wO m=(fl.map (Fw.cst B f)).sum):=ah (by
  unfold iF;rw[<-hx0,<-hmm];unfold gD;rw[<-List.map_take,List.take_length,List.map_map]
  rfl)
 have Sj:Hid (xs1=wO.map (Vy B f z i0 i1)):=ah hx1.symm;have HX2:Hid (xs2=xs1.mapIdx (clB B f z i0 i1 sz)):=ah hx2.symm;have HX0:Hid (wO=gD Y B i0 fl):=ah hx0.symm;have HSZ:=ah hszz;have OZ:=ah hs;have HLG:=ah hlong;have HHI:=ah hhigh;have HRM:=ah hroom;have HST:=ah hst;have Gu:=ah hfl;have HM:=ah hmm;have HN:=ah hn;have HDN:=ah hdn;have uG:=ah hR0;rw[hmm]at hl;clear hx1 hx2 hx0 hszz hlong hhigh hroom hst hm hmm;have hS:=o9.start FB hP;have wK:=hR0;obtain⟨b0,hb0⟩:=aA (Y.bl z);have hbx:=(wK.box z hz).1;rw[hb0,hs]at hbx;have yP:=ah hbx.style;have Uq:=hbx.lt;have b1:Below w w ((w.alloc (.cells #[z,i0,i1] 86)).alloc (.cells #[.slice none 0 0,()] 147)):=aB (aB aD _) _;have A0:At ((w.alloc (.cells #[z,i0,i1] 86)).alloc (.cells #[.slice none 0 0,()] 147)) w.heap.size (.cells #[z,i0,i1] 86):=At.alloc (At.new _ _) _;have A4:At ((w.alloc (.cells #[z,i0,i1] 86)).alloc (.cells #[.slice none 0 0,()] 147)) (w.heap.size+1) (.cells #[.slice none 0 0,()] 147):=At.new' _ Ka;have hS1:=hS.after b1;have FT:=wK.keep hK b1;clear hdn hR0 wK hS nY hs hbx hfl FB hn;go_enter Tryz.func97,Tryz.ntmps97
 go_upto_region 1 with(fail)
 generalize (w.alloc (.cells #[z,i0,i1] 86)).alloc (.cells #[.slice none 0 0,()] 147)=w1 at *;have afW:=A4.lt;have hsz:=b1.size;have hlk:=λX (h:Below w1 w1 X)=>(FT.keep hK h).look hz;simp only[hb0]at hlk;have XM:=ah (λj hj=>(b1.cell (p:=⟨b0,0+j,none⟩) Uq).trans (yP.out j hj):uf w1 b0 0 s);have Vw:b0<w1.heap.size:=aU Uq hsz;obtain⟨lY,xk,xq,zn,zo,zq,zu⟩:=At.six FT.lay;obtain⟨l0,eY,eZ,fV⟩:=At.three A0;have hSd:Below w1 w1 w1.drew:=Below.drew aD;refine gZ (S:=λX=>Below w1 w1 X) 12 ?_ ?_
 . exact hSd
 intro hx;clear hSd;refine aG 0 ?_;refine aG 1 ?_;refine aG 2 ?_;refine aG 3 ?_;refine aG 4 ?_;refine aG 5 ?_;refine jc 6 rfl (aY aQ rfl rfl rfl (λX h=>hlk X h)) ?_;refine aG 7 ?_;refine aG 8 ?_;refine jc 9 rfl (iD aQ (.tmp 29) rfl rfl (λX h=>λj hj=>(h.cell (p:=⟨b0,0+j,none⟩) Vw).trans (XM.out j hj))) ?_;refine tk1 10 ?_;refine aj.Step.value (jq rfl) ?_;obtain⟨w2,hw2,AS,hb2,gT⟩:∃w2,w2=w1.drew.alloc (.cells (cells Re.zero) 59)/\At w2 w1.drew (.cells (cells Re.zero) 59)/\Below w1.drew w1.drew w2/\w1.heap.size<=w1.drew.heap.size:=⟨_,rfl,At.new _ _,aB aD _,hx.size⟩;rw[<-hw2];clear hw2;replace hx:=Below.ay hx aC hb2;generalize w1.drew.heap.size=T at *;refine⟨λ_=>hx,?_⟩
 (try simp only[bN,bO,bP,tks])
 refine tk1 11 ?_;refine aj.Step.skip (jr (.tmp 5) (.tmp 30) rfl rfl rfl AS) ?_;replace AS:At (w2.setRow T (cells s)) T (.cells (cells s) 59):=At.setRow AS _;have hx2:Below w1 w1 (w2.setRow T (cells s)):=aM hx gT _;generalize w2.setRow T (cells s)=w3 at *;refine⟨λ_=>hx2,?_⟩
 (try simp only[bN,bO,bP,tks])
 refine gX ?_;have abg:=hx2.size;have qp:=hS1.after hx2;have B3:=A0.keep hx2;have C3:=A4.keep hx2;have FH:=qp.ro rT uG.out hkm;have nM:Calls ja0 131 #[Y.lb,.agg #[z,i0,i1]] w3 λe w'=>(∃R q cs,e=.returned (.slice (some ⟨R,q,none⟩) m m)/\w3.heap.size<=R/\At w' R (.cells cs 216)/\eX cs q wO)/\Below w3 w3 w':=by
  exact Z1v
 obtain⟨l0,eY,eZ,fV⟩:=At.three B3;have hTN:w.heap.size+1<T:=by omega
 have lT:=AS.lt;clear b1 A0 A4 hS1 FT XM hlk xk xq zn zo zq zu lY yP hb2 hx FH Uq Vw hb0
 go_upto_region 4 with(go_at_call 131;(with_reducible refine nM.mono ?_);rintro e' w4 ⟨⟨R,q,cs,rfl,gR,hA4,Ud⟩,hb4⟩)
 clear nM;have HI4:=ah Ud;have F8:=qp.after hb4;have B4:=B3.keep hb4;have C4:=C3.keep hb4;have XP:=ah (AS.keep hb4);have adK:=hb4.size;have sI:w.heap.size<=R:=by omega
 have XH:¬ P R:=λh=>by have:=hP R h;omega
 have lR4:=hA4.lt;have hTR:T<R:=by omega
 have hT4:T<w4.heap.size:=by omega
 obtain⟨N4,hN4⟩:=aA w4.heap.size;rw[hN4]at lR4 hT4;have HN4:=ah hN4;clear hb4 Ud AS B3 C3 qp hx2 l0 eY eZ fV hN4
 go_loopw [36] (λiv wr=>∃(k n':Nat) (P':Nat->Prop) (cs':Array Value),k<=m/\iv=.int .i64 k/\n'<=n+iF B f wO k/\o9 Y B F w P n' P' wr/\(∀b,b<N4->P' b->P b)/\N4<=wr.heap.size/\At wr R (.cells cs' 216)/\Hid (eX cs' q (Ei (Vy B f z i0 i1) wO k))/\At wr w (.cells #[z,i0,i1] 86)/\At wr (w.heap.size+1) (.cells #[.slice none 0 0,()] 147)/\Hid (At wr T (.cells (cells s) 59))) (λiv _=>m-(intOf iv).toNat)
 case atStart=>exact⟨0,n,P,cs,eP _,rfl,by simp[iF],F8,λb hb h=>h,by rw[HN4.out];exact aJ _,hA4,ah (by rw[Ej];exact HI4.out),B4,C4,XP⟩
 case round =>
  clear F8 hA4 B4 C4 XP;obtain⟨k,n',P',cs',hk,rfl,hn',hSr,xJ,FC,hAr,hC,A0,A4,hST⟩:=hrel;by_cases hlt:k<m
  . have hltz:(k:Int)<(m:Int):=by omega
    have hkx:k<wO.length:=by rw[HL0.out];exact hlt
    have hkc:k<(Ei (Vy B f z i0 i1) wO k).length:=by rw[jo];exact hkx
    have pz:=hC.out.at_ hAr hkc;rw[sS _ _ hkx]at pz;obtain⟨x,hx⟩:=aA (wO[k]);have j5:=ah (Yk.out x (hx▸jc2 _));rw[hx]at pz;have HX:=ah hx;have oN:=ah hSr;have hRr:=hSr.ro rT uG.out hkm;have hbx:=(hRr.box x.ld.id j5.out.d).1;rw[<-j5.out.bx]at hbx;obtain⟨sx,hsx⟩:=aA ((B x.ld.id).sty);rw[hsx]at hbx;generalize Y.vf x.ld.id=vf at hbx;generalize Y.va x.ld.id=va at hbx;generalize (B x.ld.id).ib=ib at hbx;have HSX:=ah hsx;have oZ:=ah hbx;have wL:¬ P' R:=λh=>XH (xJ R lR4 h);have BU:=hAr.lt;have Mq:wr.cell? ⟨R,q+k*17+12,none⟩=some (.pointer x.bx):=(pz 12 ak).trans rfl;have Rt:wr.cell? ⟨R,q+k*17+5,none⟩=some (.int .i64 x.ld.id):=(pz 5 ak).trans rfl;obtain⟨l0,eY,eZ,fV⟩:=At.three A0;clear hRr hbx pz hsx hx hSr
    go_upto_region 7 with(fail)
    have abj:=ah (oN.out.after ((Below.refl wr.heap.size wr).drew));have hcs1:=rC B f wO hkx;rw[HX.out]at hcs1;have hcs2:=wE B f wO (k+1);rw[HL0.out,HCS.out]at hcs2;have hnn:=HN.out;obtain⟨cs0,xI⟩:=aA (Fw.lI B z i0 x.ld.id);have xu:=Ru hK z x.ld.id i0 i1 hz j5.out.d x.bx j5.out.bx wr.drew (abj.out.ro rT uG.out hkm);rw[xI]at xu;obtain⟨ly,wD⟩:=aA (Fw.lay B f x.ld.id i0 i1 cs0 (-1));have Kn:ly.id=x.ld.id:=by rw[<-wD];rfl
    have NS:=ah (show q+k*17+5+7<=cs'.size by have:=hC.out.1;rw[jo]at this;have h2:k*17+17<=wO.length*17:=ak;omega);have n1:w.heap.size≠Y.pm:=by omega
    have n2:w.heap.size≠R:=by omega
    have n34:=uG.out.box x.ld.id j5.out.d;rw[<-j5.out.bx]at n34
    have n3:x.bx≠Y.pm:=λe=>by
     obtain⟨es1,ck1,hp1⟩:=uG.out.Fz;have h1:=n34.1;rw[e]at h1;exact absurd (h1.symm.trans hp1) aV
    have n4:x.bx≠R:=by have:=n34.1.lt;omega
    clear n34;have hSd:Out (λb=>b=Y.pm\/b=R) wr wr.drew/\wr.drew.cell? ⟨R,q+k*17+5,none⟩=some (.int .i64 x.ld.id)/\wr.drew.cell? ⟨R,q+k*17+12,none⟩=some (.pointer x.bx):=⟨(Out.refl _ _).drew,Rt,Mq⟩;refine gZ (S:=λX=>Out (λb=>b=Y.pm\/b=R) wr X/\X.cell? ⟨R,q+k*17+5,none⟩=some (.int .i64 x.ld.id)/\X.cell? ⟨R,q+k*17+12,none⟩=some (.pointer x.bx)) 21 ?_ ?_
    . exact hSd
    intro hx;clear hSd;refine fJ 0 ?_;refine fJ 1 ?_;refine fJ 2 ?_;refine fJ 3 ?_;refine fJ 4 ?_;refine fJ 5 ?_;refine fJ 6 ?_;refine fJ 7 ?_;refine fJ 8 ?_;refine fJ 9 ?_;refine fJ 10 ?_;refine fJ 11 ?_;refine fJ 12 ?_;refine fJ 13 ?_;refine fJ 14 ?_;refine fJ 15 ?_;refine tk1 16 ?_;refine aj.Step.call eB xu ?_;rintro e' w6 ⟨rfl,hb6⟩;have iQ:Out (λb=>b=Y.pm\/b=R) wr w6:=Out.trans' ((Out.refl _ wr).drew) (Out.of_below (M:=λ_=>False) hb6) λ_ _ q=>q.elim;have qE:=abj.out.after hb6;have agB:=(Below.drew (Below.refl wr.heap.size wr)).trans hb6;have xE:=hAr.keep agB;have Pz:w6.cell? ⟨R,q+k*17+5,none⟩=some (.int .i64 x.ld.id):=(hb6.cell (p:=⟨R,_,none⟩) BU).trans Rt;have zX:w6.cell? ⟨R,q+k*17+12,none⟩=some (.pointer x.bx):=(hb6.cell (p:=⟨R,_,none⟩) BU).trans Mq;have hx6:Out (λb=>b=Y.pm\/b=R) wr w6/\w6.cell? ⟨R,q+k*17+5,none⟩=some (.int .i64 x.ld.id)/\w6.cell? ⟨R,q+k*17+12,none⟩=some (.pointer x.bx):=⟨iQ,Pz,zX⟩;refine⟨_,rfl,λ_=>hx6,?_⟩
    (try simp only[bN,bO,bP,tks])
    have qB:=rD hL rT uG.out hkm qE x.ld.id i0 i1 cs0 (-1) j5.out.d j5.out.f ak;rw[wD]at qB;refine tk1 17 ?_;refine aj.Step.call eB qB ?_;rintro e' iJ ⟨rfl,n2',P2,hn2,mF,Hg,jP⟩;have Vx:=xE.lt;have mJ:=xE.out (M:=λb=>b=Y.pm) ak jP;have uh:iJ.cell? ⟨R,q+k*17+5,none⟩=some (.int .i64 x.ld.id):=(Out.cell jP (q+k*17+5) Vx ak).trans Pz;have Gx:iJ.cell? ⟨R,q+k*17+12,none⟩=some (.pointer x.bx):=(Out.cell jP (q+k*17+12) Vx ak).trans zX;have oP:Out (λb=>b=Y.pm\/b=R) wr iJ:=iQ.trans (jP.mono λb _ h => .inl h);have Jy:Out (λb=>b=Y.pm\/b=R) wr iJ/\iJ.cell? ⟨R,q+k*17+5,none⟩=some (.int .i64 x.ld.id)/\iJ.cell? ⟨R,q+k*17+12,none⟩=some (.pointer x.bx):=⟨oP,uh,Gx⟩;refine⟨_,rfl,λ_=>Jy,?_⟩
    (try simp only[bN,bO,bP,tks])
    refine fJ 18 ?_;refine fJ 19 ?_;refine tk1 20 ?_;refine aj.Step.skip (aS mM (.tmp 61) (.tmp 59) rfl rfl rfl mJ (dB ly) NS.out (nX ly)) ?_;have nJ:At (iJ.setRow R (splice cs' (q+k*17+5) (dU ly))) R (.cells (splice cs' (q+k*17+5) (dU ly)) 216):=At.setRow mJ _;have iZ:Out (λb=>b=R) iJ (iJ.setRow R (splice cs' (q+k*17+5) (dU ly))):=Out.setRow (M:=λb=>b=R) (Out.refl _ _) rfl _;have Bd:(iJ.setRow R (splice cs' (q+k*17+5) (dU ly))).cell? ⟨R,q+k*17+5,none⟩=some (.int .i64 x.ld.id):=by
     exact Z1e
    have c9:(iJ.setRow R (splice cs' (q+k*17+5) (dU ly))).cell? ⟨R,q+k*17+9,none⟩=some (.int .i64 ly.s1):=by
     have h1:=mH (cs:=cs') (vs:=dU ly) (q:=q+k*17+5) (j:=4) Z4g (by rw[dB];omega);rw[nJ.cell,show q+k*17+9=q+k*17+5+4 by omega,h1];rfl
    have Hl:(iJ.setRow R (splice cs' (q+k*17+5) (dU ly))).cell? ⟨R,q+k*17+12,none⟩=some (.pointer x.bx):=by
     exact Z2i
    refine⟨λ_=>⟨oP.trans (iZ.mono λb _ h => .inr h),Bd,Hl⟩,?_⟩
    (try simp only[bN,bO,bP,tks])
    refine gX ?_;have qC:¬ P2 R:=λh=>wL (Hg R Vx h);have hput:=hC.out.Rn hkc ly;rw[sS _ _ hkx,HX.out]at hput;have hOr:Out (λb=>b=Y.pm\/b=R) wr (iJ.setRow R (splice cs' (q+k*17+5) (dU ly))):=oP.trans (iZ.mono λb _ h => .inr h);have qD:=mF.own (M:=λb=>b=R) iZ λb hb h=>by subst h;exact⟨qC,sI⟩
    have agC:=ah hput.1;have aiW:Hid ((splice cs' (q+k*17+5) (dU ly)).size=cs'.size):=ah (iG Z4g);have B11:=A0.out (M:=λb=>b=Y.pm\/b=R) ak hOr;have MH:=A4.out (M:=λb=>b=Y.pm\/b=R) ak hOr;have uj:=ah (hST.out.out (M:=λb=>b=Y.pm\/b=R) ak hOr);have Yo:=ah (At.out (M:=λb=>b=Y.pm\/b=R) oZ.out ak hOr);have aiX:wr.heap.size<=w6.heap.size:=iQ.size;have JF:∀b,b<N4->P2 b->P b:=λb hb h=>xJ b hb (Hg b ak h);have MI:N4<=(iJ.setRow R (splice cs' (q+k*17+5) (dU ly))).heap.size:=aH FC hOr.size;generalize iJ.setRow R (splice cs' (q+k*17+5) (dU ly))=p9 at *;generalize splice cs' (q+k*17+5) (dU ly)=cs2 at *;clear hx hx6 Jy hput mJ iZ Bd uh Gx A0 A4 xE qE iQ jP oP Pz zX l0 eY eZ fV Mq Rt hOr Hg mF xu qB agB hb6 hST oZ hAr BU aiX;obtain⟨l2,bQ,bX,bY,bZ,cu,cK,bS,bU⟩:=At.bx1 Yo.out;clear bQ bX bY bZ cu cK;have agD:=nJ.lt;have uy:=λX=>eT (Fw.ed sx 0) (Fw.ed sx 2) X;obtain⟨e02,F5⟩:=aA (Fw.wr (Fw.ed sx 0+Fw.ed sx 2));simp only[F5]at uy;obtain⟨hh,Mg⟩:=aA (IntKind.i64.wrap (ly.s1-e02))
    go_upto_region 8 with(fail)
    have hSd:Below p9 p9 p9.drew:=Below.drew aD;refine gZ (S:=λX=>Below p9 p9 X) 17 ?_ ?_
    . exact hSd
    intro hx;clear hSd;refine aG 0 ?_;refine aG 1 ?_;refine aG 2 ?_;refine aG 3 ?_;refine aG 4 ?_;refine aG 5 ?_;refine aG 6 ?_;refine aG 7 ?_;refine aG 8 ?_;refine aG 9 ?_;refine aG 10 ?_;refine aG 11 ?_;refine aG 12 ?_;refine aG 13 ?_;refine tk1 14 ?_;refine aj.Step.call eB (uy _) ?_;rintro e' wH ⟨rfl,hb⟩;replace hx:=Below.ay hx aC hb;clear hb;refine⟨_,rfl,λ_=>hx,?_⟩
    (try simp only[bN,bO,bP,tks])
    refine aG 15 ?_;refine aG 16 ?_;refine gX ?_;have MR:=nJ.keep hx;have uz:=qD.after hx;have B12:=B11.keep hx;have Kh:=MH.keep hx;have RD:=ah (uj.out.keep hx);have RF:=ah (aL.keep Yo.out hx);have c12:wH.cell? ⟨R,q+k*17+12,none⟩=some (.pointer x.bx):=(hx.cell (p:=⟨R,_,none⟩) agD).trans Hl;have Gi:N4<=wH.heap.size:=aH MI hx.size;clear hx nJ qD B11 MH uj Yo Hl c9 l2 bS bU uy MI agD;have lbx:=aL.lt RF.out;have agE:=MR.lt;obtain⟨l0,eY,eZ,fV⟩:=At.three B12;obtain⟨it,hit⟩:=aA (Fw.asI sx 1 hh i1)
    have mO:∀X,Calls ja0 132 #[.agg #[sx.c 5,sx.c 6,sx.c 9,sx.c 10,sx.c 13,sx.c 14],.agg (cells sx),hh,i1] X λe X'=>e=.returned (.agg (wI it))/\Below X.heap.size X X':=λX=>by
     rw[<-hit];exact Rl _ _ _ _ _ _ sx hh i1 X
    have abF:=ah (show q+k*17+5<=cs2.size by have:=NS.out;have:=aiW.out;omega);have hSd:Out (λb=>b=R) wH wH.drew/\wH.drew.cell? ⟨R,q+k*17+12,none⟩=some (.pointer x.bx):=⟨(Out.refl _ _).drew,c12⟩
    go_upto_region 9 with(fail)
    refine gZ (S:=λX=>Out (λb=>b=R) wH X/\X.cell? ⟨R,q+k*17+12,none⟩=some (.pointer x.bx)) 24 ?_ ?_
    . exact hSd
    intro hx;clear hSd;refine fJ 0 ?_;refine fJ 1 ?_;refine fJ 2 ?_;refine fJ 3 ?_;refine fJ 4 ?_;refine fJ 5 ?_;refine fJ 6 ?_;refine fJ 7 ?_;refine jc 8 rfl (PG (.tmp 85) aQ rfl rfl (λX h=>At.out RF.out n4 h.1)) ?_;refine fJ 9 ?_;refine fJ 10 ?_;refine fJ 11 ?_;refine fJ 12 ?_;refine fJ 13 ?_;refine fJ 14 ?_;refine jc 15 rfl (iD aQ (.tmp 92) rfl rfl (λX h=>aL.style (At.out RF.out n4 h.1))) ?_;refine fJ 16 ?_;refine fJ 17 ?_;refine fJ 18 ?_;refine fJ 19 ?_;refine tk1 20 ?_;refine aj.Step.call eB (mO _) ?_;rintro e' zh ⟨rfl,hb⟩;have ML:At zh R (.cells cs2 216):=At.keep (At.drew MR) hb;have JI:Out (λb=>b=R) wH zh:=Out.trans' ((Out.refl _ wH).drew) (Out.of_below (M:=λ_=>False) hb) λ_ _ q=>q.elim;have c13:zh.cell? ⟨R,q+k*17+12,none⟩=some (.pointer x.bx):=(hb.cell (p:=⟨R,_,none⟩) agE).trans c12;have aiY:Out (λb=>b=R) wH zh/\zh.cell? ⟨R,q+k*17+12,none⟩=some (.pointer x.bx):=⟨JI,c13⟩;refine⟨_,rfl,λ_=>aiY,?_⟩
    (try simp only[bN,bO,bP,tks])
    refine fJ 21 ?_;refine fJ 22 ?_;refine tk1 23 ?_;refine aj.Step.skip (aS (q:=q+k*17) zU (.tmp 100) (.tmp 98) rfl rfl rfl ML (gH it) abF.out (CG it)) ?_;have abG:=At.setRow ML (splice cs2 (q+k*17) (wI it));have uD:Out (λb=>b=R) zh (zh.setRow R (splice cs2 (q+k*17) (wI it))):=Out.setRow (M:=λb=>b=R) (Out.refl _ _) rfl _;have c14:(zh.setRow R (splice cs2 (q+k*17) (wI it))).cell? ⟨R,q+k*17+12,none⟩=some (.pointer x.bx):=by
     have h1:=gV (cs:=cs2) (vs:=wI it) (q:=q+k*17) (k:=q+k*17+12) (by rw[gH];exact abF.out) (.inr (by rw[gH];omega));rw[abG.cell,h1,<-ML.cell];exact c13
    refine⟨λ_=>⟨JI.trans uD,c14⟩,?_⟩
    (try simp only[bN,bO,bP,tks])
    refine gX ?_;have Kg:=JI.trans uD;have aiZ:k<((Ei (Vy B f z i0 i1) wO k).set k { x with ld:=ly }).length:=by rw[List.length_set];exact hkc
    have EA:=agC.out.acC aiZ it;rw[List.getElem_set_self,List.set_set]at EA
    have ad2:Hid (eX (splice cs2 (q+k*17) (wI it)) q (Ei (Vy B f z i0 i1) wO (k+1))):=ah (by
     rw[<-yN _ _ hkx,HX.out];have e:Vy B f z i0 i1 x={ x with ld:=ly,it:=it }:=by
      unfold Vy Hu;rw[xI,wD,HSX.out,<-hit,<-Mg,qI,<-F5];rfl
     rw[e]
     exact EA.1)
    have PU:=uz.own (M:=λb=>b=R) Kg λb hb h=>by subst h;exact⟨qC,sI⟩
    have B14:=B12.out (M:=λb=>b=R) n2 Kg;have C14:=Kh.out (M:=λb=>b=R) ak Kg;have agF:=ah (RD.out.out (M:=λb=>b=R) ak Kg);have abB:=aH Gi Kg.size;generalize zh.setRow R (splice cs2 (q+k*17) (wI it))=w14 at *;generalize splice cs2 (q+k*17) (wI it)=cs4 at *;clear hx EA MR ML JI uD Kg c12 c13 c14 uz B12 Kh RD RF l0 eY eZ fV mO lbx agE Gi Mg F5 hit wD xI agC hC;go_wp2
    go_roundw
    case rel=>exact⟨k+1,n2',P2,cs4,by omega,by go_num,by omega,PU,JF,abB,abG,ad2,B14,C14,agF⟩
    case measure=>simp[intOf];omega
  . obtain rfl:k=m:=by omega
    have Us:Hid (eX cs' q xs1):=ah (by
     have:=hC.out;rw[<-HL0.out,Jw,<-Sj.out]at this
     exact this)
    have hn1:n'<=n+iF B f wO k:=hn';have agG:=ah xJ;have hRr:=hSr.ro rT uG.out hkm;have JA:wr.cell? ⟨T,46,none⟩=some (.int .i64 (s.c 46)):=(hST.out.cell 46).trans (bJ s ak rfl);have lTr:=hST.out.lt;have BU:=hAr.lt;have agH:Calls ja0 138 #[.slice (some ⟨R,q,none⟩) k k,.agg #[i0,i1],s.c 46] wr λe w'=>(∃b,e=.returned (.slice (some ⟨b,0,none⟩) k k)/\wr.heap.size<=b/\Ints w' (some ⟨b,0,none⟩) sz)/\Below wr wr w':=by
     have hg:∀i,i<fl.length->fl.getD i 0=fl[i]! := λi h=>by simp[List.getD,h]
     have hG:∀i (h:i<xs1.length),xs1[i]=Vy B f z i0 i1 (vF Y B i0 (fl.getD i 0)):=λi h=>by
      have h':i<fl.length:=by have:=zY.out;have:=HM.out;omega
      have e1:=Sj.out;subst e1;have e0:=HX0.out;subst e0;simp[gD,List.getD,ja6 h']
     have h1:=abl (some ⟨R,q,none⟩) xs1 k i0 i1 (s.c 46) (λi=>Hu B f z i0 i1 (fl.getD i 0)) (λi=>Fw.SH B i0 1 (fl.getD i 0)) (λi=>(B (fl.getD i 0)).sty) wr (Us.out.ims hAr) (by rw[zY.out];omega) (λi h=>by rw[hG i h];rfl) (λi h=>by rw[hG i h];rfl) (λi h=>by
      have ho:=JB.out xs1[i] (jc2 _);have hb:=(hRr.box _ ho.d).1;rw[<-ho.bx]at hb;have e:xs1[i].ld.id=fl.getD i 0:=by rw[hG i h];rfl
      have e2:(B xs1[i].ld.id).sty=(B (fl.getD i 0)).sty:=by rw[e]
      rw[e2]at hb
      exact⟨_,_,_,hb⟩)
     rw[zY.out]at h1;have e:yQ (λi=>Hu B f z i0 i1 (fl.getD i 0)) (λi=>Fw.SH B i0 1 (fl.getD i 0)) k i1 (s.c 46)=sz:=by rw[<-HSZ.out];unfold clS;rw[HM.out,OZ.out]
     rw[e]at h1;exact h1
    obtain⟨l0,eY,eZ,fV⟩:=At.three A0;have oN:=ah hSr;have aks:k<=64:=hl;clear hC hn' hlt hRr hSr xJ HI4
    go_upto_region 12 with(go_at_call 138;(with_reducible refine agH.mono ?_);rintro e' w5 ⟨⟨bz,rfl,gbz,xY⟩,hb5⟩)
    have hS5:=oN.out.after hb5;have xD:=hAr.keep hb5;have B5:=A0.keep hb5;have C5:=A4.keep hb5;have PD:=ah (hST.out.keep hb5);have agI:=ah xY;have Vz:N4<=w5.heap.size:=aH FC hb5.size;have gz:N4<=bz:=aH FC gbz;clear agH hb5 xY oN hAr A0 A4 hST FC gbz l0 eY eZ fV JA lTr BU
    go_loopw [109] (λiv wr=>∃(j n2:Nat) (P2:Nat->Prop) (cs2:Array Value),j<=k/\iv=.int .i64 j/\n2<=n+iF B f wO k+iF B f xs1 j/\o9 Y B F w P n2 P2 wr/\(∀b,b<N4->P2 b->P b)/\N4<=wr.heap.size/\At wr R (.cells cs2 216)/\Hid (eX cs2 q (rF (clB B f z i0 i1 sz) xs1 j))/\At wr w (.cells #[z,i0,i1] 86)/\At wr (w.heap.size+1) (.cells #[.slice none 0 0,()] 147)/\Hid (At wr T (.cells (cells s) 59))/\Hid (Ints wr (some ⟨bz,0,none⟩) sz)) (λiv _=>k-(intOf iv).toNat)
    case atStart=>exact⟨0,n',P',cs',eP _,rfl,by have h0:iF B f xs1 0=0:=rfl;omega,hS5,agG.out,Vz,xD,ah (by rw[zW];exact Us.out),B5,C5,PD,agI⟩
    case round =>
     clear hS5 xD B5 C5 PD agI Us agG hn1 Vz;obtain⟨j,n2,P2,cs2,hj,rfl,hn2,hSr,xJ,FC,hAr,hC,A0,A4,hST,xY⟩:=hrel;by_cases hlt:j<k
     . have hltz:(j:Int)<(k:Int):=by omega
       have hjx:j<xs1.length:=by rw[zY.out];exact hlt
       have hjc:j<(rF (clB B f z i0 i1 sz) xs1 j).length:=by rw[gP];exact hjx
       have pz:=hC.out.at_ hAr hjc;rw[oO _ _ hjx]at pz;obtain⟨x,hx⟩:=aA (xs1[j]);have j5:=ah (JB.out x (hx▸jc2 _));rw[hx]at pz;have HX:=ah hx;have oN:=ah hSr;have hRr:=hSr.ro rT uG.out hkm;have hbx:=(hRr.box x.ld.id j5.out.d).1;rw[<-j5.out.bx]at hbx;obtain⟨sx,hsx⟩:=aA ((B x.ld.id).sty);rw[hsx]at hbx;generalize Y.vf x.ld.id=vf at hbx;generalize Y.va x.ld.id=va at hbx;generalize (B x.ld.id).ib=ib at hbx;have HSX:=ah hsx;have oZ:=ah hbx;have wL:¬ P2 R:=λh=>XH (xJ R lR4 h);have BU:=hAr.lt;have Mq:wr.cell? ⟨R,q+j*17+12,none⟩=some (.pointer x.bx):=(pz 12 ak).trans rfl;have Rt:wr.cell? ⟨R,q+j*17+5,none⟩=some (.int .i64 x.ld.id):=(pz 5 ak).trans rfl;obtain⟨lz,cz⟩:=lints xY.out (by rw[HLZ.out];exact hlt);obtain⟨v,hv⟩:=aA (sz.getD j 0);rw[hv]at cz;obtain⟨l0,eY,eZ,fV⟩:=At.three A0;clear hRr hbx pz hsx hx hSr
       go_upto_region 15 with(fail)
       clear cz lz;have xu:=λX (h:Below wr wr X)=>Ru hK z x.ld.id i0 i1 hz j5.out.d x.bx j5.out.bx X ((oN.out.after h).ro rT uG.out hkm);obtain⟨cs0,xI⟩:=aA (Fw.lI B z i0 x.ld.id);simp only[xI]at xu;refine aj.fO (λa0 a W5=>∃(U:Nat) (agJ agK u119 agL agM agN agO:Value),a={ a0 with tmps:=(((((((a0.tmps.setIfInBounds 117 agJ).setIfInBounds 118 agK).setIfInBounds 119 u119).setIfInBounds 120 agL).setIfInBounds 121 agM).setIfInBounds 122 agN).setIfInBounds 123 agO).setIfInBounds 13 (.pointer U) }/\wr.heap.size<=U/\At W5 U (.cells #[cs0,.int .i64 (-1)] 81)/\Below wr wr W5) ?_ ?_
       . have hSd:Below wr wr wr.drew:=Below.drew aD
         refine gZ (S:=λX=>Below wr wr X) 9 ?_ ?_
         . exact hSd
         intro hx;clear hSd;refine aG 0 ?_;refine aG 1 ?_;refine aG 2 ?_;refine aG 3 ?_;refine aG 4 ?_;refine aG 5 ?_;clear Mq Rt l0 eY eZ fV oZ hC hST xY A0 A4 hAr;refine tk2 6 7 ?_ ?_
         . refine aj.Step.call eB (xu _ hx) ?_
           rintro e' w9 ⟨rfl,hb⟩;replace hx:=Below.ay hx aC hb;clear hb;refine⟨_,rfl,λ_=>hx,?_⟩
           (try simp only[bN,bO,bP,tks])
           refine tk1 7 ?_;refine aj.Step.value (u:=.pointer w9) (w':=w9.alloc (.cells #[(),()] 81)) eB ?_;obtain⟨iJ,uF,AT,fF,gT⟩:∃iJ,iJ=w9.alloc (.cells #[(),()] 81)/\At iJ w9 (.cells #[(),()] 81)/\Below w9 w9 iJ/\wr.heap.size<=w9.heap.size:=⟨_,rfl,At.new _ _,aB aD _,hx.size⟩;rw[<-uF];clear uF;replace hx:=Below.ay hx aC fF;generalize w9.heap.size=U at *;refine⟨λ_=>hx,?_⟩;exact Zr
         . refine aj.Step.value (u:=.pointer wr.drew) (w':=wr.drew.alloc (.cells #[(),()] 81)) eB ?_
           obtain⟨iJ,uF,AT,fF,gT⟩:∃iJ,iJ=wr.drew.alloc (.cells #[(),()] 81)/\At iJ wr.drew (.cells #[(),()] 81)/\Below wr.drew wr.drew iJ/\wr.heap.size<=wr.drew.heap.size:=⟨_,rfl,At.new _ _,aB aD _,hx.size⟩;rw[<-uF];clear uF;replace hx:=Below.ay hx aC fF;generalize wr.drew.heap.size=U at *;refine⟨λ_=>hx,?_⟩
           (try simp only[bN,bO,bP,tks])
           refine tk1 6 ?_;refine aj.Step.call eB (xu _ hx) ?_;rintro e' w9 ⟨rfl,hb⟩;replace hx:=Below.ay hx aC hb;replace AT:=AT.keep hb;clear hb;refine⟨_,rfl,λ_=>hx,?_⟩;exact Zr
       . rintro a W9 ⟨U,agJ,agK,u119,agL,agM,agN,agO,rfl,gU,AU,fF⟩
         simp only[List.setIfInBounds_toArray,List.set_cons_zero,List.set_cons_succ];clear xu Mq Rt l0 eY eZ fV
         have HIM:Hid (qA wr R (q+j*17) x):=ah (by
          have h:=hC.out.at_ hAr hjc;rw[oO _ _ hjx,HX.out]at h
          exact h)
         have agP:=ah (aL.keep oZ.out fF);have lR9:=aU BU fF.size;have Mq:W9.cell? ⟨R,q+j*17+12,none⟩=some (.pointer x.bx):=(fF.cell (p:=⟨R,_,none⟩) BU).trans ((HIM.out 12 ak).trans rfl);obtain⟨l2,bQ,bX,bY,bZ,cu,cK,bS,bU⟩:=At.bx1 agP.out;clear bQ bX bY bZ cu cK;have uy:=λX=>eT (Fw.ed sx 0) (Fw.ed sx 2) X;obtain⟨e02,F5⟩:=aA (Fw.wr (Fw.ed sx 0+Fw.ed sx 2));simp only[F5]at uy;obtain⟨t1,ht1⟩:=aA (IntKind.i64.wrap (v+e02))
         go_upto_region 17 with(go_at_call 71;(with_reducible refine(uy _).mono ?_);rintro e' iJ ⟨rfl,iP⟩;replace AU:=AU.keep iP;obtain⟨lU,cU0,cU1⟩:=At.two AU;have zU1:=AU.thaw 1)
         generalize hW:ja5 _ _ _=Ca;replace AU:At Ca U (.cells #[cs0,t1] 81):=hW▸At.set AU 1 _;have fE:Below wr wr Ca:=by
          rw[<-hW];exact Below.setCell (Below.ay fF aC iP) gU _
         clear hW iP fF agP lR9 Mq l2 bS bU uy cU0 cU1 zU1 lU;obtain⟨lU,cU0,cU1⟩:=At.two AU;have agQ:=ah (oN.out.after fE);have nJ:=hAr.keep fE;have B11:=A0.keep fE;have MH:=A4.keep fE;have uj:=ah (hST.out.keep fE)
         have Ho:=ah (xY.out.keep fE λ_ a ha=>by
          have h:=lints xY.out (by rw[HLZ.out];exact hlt);injection ha with ha;rw[<-ha]
          exact h.1)
         have Rt:Ca.cell? ⟨R,q+j*17+5,none⟩=some (.int .i64 x.ld.id):=(fE.cell (p:=⟨R,_,none⟩) BU).trans ((HIM.out 5 ak).trans rfl);have agR:=fE.size;obtain⟨l0,eY,eZ,fV⟩:=At.three B11;have hcs1:=rC B f xs1 hjx;rw[HX.out]at hcs1;have hcs2:=wE B f xs1 (j+1);rw[zY.out,VE.out k,HCS.out]at hcs2;have akt:=HCS.out;have hnn:=HN.out;obtain⟨ly,wD⟩:=aA (Fw.lay B f x.ld.id i0 i1 cs0 t1);have Kn:ly.id=x.ld.id:=by rw[<-wD];rfl
         have NS:=ah (show q+j*17+5+7<=cs2.size by have:=hC.out.1;rw[gP]at this;have h2:j*17+17<=xs1.length*17:=ak;omega);have n1:w.heap.size≠Y.pm:=by omega
         have n2':w.heap.size≠R:=by omega
         have n5:U≠Y.pm:=by omega
         have n6:U≠R:=by omega
         have hSd:Out (λb=>b=Y.pm\/b=R) Ca Ca.drew/\Ca.drew.cell? ⟨R,q+j*17+5,none⟩=some (.int .i64 x.ld.id)/\True:=⟨(Out.refl _ _).drew,Rt,trivial⟩;clear fE HIM oZ hAr A0 A4 hST xY;refine gZ (S:=λX=>Out (λb=>b=Y.pm\/b=R) Ca X/\X.cell? ⟨R,q+j*17+5,none⟩=some (.int .i64 x.ld.id)/\True) 15 ?_ ?_
         . exact hSd
         intro hx;clear hSd;refine fJ 0 ?_;refine fJ 1 ?_;refine fJ 2 ?_;refine fJ 3 ?_;refine fJ 4 ?_;refine fJ 5 ?_;refine fJ 6 ?_;refine fJ 7 ?_;refine fJ 8 ?_;refine fJ 9 ?_;refine fJ 10 ?_;have qB:=rD hL rT uG.out hkm (agQ.out.after ((Below.refl Ca.heap.size Ca).drew)) x.ld.id i0 i1 cs0 t1 j5.out.d j5.out.f ak;rw[wD]at qB;refine tk1 11 ?_;refine aj.Step.call eB qB ?_;rintro e' iJ ⟨rfl,n3',P3,hn3,mF,Hg,jP⟩;have Vx:R<Ca.drew.heap.size:=nJ.lt;have mJ:At iJ R (.cells cs2 216):=At.out (M:=λb=>b=Y.pm) (At.drew nJ) ak jP;have uh:iJ.cell? ⟨R,q+j*17+5,none⟩=some (.int .i64 x.ld.id):=(Out.cell jP (q+j*17+5) Vx ak).trans Rt;have oP:Out (λb=>b=Y.pm\/b=R) Ca iJ:=((Out.refl _ Ca).drew).trans (jP.mono λb _ h => .inl h);refine⟨_,rfl,λ_=>⟨oP,uh,trivial⟩,?_⟩
         (try simp only[bN,bO,bP,tks])
         have Jy:Out (λb=>b=Y.pm\/b=R) Ca iJ/\iJ.cell? ⟨R,q+j*17+5,none⟩=some (.int .i64 x.ld.id)/\True:=⟨oP,uh,trivial⟩;refine fJ 12 ?_;refine fJ 13 ?_;refine tk1 14 ?_;refine aj.Step.skip (aS mM (.tmp 149) (.tmp 147) rfl rfl rfl mJ (dB ly) NS.out (nX ly)) ?_;have MR:At (iJ.setRow R (splice cs2 (q+j*17+5) (dU ly))) R (.cells (splice cs2 (q+j*17+5) (dU ly)) 216):=At.setRow mJ _;have nL:Out (λb=>b=R) iJ (iJ.setRow R (splice cs2 (q+j*17+5) (dU ly))):=Out.setRow (M:=λb=>b=R) (Out.refl _ _) rfl _;have acN:(iJ.setRow R (splice cs2 (q+j*17+5) (dU ly))).cell? ⟨R,q+j*17+5,none⟩=some (.int .i64 x.ld.id):=by
          have h1:=mH (cs:=cs2) (vs:=dU ly) (q:=q+j*17+5) (j:=0) Z4g (by rw[dB];omega);rw[Nat.add_zero]at h1;rw[MR.cell,h1,<-Kn];rfl
         have hOr:=oP.trans (nL.mono λb _ h => .inr h);refine⟨λ_=>⟨hOr,acN,trivial⟩,?_⟩
         (try simp only[bN,bO,bP,tks])
         refine gX ?_;have qC:¬ P3 R:=λh=>wL (Hg R Vx h);have hput:=hC.out.Rn hjc ly;rw[oO _ _ hjx,HX.out]at hput
         have ai0:Hid (eX (splice cs2 (q+j*17+5) (dU ly)) q (rF (clB B f z i0 i1 sz) xs1 (j+1))):=ah (by
          rw[<-zV _ _ hjx,HX.out];have e:clB B f z i0 i1 sz j x={ x with ld:=ly }:=by
           unfold clB;rw[hv,xI,HSX.out,<-wD,<-ht1,qI,<-F5];rfl
          rw[e]
          exact hput.1)
         have uz:=mF.own (M:=λb=>b=R) nL λb hb h=>by subst h;exact⟨qC,sI⟩
         have B12:=B11.out (M:=λb=>b=Y.pm\/b=R) ak hOr;have Kh:=MH.out (M:=λb=>b=Y.pm\/b=R) ak hOr;have RD:=ah (uj.out.out (M:=λb=>b=Y.pm\/b=R) ak hOr);have agS:=ah (vH Ho.out hOr ak);have JF:∀b,b<N4->P3 b->P b:=λb hb h=>xJ b hb (Hg b (by show b<Ca.heap.size;omega) h);have Gi:N4<=(iJ.setRow R (splice cs2 (q+j*17+5) (dU ly))).heap.size:=aH (aH FC agR) hOr.size;generalize iJ.setRow R (splice cs2 (q+j*17+5) (dU ly))=wH at *;generalize splice cs2 (q+j*17+5) (dU ly)=zZ at *;clear hx Jy hput mJ nL acN uh jP oP hOr Hg mF qB l0 eY eZ fV Rt nJ B11 MH uj Ho hC lU cU0 cU1 AU agQ;go_wp2
         go_roundw
         case rel=>exact⟨j+1,n3',P3,zZ,by omega,by go_num,by omega,uz,JF,Gi,MR,ai0,B12,Kh,RD,agS⟩
         case measure=>simp[intOf];omega
     . obtain rfl:j=k:=by omega
       have hC2:Hid (eX cs2 q xs2):=ah (by
        have:=hC.out;rw[<-zY.out,En,<-HX2.out]at this
        exact this)
       have HN2:Hid (n2<=n+2*(fl.map (Fw.cst B f)).sum):=ah (by
        have h1:=hn2;rw[VE.out j,HCS.out]at h1
        omega)
       have wL:¬ P2 R:=λh=>XH (xJ R lR4 h);have hPN:=ah (show¬ P2 (w.heap.size+1)from λh=>by have:=hP _ (xJ _ ak h);omega);have oN:=ah hSr;have abH:=ah hSr.lt;have hb6:Below wr wr (wr.alloc (.cells #[.int .i64 1] 3)):=aB aD _;have xE:At (wr.alloc (.cells #[.int .i64 1] 3)) wr.heap.size (.cells #[.int .i64 1] 3):=At.new _ _;have Ey:=Xx (some ⟨R,q,none⟩) xs2 j wr.heap.size _ ((hC2.out.ims hAr).after hb6) (by rw[HL2.out];omega) (xE.cell 0) xE.lt;rw[HL2.out]at Ey;have hs6:=hb6.size;clear hC hn2 hlt hSr xJ xE
       go_upto_region 20 with(first|(go_at_call 139;(with_reducible refine(nA 1 _).mono ?_);rintro e w1 ⟨rfl,rfl⟩)|(go_at_call 134;(with_reducible refine Ey.mono ?_);rintro e' w7 ⟨⟨bt,rfl,gbt,hT⟩,mX⟩))
       have MS:Below wr wr w7:=hb6.trans (mX.mono hs6);have elg:long.length=j:=by rw[<-HLG.out];simp[nC,HL2.out]
       have hIt:Ints w7 (some ⟨bt,0,none⟩) long:=by
        have h1:=fM _ _ Ko hT;have h2:=rG (nC xs2);rw[HLG.out,elg]at h2;rw[HLG.out,h2]at h1;exact h1
       have hS7:=oN.out.after MS;have Nz:=hAr.keep MS;have B7:=A0.keep MS;have C7:=A4.keep MS;have abJ:=ah (hST.out.keep MS);have hN7:N4<=w7.heap.size:=aH FC MS.size;have hP7:=ah (λb (h:P2 b)=>aU (abH.out b h) MS.size);have HIt:=ah hIt;clear Ey hb6 mX hT gbt hs6 oN hAr A0 A4 hST FC abH MS hIt xY;have JA:w7.cell? ⟨T,46,none⟩=some (.int .i64 (s.c 46)):=(abJ.out.cell 46).trans (bJ s ak rfl);have lT7:=abJ.out.lt;have Uk:∀X,(Instr.build 147 #[(1,.int .i64 high)]).run ja0 X=.ok (.agg #[.slice none 0 0,high]) X:=λ_=>by kernel_rfl
       have mD:=Mv (some ⟨bt,0,none⟩) long j j (s.c 46) w7 HIt.out elg aC ak;rw[HHI.out]at mD;have ELG:=ah elg;clear elg
       go_upto_region 21 with(go_at_call 140;(with_reducible refine mD.mono ?_);rintro e w8 ⟨rfl,rfl⟩)
       generalize hW:ja4 _ _=w9;obtain⟨Cb,hCb⟩:=aA w7.heap.size;have AC:At w9 Cb (.cells #[.slice none 0 0,high] 147):=hW▸At.new' _ hCb.symm;have fF:Below w7 w7 w9:=hW▸aB aD _;have hPC:¬ P2 Cb:=λh=>by have:=hP7.out Cb h;omega
       have gC:N4<=Cb:=by omega
       rw[hCb];have NC:=hS7.after fF;have o8:=Nz.keep fF;have B9:=B7.keep fF;have C9:=C7.keep fF;have XT:=ah (abJ.out.keep fF);have agT:=ah (HIt.out.after fF);have hN9:N4<=w9.heap.size:=aH hN7 fF.size;clear hW mD Uk fF hS7 Nz B7 C7 abJ HIt JA lT7 hCb hP7 hN7;obtain⟨l0,eY,eZ,fV⟩:=At.three B9;obtain⟨lC,Gg,Gh⟩:=At.two AC
       go_upto_if 163 with(fail)
       go_cut [16]from 162 to 166 (λv w2=>v=.int .i64 room/\Below w9 w9 w2)
       case first =>
        by_cases hh:i1 = -1
        . have e1:=HRM.out
          rw[if_pos hh]at e1;exact Z37
        . have e1:=HRM.out
          rw[if_neg hh]at e1;exact Z37
       case rest =>
        obtain⟨rfl,iP⟩:=hcut;have mF:=NC.after iP;have mJ:=o8.keep iP;have B10:=B9.keep iP;have NG:=C9.keep iP;have yT:=AC.keep iP;have EB:=ah (XT.out.keep iP);have Ev:N4<=wc.heap.size:=aH hN9 iP.size;have ai1:=mF.lt;have adN:wc.cell? ⟨T,43,none⟩=some (.int .i64 (s.c 43)):=(EB.out.cell 43).trans (bJ s ak rfl);have JA:wc.cell? ⟨T,46,none⟩=some (.int .i64 (s.c 46)):=(EB.out.cell 46).trans (bJ s ak rfl);have ai2:=EB.out.lt;have Ut:=Em (some ⟨bt,0,none⟩) long j j (s.c 43) room (s.c 46) wc (agT.out.after iP) ELG.out aC ak;have e:Ju.row (Ju.starts (s.c 43) room (s.c 46) long) j=st:=by rw[<-HST.out,HL2.out]
        rw[e]at Ut;clear e NC o8 B9 C9 AC XT agT hN9 iP l0 eY eZ fV lC Gg Gh
        go_upto_region 25 with(go_at_call 141;(with_reducible refine Ut.mono ?_);rintro e' p9 ⟨⟨bst,rfl,ai3,PE⟩,fE⟩)
        have qD:=mF.after fE;have nJ:=mJ.keep fE;have B11:=B10.keep fE;have MH:=NG.keep fE;have JG:=yT.keep fE;have uj:=ah (EB.out.keep fE);have Yp:=ah PE;obtain⟨N5,Vz⟩:=aA p9.heap.size;have CF:∀b,P2 b->b<N5:=λb h=>by have h1:=qD.lt b h;rw[Vz]at h1;exact h1
        have aku:N4<=N5:=by have:=fE.size;omega
        have lC5:Cb<N5:=by have:=JG.lt;omega
        have ai4:st≠[]->bst<N5:=λh=>by
         obtain⟨b',o',e,hl,hc⟩:=Ints.at_ PE (k:=0) (List.length_pos_iff.2 h);injection e with e;injection e with e1 e2;omega
        have HN5:=ah Vz;have HP5:=ah CF;have ai5:=ah hPC;have hXL:Hid (xs.length=j):=ah (by rw[<-HXS.out.1,List.length_mapIdx,HL2.out]);have nst:bst≠Cb:=by have:=yT.lt;omega
        clear Ut fE mF mJ B10 NG yT EB PE ai3 ai1 Ev adN JA ai2 Vz CF hPC
        go_loopw [174] (λiv wr=>∃(i:Nat) (v:Value),i<=j/\iv=.int .i64 i/\o9 Y B F w P n2 P2 wr/\At wr R (.cells cs2 216)/\At wr Cb (.cells #[v,high] 147)/\Hid (wr.ownsRow N5 88 7 v (xs.take i).length (wN (xs.take i)))/\At wr w (.cells #[z,i0,i1] 86)/\At wr (w.heap.size+1) (.cells #[.slice none 0 0,()] 147)/\Hid (At wr T (.cells (cells s) 59))/\Hid (Ints wr (some ⟨bst,0,none⟩) st)/\N5<=wr.heap.size) (λiv _=>j-(intOf iv).toNat)
        case atStart=>exact⟨0,.slice none 0 0,eP _,rfl,qD,nJ,JG,ah (World.ownsRow_nil _ _ _ _),B11,MH,uj,Yp,by rw[HN5.out];exact aJ _⟩
        case round =>
         clear qD nJ JG B11 MH uj Yp;obtain⟨i,v,hi,rfl,hSr,hAr,AC,hown,A0,A4,hST,xY,FC⟩:=hrel;by_cases hlt:i<j
         . have hltz:(i:Int)<(j:Int):=by omega
           have hix:i<xs2.length:=by rw[HL2.out];exact hlt
           have pz:=hC2.out.at_ hAr hix;obtain⟨x,hx⟩:=aA (xs2[i]);rw[hx]at pz;have HX:=ah hx;have oN:=ah hSr;obtain⟨lz,cz⟩:=lints xY.out (by rw[CW.out];exact hlt);obtain⟨v0,hv0⟩:=aA (st.getD i 0);rw[hv0]at cz;have HV0:=ah hv0;have BU:=hAr.lt;clear hx hSr hv0
           go_upto_region 28 with(first|(refine dn aQ _ rfl rfl (by with_reducible assumption) ?_)|(refine bW aQ rfl ?_)|(refine bM aQ _ _ rfl rfl rfl Z4k ?_))
           generalize hW:jb5 _ _ _=W3;obtain⟨Q,hQ⟩:=aA wr.heap.size;have AQ:At W3 Q (.cells (lZ x) 216):=hW▸hQ▸At.setRow (At.new _ _) _;have hb3:Below wr wr W3:=hW▸aM (aB aD _) aC _;have gQ:wr.heap.size<=Q:=Nat.le_of_eq hQ;have gQ2:Q<=wr.heap.size:=Nat.le_of_eq hQ.symm;rw[hQ];clear hW hQ pz cz lz BU;have aed:=ah (hST.out.keep hb3);have B3:=A0.keep hb3;have XQ:W3.cell? ⟨T,44,none⟩=some (.int .i64 (s.c 44)):=(aed.out.cell 44).trans (bJ s ak rfl);have lT3:=aed.out.lt;have lQ:=AQ.lt;have hIQ:Hid (qA W3 Q 0 x):=ah λj hj=>by rw[Nat.zero_add];exact AQ.cell j
           obtain⟨l0,eY,eZ,fV⟩:=At.three B3;have hSd:Below W3 W3 W3.drew:=Below.drew aD;refine gZ (S:=λX=>Below W3 W3 X) 10 ?_ ?_
           . exact hSd
           intro hx;clear hSd;refine aG 0 ?_;refine aG 1 ?_;refine jc 3 rfl (Eh (.tmp 19) aQ rfl rfl (λX h=>qA.keep hIQ.out h lQ)) ?_;refine aG 5 ?_;refine aG 6 ?_;refine aG 7 ?_;refine tk1 2 ?_;refine aj.Step.call eB (nA 0 _) ?_;rintro e' w7 ⟨rfl,hw7⟩;have mX:Below W3.drew W3.drew w7:=hw7▸aB aD _;have AB:At w7 W3.drew (.cells #[()] 3):=hw7▸At.new _ _;clear hw7;replace hx:=Below.ay hx aC mX;generalize W3.drew.heap.size=Bq at *;refine⟨_,rfl,λ_=>hx,?_⟩
           (try simp only[bN,bO,bP,tks])
           refine tk1 4 ?_;refine aj.Step.call eB (Rj x Bq w7 (AB.cell 0)) ?_;rintro e' w8 ⟨rfl,vB⟩;replace hx:=Below.ay hx aC vB;refine⟨_,rfl,λ_=>hx,?_⟩
           (try simp only[bN,bO,bP,tks])
           refine tk1 8 ?_;refine aj.Step.call eB (Bf (s.c 44) (Ba x) i0 w8) ?_;rintro e' w9 ⟨rfl,rfl⟩;refine⟨_,rfl,λ_=>hx,?_⟩
           (try simp only[bN,bO,bP,tks])
           refine aG 9 ?_;refine gX ?_;have agU:Below wr wr w8:=Below.ay hb3 aC hx;have AQ8:=AQ.keep hx;clear mX vB AB hx aed B3 XQ lT3 l0 eY eZ fV hIQ AQ lQ hb3;obtain⟨la,hla⟩:=aA (Ju.across (s.c 44) (Ba x) i0);rw[hla];obtain⟨p0,hp0⟩:=aA (IntKind.i64.wrap (la+x.m0));obtain⟨p1,hp1⟩:=aA (IntKind.i64.wrap (v0+x.m2));obtain⟨y,hy⟩:∃y:Fw.Ld,{ x.ld with a0:=p0,a1:=p1 }=y:=⟨_,rfl⟩;have HY:Hid (clE (s.c 44) i0 st i x=y):=ah (by unfold clE;rw[HV0.out,hla,<-qI (v0+x.m2),<-qI (la+x.m0),hp0,hp1];exact hy)
           have HTK:Hid (xs.take (i+1)=xs.take i++[y]):=ah (by
            have hxi:i<xs.length:=by rw[hXL.out];exact hlt
            rw[jc8 hxi];congr 2;have e:=HXS.out.1;have e2:xs[i]=clE (s.c 44) i0 st i xs2[i]:=by subst e;simp
            rw[e2,HX.out,HY.out])
           have lQ8:=AQ8.lt;have c13:w8.cell? ⟨Q,13,none⟩=some (.int .i64 x.m0):=(AQ8.cell 13).trans rfl;have c15:w8.cell? ⟨Q,15,none⟩=some (.int .i64 x.m2):=(AQ8.cell 15).trans rfl;have c10:w8.cell? ⟨Q,10,none⟩=some (.int .i64 x.ld.a0):=(AQ8.cell 10).trans rfl;have c11:w8.cell? ⟨Q,11,none⟩=some (.int .i64 x.ld.a1):=(AQ8.cell 11).trans rfl;have z10:=AQ8.thaw 10;have z11:=AQ8.thaw 11
           go_upto_region 30 with(fail)
           generalize hW:ja5 _ _ _=W9;have AQ9:At W9 Q (.cells (lZ { x with ld:=y }) 216):=by
            rw[<-hW,<-hy];exact At.set (At.set AQ8 10 _) 11 _
           have fF:Below wr wr W9:=by
            rw[<-hW];exact Below.setCell (Below.setCell agU gQ _) gQ _
           clear hW lQ8 c13 c15 c10 c11 z10 z11 AQ8 agU hp0 hp1 hla hy;have MO:=bD (M:=λ_=>False) hown.out (λ_ _ q=>q) (Out.of_below fF);have hs9:=fF.size;obtain⟨g',c',w',hr,hown',hOa⟩:=Uu y MO ak iH;obtain⟨ln,hln⟩:=aA ((xs.take i).length+1);rw[hln]at hr hown';clear hln;have hrun:=ah hr
           have hQL:∀j,j<7->W9.cell? ⟨Q,5+j,none⟩=(dU y)[j]? := λj hj=>by
            rw[AQ9.cell];exact Z1z
           have Yn:∀b,v.ownBlock=some b->N5<=b:=λb h=>(hown.out.lt b h).1;have AC9:=AC.keep fF;have ACn:At w' Cb (.cells #[v,high] 147):=At.out (M:=λb=>v.ownBlock=some b) (AC9.alloc _) (λh=>by have:=Yn Cb h;omega) hOa;obtain⟨lC9,ad7,ad8⟩:=At.two AC9;obtain⟨lCn,ad9,ad'⟩:=At.two ACn;have aea:=ACn.thaw 0;have lQ9:=AQ9.lt;have HQL:=ah hQL;clear hr MO hQL
           go_upto_region 31 with(first|(refine dZ zS mM aQ _ rfl rfl (dB y) HQL.out ?_)|(refine um aQ _ rfl rfl ?_)|(at_builtin;refine wpList_append_run aQ _ _ 145 rfl rfl rfl hrun.out ?_))
           generalize hW:ja5 _ _ _=MG;have yT:At MG Cb (.cells #[.slice g' ln c',high] 147):=hW▸At.set ACn 0 _;have MP:Out (λb=>b=Cb) w' MG:=hW▸Out.set (M:=λb=>b=Cb) (Out.refl _ _) rfl 0 _
           have PY:Hid (MG.ownsRow N5 88 7 (.slice g' ln c') (xs.take (i+1)).length (wN (xs.take (i+1)))):=ah (by
            rw[HTK.out]
            exact bD (M:=λb=>b=Cb) hown' (λg hg e=>by have:=(hown'.lt g hg).1;omega) MP)
           have MQ:Out (λb=>v.ownBlock=some b\/b=Cb) wr MG:=(Out.of_below (aB fF _)).trans ((hOa.mono λb _ h => .inl h).trans (MP.mono λb _ h => .inr h))
           have hoff:∀b,b<N5->b≠Cb->¬ (v.ownBlock=some b\/b=Cb):=λb hb hn h=>by
            rcases h with h|h
            . have:=Yn b h;omega
            . exact hn h
           have mF:=oN.out.own MQ λb hb h=>by
            rcases h with h|h
            . have h1:=Yn b h
              exact⟨λhp=>by have:=HP5.out b hp;omega,by omega⟩
            . subst h
              exact⟨ai5.out,by omega⟩
           have mJ:=hAr.out (hoff R ak ak) MQ;have B10:=A0.out (hoff _ ak ak) MQ;have NG:=A4.out (hoff _ ak ak) MQ;have EB:=ah (hST.out.out (hoff T ak ak) MQ);have agV:=ah (vH xY.out MQ (hoff bst (ai4 (λe=>by have:=CW.out;rw[e]at this;simp at this;omega)) ak));have Ev:N5<=MG.heap.size:=aH FC MQ.size;clear hW ACn MP hown' hOa MQ hoff AC9 lC9 ad7 ad8 lCn ad9 ad' aea lQ9 HQL fF hs9 AQ9 hown hAr A0 A4 AC hST xY hrun;go_wp2
           go_roundw
           case rel=>exact⟨i+1,_,by omega,by go_num,mF,mJ,yT,PY,B10,NG,EB,agV,Ev⟩
           case measure=>simp[intOf];omega
         . obtain rfl:i=j:=by omega
           have hfull:xs.take i=xs:=jb6 (by rw[hXL.out];exact aJ _);rw[hfull]at hown
           have hxne:xs≠[]:=λe=>by
            have h1:=hXL.out;rw[e]at h1;have h2:=HM.out;exact hne (List.length_eq_zero_iff.1 (by rw[h2,<-h1];rfl))
           obtain⟨Rr,cap,csr,rfl,Yn,gR,AR,Hw⟩:=Mw hown.out hxne;obtain⟨lC,Gg,Gh⟩:=At.two AC;have c4:=A4.nI;have lw:w.heap.size+1<wr.heap.size:=A4.lt;have HRC:=ah Hw;have oN:=ah hSr;have hHI:=ah HXS.out.2;clear Hw hown hSr hfull hxne hAr A0 hST xY;go_wp2;generalize hW:ja5 _ _ _=W6;replace A4:At W6 (w.heap.size+1) (.cells #[.slice Rr xs.length cap,high] 147):=hW▸At.set (At.set A4 0 _) 1 _;have Rq:Out (λb=>b=w.heap.size+1) wr W6:=by
            exact Z20
           clear hW c4 lC Gg Gh AC;have AR6:=AR.out (M:=λb=>b=w.heap.size+1) ak Rq;have qE:=oN.out.own Rq λb hb h=>by subst h;exact⟨hPN.out,by omega⟩
           have c4:=A4.lc;have iQ:=qE.fin;have Kk:=qE.kp;have hNw:=qE.new;have aec:¬ P2 Rr:=λh=>by have:=HP5.out Rr h;omega
           refine bodyPost_ret (v:=.agg #[.slice Rr xs.length cap,high]) (by simp[results,Tryz.results97,go_sem,(c4.2 0),(c4.2 1),c4.1];first|done|exact⟨rfl,rfl⟩|rfl) rfl ⟨Rr,cap,csr,P2,n2,by rw[hHI.out],by omega,AR6,HRC.out,HN2.out,Kk,hNw,aec,iQ⟩
end
structure Wk(B:Int->Fw.Bx)(F:Int->Nat)(D:Int->Prop):Prop where
 down:∀z,D z->∀k∈(B z).fl,D k/\F z=F k+1
 len:∀z,D z->(B z).fl.length<=64
 kind:∀z,D z->(B z).sty.c 0=0\/(B z).sty.c 0=1\/(B z).sty.c 0=2
 deep:∀z,D z->F z<=1000
theorem nK.lt{X:World}{b:Nat}(h:nK X b):b<X.heap.size:=by
 obtain⟨n,g,h1,_⟩:=h;exact h1.lt
section
variable {Y:pU} {B:Int->Fw.Bx} {F:Int->Nat} {D:Int->Prop}
def aee(Y:pU)(B:Int->Fw.Bx)(F:Int->Nat)(D:Int->Prop)(f:Nat):Prop :=
 ∀(z i0 i1:Int) (w:World) (n:Nat) (P:Nat->Prop),D z->F z=f->Wf i0->Wf i1->RO w Y B D nK->Kp Y B F n P w->(∀b,P b->b<w.heap.size)->n+Fw.cst B f z<maxLen ->
  Calls ja0 67 #[Y.lb,.agg #[z,i0,i1]] w λe w' =>
   ∃v n' P',e=.returned v/\CV w' P' v (Fw.cont B f z i0 i1)/\n'<=n+Fw.cst B f z/\Kp Y B F n' P' w'/\(∀b,P' b->P b\/w.heap.size<=b)/\Out (λb=>b=Y.pm) w w'
theorem abK(B:Int->Fw.Bx)(f:Nat)(z:Int):1<=Fw.cst B f z:=by
 cases f<;>simp only[Fw.cst]<;>omega
theorem acO(W:Wk B F D)(f:Nat)(hL:∀f',f=f'+1->vG Y B F D nK f'):aee Y B F D f:=by
 intro z i0 i1 w n P hz hf h0 h1 hR FB hP hn;have hc1:=abK B f z;by_cases hne:(B z).fl=[]
 . have hc:Fw.cont B f z i0 i1=([],(B z).sty.c 54):=by
    cases f with
    | zero=>rfl
    | succ f=>simp only[Fw.cont];rw[if_pos hne]
   refine(Jt nK.keep z i0 i1 hz w hR hne).mono λe w' ⟨he,hb⟩ => ?_;refine⟨_,n,P,he,?_,by omega,FB.out (M:=λ_=>False) (Out.of_below hb) λ_ _ q=>q,λb h => .inl h,Out.of_below hb⟩;rw[hc];exact⟨none,0,rfl,.inl rfl⟩
 . obtain⟨f',rfl⟩:∃f',f=f'+1:=by
    cases hfl:(B z).fl with
    | nil=>exact absurd hfl hne
    | cons k l =>
      have:=(W.down z hz k (by rw[hfl];simp)).2;exact⟨F k,by omega⟩
   have hdn:∀k∈(B z).fl,D k/\F k=f':=λk hk=>by
    have:=W.down z hz k hk;exact⟨this.1,by omega⟩
   obtain⟨hpP,g,hg,hgv⟩:=FB;have FB:Kp Y B F n P w:=⟨hpP,g,hg,hgv⟩;have Ki:=hR.wf z hz;cases hgk:g (klit z i0 i1)with
   | some v =>
     have hcv:=hgv z i0 i1 v Ki h0 h1 hgk;rw[hf]at hcv;obtain⟨A,cap,rfl,hld⟩:=hcv;refine(Jv nK.keep z i0 i1 hz w hR n h0 h1 hne g hg _ _ _ _ hgk).mono λe w' ⟨he,hb⟩ => ?_;exact⟨_,n,P,he,⟨A,cap,rfl,hld.out (M:=λ_=>False) (Out.of_below hb) (λ_ _ q=>q) λ_ q=>q⟩,by omega,FB.out (M:=λ_=>False) (Out.of_below hb) λ_ _ q=>q,λb h => .inl h,Out.of_below hb⟩
   | none =>
     obtain⟨xs,hxs⟩:=aA ((Fw.kind B (Fw.lay B f') f' z i0 i1).1);obtain⟨hi,hhi⟩:=aA ((Fw.kind B (Fw.lay B f') f' z i0 i1).2);have hk:Fw.kind B (Fw.lay B f') f' z i0 i1=(xs,hi):=by rw[<-hxs,<-hhi]
     have abL:xs.map (·.id)=(B z).fl:=by rw[<-hxs];exact Fw.KN B f' z i0 i1
     have hcn:Fw.cont B (F z) z i0 i1=(xs.map (Fw.mv B i0 i1),hi):=by
      rw[hf];simp only[Fw.cont];rw[if_neg hne];show((Fw.kind B (Fw.lay B f') f' z i0 i1).1.map (Fw.mv B i0 i1),(Fw.kind B (Fw.lay B f') f' z i0 i1).2)=_;rw[hxs,hhi]
     have hDx:∀x∈xs,D x.id:=λx hx=>(hdn x.id (by rw[<-abL];exact List.mem_map_of_mem hx)).1;have hlx:xs.length=(B z).fl.length:=by rw[<-abL,jb7]
     have aef:=W.len z hz;have aeg:f'<=1000:=by have:=W.deep z hz;omega
     have abw:Fw.cst B (f'+1) z=1+3*((B z).fl.map (Fw.cst B f')).sum:=rfl;rw[abw]at hn hc1 ⊢
     have hxne:xs≠[]:=λe=>by
      rw[e]at abL;exact hne abL.symm
     have key:∀(kf:FuncId),(∀(args:Array Value) (X:World),(callFunc kf args).run ja0 X=.ok (.enter kf args) X)->(∀X,nK X Y.km->(Instr.lookup 91 (.map (some Y.km)) (.int .i64 ((B z).sty.c 0)) false).run ja0 X=.ok (.func (.func kf) #[] #[]) X) ->
       (∀X,RO X Y B D nK->Kp Y B F n P X->(∀b,P b->b<X.heap.size)->Calls ja0 kf #[Y.lb,.agg #[z,i0,i1]] X λe X'=>∃R cap cs P' n',e=.returned (.agg #[.slice (some ⟨R,0,none⟩) xs.length cap,hi])/\X.heap.size<=R/\At X' R (.cells cs 88)/\nD cs xs/\n'<=n+2*((B z).fl.map (Fw.cst B f')).sum/\Kp Y B F n' P' X'/\(∀b,P' b->P b\/X.heap.size<=b)/\¬ P' R/\Out (λb=>b=Y.pm) X X') ->
       Calls ja0 67 #[Y.lb,.agg #[z,i0,i1]] w λe w' =>
        ∃v n' P',e=.returned v/\CV w' P' v (Fw.cont B (f'+1) z i0 i1)/\n'<=n+(1+3*((B z).fl.map (Fw.cst B f')).sum)/\Kp Y B F n' P' w'/\(∀b,P' b->P b\/w.heap.size<=b)/\Out (λb=>b=Y.pm) w w':=λkf hcf NA hkind =>
      (Mk nK.keep nK.out F z i0 i1 hz w hR n P FB hP h0 h1 hne kf hcf hR.kinds.lt NA xs hi hcn hDx (2*((B z).fl.map (Fw.cst B f')).sum) ak ak g hg hgk hkind).mono λe w' ⟨v,P',n',h1,h2,h3,h4,h5,h6⟩=>⟨v,n',P',h1,by rw[hf]at h2;exact h2,by omega,h4,h5,h6⟩
     rcases W.kind z hz with hq|hq|hq
     . refine key 95 (λ_ _=>rfl) (λX h=>h.look _ _ (.inl ⟨hq,rfl⟩)) λX hRX hKX hPX => ?_
       refine adV (hL f' rfl) nK.keep nK.out W.down (λz hz=>aH (W.len z hz) ak) aeg hRX hRX.kinds.lt z i0 i1 hz hdn hne aef n hKX hPX ak xs hi ?_;rw[<-hk];unfold Fw.kind;rw[if_neg ak,if_neg ak]
     . refine key 96 (λ_ _=>rfl) (λX h=>h.look _ _ (.inr (.inl ⟨hq,rfl⟩))) λX hRX hKX hPX => ?_
       refine aiQ (hL f' rfl) nK.keep nK.out hRX hRX.kinds.lt z i0 i1 hz hdn hne aef n hKX hPX ak xs hi ?_ hxne;rw[<-hk];unfold Fw.kind;rw[if_pos hq]
     . refine key 97 (λ_ _=>rfl) (λX h=>h.look _ _ (.inr (.inr ⟨hq,rfl⟩))) λX hRX hKX hPX => ?_
       refine abI (hL f' rfl) nK.keep nK.out hRX hRX.kinds.lt z i0 i1 hz hdn hne aef n hKX hPX ak xs hi ?_;rw[<-hk];unfold Fw.kind;rw[if_neg ak,if_pos hq]
theorem H8(W:Wk B F D)(f:Nat)(hI:aee Y B F D f):vG Y B F D nK f:=by
 intro z r0 r1 t0 t1 w n P hz hf hR FB hP hkm hn
 refine(aa6 (Iv:=λP X=>Kp Y B F n P X/\∀b,P b->b<X.heap.size) (Iv2:=λP X=>∃n',n'<=n+Fw.cst B f z/\Kp Y B F n' P X) nK.keep
  (λ{P M X X'} h k hm=>⟨h.1.out k hm,λb hb=>aU (h.2 b hb) k.size⟩)
  (λ{P M X X'} h k hm=>by obtain⟨n',h1,h2⟩:=h;exact⟨n',h1,h2.out k hm⟩)
  (λ{P X} h=>⟨n,by omega,h.1⟩) P z r0 r1 t0 t1 hz w hR ⟨FB,hP⟩ hP (Fw.cont B f) ?_).mono λe w' ⟨he,⟨P',⟨n',h1,h2⟩,h3⟩,h4⟩=>⟨he,n',P',h1,h2,h3,h4⟩
 intro X i0 hRX hKX hi0;have hb:=Fw.Dn (B z).sty 0 r0 r0 t0;refine(hI z i0 (-1) X n P hz hf (by rw[iM,hi0];omega) Z4c hRX hKX.1 hKX.2 hn).mono λe X' ⟨v,n',P',he,hcv,hn',hK',hP',hO⟩ => ?_;obtain⟨A,cap,rfl,_⟩:=hcv;exact⟨⟨_,he⟩,⟨P',⟨n',hn',hK'⟩,hP'⟩,hO⟩
theorem JJ(Y:pU)(W:Wk B F D):∀f,aee Y B F D f/\vG Y B F D nK f:=by
 intro f
 induction f with
 | zero =>
   have h:=acO (Y:=Y) W 0 λf' e=>by omega
   exact⟨h,H8 W 0 h⟩
 | succ f ih =>
   have h:=acO (Y:=Y) W (f+1) λf' e=>by obtain rfl:f=f':=ak;exact ih.2
   exact⟨h,H8 W (f+1) h⟩
end
end Go.Proofs.YtfohooineeijkaaGreat.Fix
