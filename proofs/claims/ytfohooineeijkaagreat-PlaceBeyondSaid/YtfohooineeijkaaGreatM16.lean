/- Steps of the program (16); no conditions. -/
import Derived.Test.YtfohooineeijkaaGreatM15
set_option linter.all false
set_option maxRecDepth 100000
set_option maxHeartbeats 16000000
namespace Go.Proofs.YtfohooineeijkaaGreat.Fix
open Go.ChangeShapes Go.WideShapes Go.ChangeAt Go.RowKit
open Go.Proofs.Tryz renaming prog → ja0
open World renaming setCell → ja4
open List renaming length_append → ja8,getElem?_map → jb7,length_take → jc1
def Dq(W:World)(g:Nat)(l:List (Nat×Nat)):Prop:=g<W.heap.size/\∀k (h:k<l.length),W.cell? ⟨g,k*2,none⟩=some (.int .i64 (l[k].1:Int))/\W.cell? ⟨g,k*2+1,none⟩=some (.int .i64 (l[k].2:Int))
theorem Dq.out{M:Nat->Prop}{W W':World}{g:Nat}{l:List (Nat×Nat)}(h:Dq W g l)(k:Out M W W')(hm:¬ M g):Dq W' g l:=⟨bA h.1 k.size,λi hi=>⟨(Out.cell k _ h.1 hm).trans (h.2 i hi).1,(Out.cell k _ h.1 hm).trans (h.2 i hi).2⟩⟩
theorem Vu{W:World}{base:Nat}{v:Value}{l:List (Nat×Nat)}(h:W.ownsRow base 57 2 v l.length ((Li.flat l).map (Value.int .i64)))(hn:l≠[]):∃g c,v=.slice (some ⟨g,0,none⟩) l.length c/\base<=g/\Dq W g l:=by
 rcases h.2 with⟨rfl,h0⟩|⟨g,cap,cur,rfl,hb,hgb,hnc,hcm,hsz,htk⟩
 . exact absurd (List.length_eq_zero_iff.1 h0) hn
 . have hA:At W g (.cells cur 57):=hgb
   have key:∀i (x:Int),i<l.length*2->(Li.flat l)[i]? = some x->W.cell? ⟨g,i,none⟩=some (.int .i64 x):=λi x hi hx=>by
    have e:((Li.flat l).map (Value.int .i64))[i]? = some (.int .i64 x):=by rw[jb7,hx];rfl
    rw[<-htk,List.getElem?_take,if_pos hi,Array.getElem?_toList]at e;rw[hA.cell];exact e
   exact⟨g,cap,rfl,hb,hA.lt,λk hk=>⟨key _ _ ak (Li.flat_get l hk).1,key _ _ ak (Li.flat_get l hk).2⟩⟩
section
variable {Y:rF} {B:Int->Fw.Bx} {F:Int->Nat} {D:Int->Prop} {KM:World->Nat->Prop} {f:Nat} {w:World} {P:Nat->Prop}
def rwG(B:Int->Fw.Bx)(i0:Int)(x:Im):Im:={ x with it:=Fw.vL B i0 x.ld.id }
theorem ab6{i0:Int}{x:Im}(h:Nt Y B D F f i0 x):Nt Y B D F f i0 (rwG B i0 x):=⟨h.d,h.f,h.bx,h.m0,h.m1,h.m2,h.m3⟩
theorem ab7(Y:rF)(B:Int->Fw.Bx)(i0:Int)(fl:List Int):(iQ Y B i0 fl).map (rwG B i0)=fl.map (rwI Y B i0):=by unfold iQ;rw[List.map_map];rfl
theorem ai1(hL:xg Y B F D KM f)(hK:∀(X X':World) (b:Nat),KM X b->Below X X X'->KM X' b)(uo:∀(X X':World) (b:Nat),KM X b->Out (λq=>q≠b) X X'->KM X' b)(hR0:RO w Y B D KM)(hkm:Y.km<w.heap.size)
  (z i0 i1:Int) (hz:D z) (hdn:∀k∈(B z).fl,D k/\F k=f) (hne:(B z).fl≠[]) (hl:(B z).fl.length<=64) (n:Nat) (Gw:Kp Y B F n P w) (hP:∀b,P b->b<w.heap.size) (hn:n+2*((B z).fl.map (Fw.cst B f)).sum<maxLen) (xs:List Fw.Ld) (hi:Int) (hm:Fw.Ui B (Fw.lay B f) z i0 i1=(xs,hi)) (hxl:xs≠[]) :
  Calls ja0 96 #[Y.lb,.agg #[z,i0,i1]] w λe w'=>∃R cap cs P' n',e=.returned (.agg #[.slice (some ⟨R,0,none⟩) xs.length cap,hi])/\w.heap.size<=R/\At w' R (.cells cs 88)/\o8 cs xs/\n'<=n+2*((B z).fl.map (Fw.cst B f)).sum/\Kp Y B F n' P' w'/\(∀b,P' b->P b\/w.heap.size<=b)/\¬ P' R/\Out (λb=>b=Y.pm) w w':=by
 obtain⟨es0,U0,p9⟩:=hR0.Gv;have hpl:=p9.lt;obtain⟨fl,hfl⟩:=aC ((B z).fl);rw[hfl]at hdn hne hl hn ⊢;obtain⟨s,hs⟩:=aC ((B z).sty);obtain⟨yu,hx0⟩:=aC (iQ Y B i0 fl);obtain⟨xs1,hx1⟩:=aC (yu.map (rwG B i0));obtain⟨qG,KV⟩:=aC ((fl.map λk=>Fw.wr (Fe.clamp (Fw.vL B i0 k) (Fw.vL B i0 k).b+Fw.Uh B i0 0 k)));obtain⟨br,hbr⟩:=aC (Li.brk i0 (s.c 46) (s.b 45) qG);obtain⟨hh,Nq⟩:=aC ((if br.length=1 then i1 else -1))
 have HMR:Hid (Fw.fC B (Fw.lay B f) z i0 i1 hh fl true 0 br=(xs,hi)):=ah (by
  rw[<-hm];unfold Fw.Ui
  simp only[hfl,hs,KV,hbr,Nq])
 obtain⟨m,hmm⟩:=aC fl.length;have HL0:Hid (yu.length=m):=ah (by rw[<-hx0,<-hmm];simp[iQ]);have BK:Hid (xs1.length=m):=ah (by rw[<-hx1,List.length_map,HL0.out]);have U7:Hid (qG.length=m):=ah (by rw[<-KV,List.length_map,hmm]);have TL:Hid (xs1=fl.map (rwI Y B i0)):=ah (by rw[<-hx1,<-hx0,ab7])
 have Y2:Hid (∀x∈yu,Nt Y B D F f i0 x):=ah (by
  rw[<-hx0];intro x hx;obtain⟨k,hk,e⟩:=List.mem_map.1 hx;rw[<-e]
  exact SL (hdn k hk).1 (hdn k hk).2)
 have KJ:Hid (∀x∈xs1,Nt Y B D F f i0 x):=ah (by
  rw[<-hx1];intro x hx;obtain⟨y,hy,e⟩:=List.mem_map.1 hx;rw[<-e]
  exact ab6 (Y2.out y hy))
 have HCS:Hid (jw B f xs1 m=(fl.map (Fw.cst B f)).sum):=ah (by
  unfold jw;rw[TL.out,<-hmm];rw[<-List.map_take,List.take_length,List.map_map]
  rfl)
 have HXG:Hid (xs1=yu.map (rwG B i0)):=ah hx1.symm;have HX0:Hid (yu=iQ Y B i0 fl):=ah hx0.symm;have HLO:=ah KV;have HBR:=ah hbr;have HHH:=ah Nq;have Qj:=ah hs;have Iy:=ah hfl;have HM:=ah hmm;have HN:=ah hn;have HDN:=ah hdn;have wu:=ah hR0;have HXL:=ah hxl;rw[hmm]at hl;have hm0:0<m:=by rw[<-hmm];exact List.length_pos_iff.2 hne
 clear hx1 hx0 KV hbr Nq hm hmm hxl;have hS:=qR.start Gw hP;have yg:=hR0;obtain⟨b0,hb0⟩:=aC (Y.bl z);have hbx:=(yg.box z hz).1;rw[hb0,hs]at hbx;generalize Y.vf z=zvf at hbx;generalize Y.va z=zva at hbx;generalize (B z).ib=OQ at hbx;have Vh:=hbx.lt
 have n0p:b0≠Y.pm:=λe=>by
  rw[e]at hbx;exact absurd (At.uniq hbx p9) bI
 have b1:Below w w ((w.alloc (.cells #[z,i0,i1] 86)).alloc (.cells #[.slice none 0 0,()] 147)):=aD (aD aG _) _;have A0:At ((w.alloc (.cells #[z,i0,i1] 86)).alloc (.cells #[.slice none 0 0,()] 147)) w.heap.size (.cells #[z,i0,i1] 86):=At.alloc (At.new _ _) _;have A4:At ((w.alloc (.cells #[z,i0,i1] 86)).alloc (.cells #[.slice none 0 0,()] 147)) (w.heap.size+1) (.cells #[.slice none 0 0,()] 147):=At.new' _ Gs;have hS1:=hS.after b1;have GU:=yg.keep hK b1;have YT:=ah (aR.keep hbx b1);clear hdn hR0 yg hS p9 hs hbx hfl Gw hn;go_enter Tryz.func96,Tryz.ntmps96
 go_upto_region 1 with(fail)
 generalize (w.alloc (.cells #[z,i0,i1] 86)).alloc (.cells #[.slice none 0 0,()] 147)=w1 at *;have agh:=A4.lt;have hsz:=b1.size;have hlk:=λX (h:Below w1 w1 X)=>(GU.keep hK h).look hz;simp only[hb0]at hlk;obtain⟨lY,yK,yL,AZ,Ba,Bb,Bc⟩:=At.six GU.lay;obtain⟨l0,aA,aB,aY⟩:=At.three A0;have hSd:Below w1 w1 w1.drew:=Below.drew aG;refine jy (S:=λX=>Below w1 w1 X) 8 ?_ ?_
 . exact hSd
 intro hx;clear hSd;refine aS 0 ?_;refine aS 1 ?_;refine aS 2 ?_;refine aS 3 ?_;refine aS 4 ?_;refine aS 5 ?_;refine mG 6 rfl (bU bB rfl rfl rfl (λX h=>hlk X h)) ?_;refine aS 7 ?_;refine jk ?_;have hx2:Below w1 w1 w1.drew:=hx;generalize w1.drew=w3 at *;have abL:=hx2.size;have rY:=hS1.after hx2;have B3:=A0.keep hx2;have C3:=A4.keep hx2;have BM:=ah (aR.keep YT.out hx2);have GA:=rY.ro uo wu.out hkm;have pK:Calls ja0 131 #[Y.lb,.agg #[z,i0,i1]] w3 λe w'=>(∃R q cs,e=.returned (.slice (some ⟨R,q,none⟩) m m)/\w3.heap.size<=R/\At w' R (.cells cs 216)/\gV cs q yu)/\Below w3 w3 w':=by
  exact Z25
 obtain⟨l0,aA,aB,aY⟩:=At.three B3;clear b1 A0 A4 hS1 GU hlk yK yL AZ Ba Bb Bc lY hx GA hb0 YT
 go_upto_region 4 with(go_at_call 131;(with_reducible refine pK.mono ?_);rintro e' w4 ⟨⟨R,q,cs,rfl,gR,hA4,U3⟩,hb4⟩)
 clear pK;have HI4:=ah U3;have Ho:=rY.after hb4;have B4:=B3.keep hb4;have C4:=C3.keep hb4;have NH:=ah (aR.keep BM.out hb4);have ad9:=hb4.size;have uN:w.heap.size+1<R:=by omega
 have Yr:¬ P R:=λh=>by have:=hP R h;omega
 have n0R:b0≠R:=by omega
 have lR4:=hA4.lt;clear hb4 U3 B3 C3 rY hx2 l0 aA aB aY BM
 go_loopw [31] (λiv wr=>∃(k:Nat) (cs':Array Value),k<=m/\iv=.int .i64 k/\qR Y B F w P n P wr/\At wr R (.cells cs' 216)/\Hid (gV cs' q (Fj (rwG B i0) yu k))/\At wr w (.cells #[z,i0,i1] 86)/\At wr (w.heap.size+1) (.cells #[.slice none 0 0,()] 147)/\Hid (aR wr b0 s zvf zva OQ)) (λiv _=>m-(intOf iv).toNat)
 case atStart=>exact⟨0,cs,gF _,rfl,Ho,hA4,ah (by rw[Fp];exact HI4.out),B4,C4,NH⟩
 case round =>
  clear Ho hA4 B4 C4 NH HI4;obtain⟨k,cs',hk,rfl,hSr,hAr,hC,A0,A4,xO⟩:=hrel;by_cases hlt:k<m
  . have hltz:(k:Int)<(m:Int):=by omega
    have hkx:k<yu.length:=by rw[HL0.out];exact hlt
    have hkc:k<(Fj (rwG B i0) yu k).length:=by rw[kN];exact hkx
    have qU:=hC.out.at_ hAr hkc;rw[uW _ _ hkx]at qU;obtain⟨x,hx⟩:=aC (yu[k]);have mV:=ah (Y2.out x (hx▸List.getElem_mem _));rw[hx]at qU;have HX:=ah hx;have qD:=ah hSr;have hRr:=hSr.ro uo wu.out hkm;have hbx:=(hRr.box x.ld.id mV.out.d).1;rw[<-mV.out.bx]at hbx;obtain⟨sx,hsx⟩:=aC ((B x.ld.id).sty);rw[hsx]at hbx;generalize Y.vf x.ld.id=vf at hbx;generalize Y.va x.ld.id=va at hbx;generalize (B x.ld.id).ib=ib at hbx;have HSX:=ah hsx;have qM:=ah hbx;have Dk:=hAr.lt;have n34:=wu.out.box x.ld.id mV.out.d;rw[<-mV.out.bx]at n34;have n4:x.bx≠R:=by have:=n34.1.lt;omega
    clear n34;clear hRr hbx hsx hx hSr
    go_upto_region 6 with(first|(refine dQ bB _ rfl rfl (by with_reducible assumption) ?_)|(refine dJ bB rfl ?_)|(refine dI bB _ _ rfl rfl rfl Z4u ?_))
    generalize hW:World.setRow _ _ _=W3;obtain⟨Q,hQ⟩:=aC wr.heap.size;have AQ:At W3 Q (.cells (nW x) 216):=hW▸hQ▸At.setRow (At.new _ _) _;have hb3:Below wr wr W3:=hW▸aU (aD aG _) aF _;have gQ:wr.heap.size<=Q:=Nat.le_of_eq hQ;rw[hQ];clear hW hQ qU;have B3:=A0.keep hb3;have LV:=ah (aR.keep qM.out hb3);have lbx:=aR.lt LV.out;have lQ:=AQ.lt;have cQ:W3.cell? ⟨Q,12,none⟩=some (.pointer x.bx):=(AQ.cell 12).trans rfl;have cb3:W3.cell? ⟨x.bx,3,none⟩=some (.int .i64 (sx.c 3)):=aR.int LV.out 3 ak rfl;have cb4:W3.cell? ⟨x.bx,4,none⟩=some (.int .i64 (sx.c 4)):=aR.int LV.out 4 ak rfl;have ai2:W3.cell? ⟨x.bx,53,none⟩=some (.int .i64 (sx.c 53)):=aR.int LV.out 53 ak rfl;obtain⟨l0,aA,aB,aY⟩:=At.three B3;have hSd:Below W3 W3 W3.drew:=Below.drew aG;refine jy (S:=λX=>Below W3 W3 X) 18 ?_ ?_
    . exact hSd
    intro hx;clear hSd;refine aS 0 ?_;refine aS 1 ?_;refine aS 2 ?_;refine aS 3 ?_;refine aS 4 ?_;refine aS 5 ?_;refine aS 6 ?_;refine aS 7 ?_;refine aS 8 ?_;refine aS 9 ?_;refine aS 10 ?_;refine aS 11 ?_;refine aS 12 ?_;refine aS 13 ?_;refine aS 14 ?_;refine aS 15 ?_;refine tk1 16 ?_;refine aj.Step.call eD (jF (sx.c 3) (sx.c 4) i0 (sx.c 53) _) ?_;rintro e' w5 ⟨rfl,hb⟩;replace hx:=Below.ay hx aF hb;clear hb;refine⟨_,rfl,λ_=>hx,?_⟩
    (try simp only[bV,bW,bX,tks])
    refine aS 17 ?_;refine jk ?_;have Ag:Below wr wr w5:=Below.ay hb3 aF hx;have AQ5:=AQ.keep hx;have yR:=hAr.keep Ag;have hS5:=qD.out.after Ag;have B5:=A0.keep Ag;have C5:=A4.keep Ag;have Nv:=ah (aR.keep qM.out Ag);have Hy:=ah (aR.keep xO.out Ag);clear cQ cb3 cb4 ai2 lbx lQ l0 aA aB aY hx AQ LV B3 A0 A4 hAr xO qM qD hb3;obtain⟨base,hbase⟩:=aC (Fx.len (sx.c 3) (sx.c 4) i0 (sx.c 53));rw[hbase];obtain⟨it,hit⟩:=aC (Fw.asI sx 0 base i0)
    have oD:∀X,Calls ja0 132 #[.agg #[sx.c 3,sx.c 4,sx.c 7,sx.c 8,sx.c 11,sx.c 12],.agg (cells sx),base,i0] X λe X'=>e=.returned (.agg (x8 it))/\Below X.heap.size X X':=λX=>by
     rw[<-hit];exact SB _ _ _ _ _ _ sx base i0 X
    have lbx:=aR.lt Nv.out;have lR5:=yR.lt;have lQ:=AQ5.lt;have cQ:w5.cell? ⟨Q,12,none⟩=some (.pointer x.bx):=(AQ5.cell 12).trans rfl;have nQ:Q≠R:=by omega
    have n2:w.heap.size≠R:=by omega
    obtain⟨l0,aA,aB,aY⟩:=At.three B5;have ab8:=ah (show q+k*17+5<=cs'.size by have:=hC.out.1;rw[kN]at this;have h2:k*17+17<=yu.length*17:=ak;omega);have hSd:Out (λb=>b=R) w5 w5.drew:=(Out.refl _ _).drew
    go_upto_region 7 with(fail)
    refine jy (S:=λX=>Out (λb=>b=R) w5 X) 21 ?_ ?_
    . exact hSd
    intro hx;clear hSd;refine zo 0 ?_;refine zo 1 ?_;refine zo 2 ?_;refine zo 3 ?_;refine zo 4 ?_;refine zo 5 ?_;refine zo 6 ?_;refine mG 7 rfl (ql (.tmp 59) bB rfl rfl (λX h=>At.out Nv.out n4 h)) ?_;refine zo 8 ?_;refine zo 9 ?_;refine zo 10 ?_;refine zo 11 ?_;refine mG 12 rfl (jr bB (.tmp 64) rfl rfl (λX h=>aR.style (At.out Nv.out n4 h))) ?_;refine zo 13 ?_;refine zo 14 ?_;refine zo 15 ?_;refine zo 16 ?_;refine tk1 17 ?_;refine aj.Step.call eD (oD _) ?_;rintro e' Az ⟨rfl,hb⟩;have NR:At Az R (.cells cs' 216):=At.keep (At.drew yR) hb;have KW:Out (λb=>b=R) w5 Az:=Out.trans' ((Out.refl _ w5).drew) (Out.of_below (M:=λ_=>False) hb) λ_ _ q=>q.elim;refine⟨_,rfl,λ_=>KW,?_⟩
    (try simp only[bV,bW,bX,tks])
    refine zo 18 ?_;refine zo 19 ?_;refine tk1 20 ?_;refine aj.Step.skip (bH (q:=q+k*17) BG (.tmp 72) (.tmp 70) rfl rfl rfl NR (iU it) ab8.out (DX it)) ?_;have ab9:=At.setRow NR (splice cs' (q+k*17) (x8 it));have vX:Out (λb=>b=R) Az (Az.setRow R (splice cs' (q+k*17) (x8 it))):=Out.setRow (M:=λb=>b=R) (Out.refl _ _) rfl _;refine⟨λ_=>KW.trans vX,?_⟩
    (try simp only[bV,bW,bX,tks])
    refine jk ?_;have LK:=KW.trans vX;have FL:=hC.out.ac1 hkc it;rw[uW _ _ hkx,HX.out]at FL
    have aen:Hid (gV (splice cs' (q+k*17) (x8 it)) q (Fj (rwG B i0) yu (k+1))):=ah (by
     rw[<-zZ _ _ hkx,HX.out];have e:rwG B i0 x={ x with it:=it }:=by
      unfold rwG Fw.vL;rw[HSX.out,<-hit,<-hbase]
     rw[e]
     exact FL.1)
    have QN:=hS5.own (M:=λb=>b=R) LK λb hb h=>by subst h;exact⟨Yr,by omega⟩
    have B14:=B5.out (M:=λb=>b=R) n2 LK;have C14:=C5.out (M:=λb=>b=R) ak LK;have SV:=ah (At.out (M:=λb=>b=R) Hy.out n0R LK);generalize Az.setRow R (splice cs' (q+k*17) (x8 it))=w14 at *;generalize splice cs' (q+k*17) (x8 it)=cs4 at *;clear hx FL yR NR KW vX LK hS5 B5 C5 Nv Hy l0 aA aB aY oD lbx lR5 lQ cQ hbase hit hC AQ5 Ag;go_wp2
    go_roundw
    case rel=>exact⟨k+1,cs4,by omega,by go_num,QN,ab9,aen,B14,C14,SV⟩
    case measure=>simp[intOf];omega
  . obtain rfl:k=m:=by omega
    have Vj:Hid (gV cs' q xs1):=ah (by
     have:=hC.out;rw[<-HL0.out,KA,<-HXG.out]at this
     exact this)
    have qD:=ah hSr;have HRR:=ah (hSr.ro uo wu.out hkm);have Dk:=hAr.lt;obtain⟨l0,aA,aB,aY⟩:=At.three A0;have LG:=aR.lt xO.out;have aeo:wr.cell? ⟨b0,46,none⟩=some (.int .i64 (s.c 46)):=aR.int xO.out 46 ak rfl;have ai3:wr.cell? ⟨b0,45,none⟩=some (.bool (s.b 45)):=(At.cell xO.out 45).trans (by rw[Km _ _ _ _ ak];rfl);clear hC hSr hlt
    go_upto_region 9 with(fail)
    have hSd:Below wr wr wr.drew:=Below.drew aG;refine jy (S:=λX=>Below wr wr X) 18 ?_ ?_
    . exact hSd
    intro hx;clear hSd;refine aS 0 ?_;refine aS 3 ?_;refine aS 4 ?_;refine aS 5 ?_;refine aS 6 ?_;refine aS 7 ?_;refine aS 8 ?_;refine aS 9 ?_;refine aS 10 ?_;refine aS 11 ?_;refine aS 12 ?_;refine aS 13 ?_;refine aS 14 ?_;refine aS 15 ?_;refine tk1 1 ?_;refine aj.Step.call eD (Nr 0 _) ?_;rintro e' w7 ⟨rfl,hw7⟩;have pG:Below wr.drew wr.drew w7:=hw7▸aD aG _;have AB:At w7 wr.drew (.cells #[()] 3):=hw7▸At.new _ _;clear hw7;replace hx:=Below.ay hx aF pG;generalize wr.drew.heap.size=Bq at *;refine⟨_,rfl,λ_=>hx,?_⟩
    (try simp only[bV,bW,bX,tks])
    have oD:=adU #[Bq] (λi=>qG.getD i 0) (some ⟨R,q,none⟩) xs1 k w7 (Vj.out.ims (hAr.keep hx)) (by rw[BK.out];omega) (λi h X hb=>by
     have h':i<fl.length:=by have:=BK.out;have:=HM.out;omega
     have ex:xs1[i]=rwI Y B i0 fl[i]:=by
      have e1:=TL.out;subst e1;simp
     have el:qG.getD i 0=Fw.wr (Fe.clamp (Fw.vL B i0 fl[i]) (Fw.vL B i0 fl[i]).b+Fw.Uh B i0 0 fl[i]):=by
      rw[<-HLO.out,List.getD,jb7,List.getElem?_eq_getElem h'];rfl
     have ho:=KJ.out xs1[i] (List.getElem_mem _);have hbx:=aR.keep ((HRR.out.box _ ho.d).1) (Below.ay hx aF hb);rw[<-ho.bx]at hbx;have h1:=Yb xs1[i] _ _ _ _ Bq X hbx ((hb.cell (p:=⟨Bq,0,none⟩) AB.lt).trans (AB.cell 0));rw[el];rw[ex]at h1 ⊢
     exact h1)
    rw[BK.out]at oD;refine tk1 2 ?_;refine aj.Step.call eD oD ?_;rintro e' w8 ⟨⟨bt,rfl,gbt,hT⟩,yc⟩;replace hx:=Below.ay hx aF yc;refine⟨_,rfl,λ_=>hx,?_⟩
    (try simp only[bV,bW,bX,tks])
    have hIt:Ints w8 (some ⟨bt,0,none⟩) qG:=by
     have h1:=iI _ _ LY hT;have h2:=tV qG;rw[U7.out]at h2;rw[h2]at h1;exact h1
    have hs8:=hx.size;have Y3:=Vt (some ⟨bt,0,none⟩) qG k k i0 (s.c 46) (s.b 45) w8 hIt U7.out ak aF;rw[HBR.out]at Y3;refine tk1 16 ?_;refine aj.Step.call eD Y3 ?_;rintro e' w9 ⟨v,rfl,hown,iM⟩;replace hx:=Below.ay hx aF iM;refine⟨_,rfl,λ_=>hx,?_⟩
    (try simp only[bV,bW,bX,tks])
    have ada:br≠[]:=by
     rw[<-HBR.out];unfold Li.brk;rw[Li.tq _ _ _ _ (by rw[U7.out];exact hm0)];exact List.cons_ne_nil _ _
    obtain⟨g,cbr,rfl,gg,SX⟩:=Vu hown ada;refine aS 17 ?_;refine jk ?_;obtain⟨nb,hnb⟩:=aC br.length;rw[hnb];have HNB:=ah hnb;have aj':nb<=64:=by
     have h1:=Li.En i0 (s.c 46) (s.b 45) qG;rw[HBR.out,hnb,U7.out]at h1;omega
    have gg2:wr.heap.size<=g:=by omega
    have agL:=ah SX;have qO:=hAr.keep hx;have Hf:=qD.out.after hx;have B9:=A0.keep hx;have C9:=A4.keep hx;have NQ:=ah (aR.keep xO.out hx);have hE:=HHH.out;rw[hnb]at hE;have HHE:=ah hE;have ai4:=hx.size;clear oD Y3 hIt hT gbt hown pG yc iM AB hx qD hAr A0 A4 xO HRR aeo ai3 LG l0 aA aB aY SX hnb hE gg hs8 ada;obtain⟨l0,aA,aB,aY⟩:=At.three B9
    go_upto_if 93 with(fail)
    go_cut [11]from 91 to 97 (λv w2=>v=.int .i64 hh/\Below w9 w9 w2)
    case first =>
     by_cases hq:nb=1
     . have e1:=HHE.out
       rw[if_pos hq]at e1;have E1:=ah e1;have hq1:(nb:Int)=1:=by omega
       have hq2:((nb:Int)==1)=true:=by rw[hq1];rfl
       exact Z16
     . have e1:=HHE.out
       rw[if_neg hq]at e1;have E1:=ah e1;have hq1:¬ (nb:Int)=1:=by omega
       have hq2:((nb:Int)==1)=false:=by rw[beq_eq_false_iff_ne];exact hq1
       exact Z16
    case rest =>
     obtain⟨rfl,jK⟩:=hcut;have nZ:=Hf.after jK;have oq:=qO.keep jK;have B10:=B9.keep jK;have OT:=C9.keep jK;have xu:=ah (aR.keep NQ.out jK);have NS:=ah (Dq.out (M:=λ_=>False) agL.out (Out.of_below jK) λh=>h);have Vb:∀X,(Instr.build 147 #[]).run ja0 X=.ok (.agg #[.slice none 0 0,()]) X:=λ_=>by kernel_rfl
     have agM:=jK.size;clear Hf qO B9 C9 NQ agL jK l0 aA aB aY HHE
     go_upto_region 15 with(fail)
     generalize hW:World.alloc _ _=rP;obtain⟨Cb,hCb⟩:=aC wc.heap.size;have AC:At rP Cb (.cells #[.slice none 0 0,()] 147):=hW▸At.new' _ hCb.symm;have iA:Below wc wc rP:=hW▸aD aG _;rw[hCb];have sH:=nZ.after iA;have pF:=oq.keep iA;have B11:=B10.keep iA;have NK:=OT.keep iA;have xw:=ah (aR.keep xu.out iA);have Y4:=ah (Dq.out (M:=λ_=>False) NS.out (Out.of_below iA) λh=>h);obtain⟨N5,WA⟩:=aC rP.heap.size;have lC5:Cb<N5:=by have:=AC.lt;omega
     have lR5:R<N5:=by have:=pF.lt;omega
     have lg5:g<N5:=by have:=Y4.out.1;omega
     have nCR:Cb≠R:=by have:=oq.lt;omega
     have nCg:Cb≠g:=by have:=NS.out.1;omega
     have nRg:R≠g:=by omega
     have nC0:b0<R:=by omega
     have nCw:w.heap.size+1<Cb:=by have:=OT.lt;omega
     have HN5:=ah WA;have DW:=ah (show∀b,P b->b<w.heap.size from hP);have H0:Hid (br.drop 0=Li.tail i0 (s.c 46) (s.b 45) qG 0/\0<=k/\([]:List Fw.Ld).length=0/\(xs,hi)=([]++(Fw.fC B (Fw.lay B f) z i0 i1 hh fl (decide (0=0)) 0 (br.drop 0)).1,(Fw.fC B (Fw.lay B f) z i0 i1 hh fl (decide (0=0)) 0 (br.drop 0)).2)):=ah ⟨by rw[<-HBR.out];rfl,gF _,rfl,by rw[<-HMR.out];rfl⟩;clear hW Vb iA nZ oq B10 OT xu NS hCb WA agM ai4
     go_loopw [100] (λiv wr=>∃(k2 n':Nat) (P':Nat->Prop) (cs2:Array Value) (v:Value) (y:Int) (out:List Fw.Ld) (at_:Nat),k2<=nb/\iv=.int .i64 k2/\Hid (br.drop k2=Li.tail i0 (s.c 46) (s.b 45) qG at_/\at_<=k/\out.length=at_/\(xs,hi)=(out++(Fw.fC B (Fw.lay B f) z i0 i1 hh fl (decide (k2=0)) y (br.drop k2)).1,(Fw.fC B (Fw.lay B f) z i0 i1 hh fl (decide (k2=0)) y (br.drop k2)).2))/\n'<=n+2*jw B f xs1 at_/\qR Y B F w P n' P' wr/\Hid (∀b,b<N5->P' b->P b)/\N5<=wr.heap.size/\At wr R (.cells cs2 216)/\Hid (gV cs2 (q+at_*17) (xs1.drop at_))/\At wr Cb (.cells #[v,y] 147)/\Hid (wr.ownsRow N5 88 7 v out.length (yt out))/\Hid (∀b,v.ownBlock=some b->¬ P' b)/\At wr w (.cells #[z,i0,i1] 86)/\At wr (w.heap.size+1) (.cells #[.slice none 0 0,()] 147)/\Hid (aR wr b0 s zvf zva OQ)/\Hid (Dq wr g br)) (λiv _=>nb-(intOf iv).toNat)
     case atStart=>exact⟨0,n,P,cs',.slice none 0 0,0,[],0,gF _,rfl,H0,by omega,sH,ah λb _ h=>h,by rw[HN5.out];exact aO _,pF,ah (by simpa using Vj.out),AC,ah (World.ownsRow_nil _ _ _ _),ah (λb h=>by simp[Value.ownBlock]at h),B11,NK,xw,Y4⟩
     case round =>
      clear sH pF AC B11 NK xw Y4 H0 Vj;obtain⟨k2,n',P',cs2,v,y,out,at_,hk2,rfl,hTT,hn',hSr,yX,Gx,hAr,hC,AC,hown,hvg,A0,A4,xO,SX⟩:=hrel;by_cases hlt:k2<nb
      . have hltz:(k2:Int)<(nb:Int):=by omega
        have HK2:Hid (k2<nb):=ah hlt;have hkb:k2<br.length:=by rw[HNB.out];exact hlt
        have hat:at_<qG.length:=Classical.byContradiction λh=>by
         have h1:=hTT.out.1;rw[Li.sZ _ _ _ _ ak]at h1;have h2:=congrArg List.length h1;rw[List.length_drop]at h2;simp at h2;omega
        obtain⟨en,hen⟩:=aC (Li.stop i0 (s.c 46) (s.b 45) qG at_);have hgt:at_<en:=by rw[<-hen];exact Li.zG _ _ _ _ _
        have hle:en<=k:=by rw[<-hen,<-U7.out];exact Li.J4 _ _ _ _ hat
        have hdr:br.drop k2=(at_,en)::Li.tail i0 (s.c 46) (s.b 45) qG en:=by rw[hTT.out.1,Li.tq _ _ _ _ hat,hen]
        have hb2:br[k2]=(at_,en)/\br.drop (k2+1)=Li.tail i0 (s.c 46) (s.b 45) qG en:=by
         rw[List.drop_eq_getElem_cons hkb]at hdr;injection hdr with h1 h2;exact⟨h1,h2⟩
        obtain⟨lg,hpc⟩:=SX.out;have hp2:=hpc k2 hkb;rw[hb2.1]at hp2;obtain⟨cg0,cg1⟩:=hp2;have HB2:=ah hb2;have HDR:=ah hdr;have qD:=ah hSr;obtain⟨y1,hy1⟩:=aC ((if (decide (k2=0))=true then y else Fw.wr (y+s.c 46)));have HY1:=ah hy1;clear hpc hb2 hdr hen hSr hy1 hat
        go_upto_region 17 with(fail)
        generalize hW:World.alloc _ _=W2;obtain⟨L,hL2⟩:=aC wr.heap.size;have AL:At W2 L (.cells #[.int .i64 (at_:Int),.int .i64 (en:Int)] 57):=hW▸At.new' _ hL2.symm;have hb2:Below wr wr W2:=hW▸aD aG _;have gL:N5<=L:=by omega
        rw[hL2];have AC2:=AC.keep hb2;have aep:=ah (aR.keep xO.out hb2);have lCb:=AC2.lt;clear hW hL2 lg cg0 cg1
        go_upto_if 106 with(fail)
        go_cut []from 105 to 116 (λw2=>At w2 Cb (.cells #[v,y1] 147)/\Out (λb=>b=Cb) W2 w2)
        case first =>
         by_cases hk0:k2=0
         . have aem:¬ (0:Int)<(k2:Int):=by omega
           have e1:=HY1.out;rw[if_pos (by simp[hk0])]at e1;have E1:=ah e1;clear e1 hk0;go_wp2
           go_meet
           case rel=>exact⟨by rw[<-E1.out];exact AC2,Out.refl _ _⟩
         . have aem:(0:Int)<(k2:Int):=by omega
           have e1:=HY1.out;rw[if_neg (by simp[hk0]),<-sK]at e1;have E1:=ah e1;have aeo:W2.cell? ⟨b0,46,none⟩=some (.int .i64 (s.c 46)):=aR.int aep.out 46 ak rfl;have LG:=aR.lt aep.out;obtain⟨lC,Hz,H7⟩:=At.two AC2;have zC1:=AC2.thaw 1;clear e1 hk0
           go_upto_region 18 with(fail)
           have hSd:Below W2 W2 W2.drew:=Below.drew aG;refine jy (S:=λX=>Below W2 W2 X) 9 ?_ ?_
           . exact hSd
           intro hx;clear hSd;refine aS 0 ?_;refine aS 1 ?_;refine aS 2 ?_;refine aS 3 ?_;refine aS 4 ?_;refine aS 5 ?_;refine aS 6 ?_;refine aS 7 ?_;refine aS 8 ?_;refine tk1 9 ?_;refine aj.Step.skip eD ?_;generalize hW:ja4 _ _ _=W3;have AC3:At W3 Cb (.cells #[v,y1] 147):=by
            rw[<-hW,<-E1.out];exact At.set AC2 1 _
           have hO3:Out (λb=>b=Cb) W2 W3:=by
            rw[<-hW];exact Out.set (M:=λb=>b=Cb) (Out.refl _ _) rfl 1 _
           refine⟨by intro hlt;exact absurd hlt aN,?_⟩
           (try simp only[bV,bW,bX,tks])
           refine jk ?_;clear hW lC Hz H7 zC1 hx aeo LG;go_wp2
           go_meet
           case rel=>exact⟨At.drew AC3,Out.drew hO3⟩
        case rest =>
         obtain⟨AC3,hO3⟩:=hcut;have hPC:¬ P' Cb:=λh=>by have:=DW.out _ (yX.out _ lC5 h);omega
         have yh:¬ P' R:=λh=>by have:=DW.out _ (yX.out _ lR5 h);omega
         have rY:=(qD.out.after hb2).own hO3 λb hb h=>by subst h;exact⟨hPC,by omega⟩
         have hOA:Out (λb=>b=Cb) wr wc:=(Out.of_below hb2).trans hO3;have hA3:=hAr.out (M:=λb=>b=Cb) (Ne.symm nCR) hOA;have B3:=A0.out (M:=λb=>b=Cb) ak hOA;have C3:=A4.out (M:=λb=>b=Cb) ak hOA;have BM:=ah (At.out (M:=λb=>b=Cb) xO.out ak hOA);have agN:=ah (Dq.out (M:=λb=>b=Cb) SX.out hOA (Ne.symm nCg));have AL3:=AL.out (M:=λb=>b=Cb) ak hO3;have hown3:=ah (cK (M:=λb=>b=Cb) hown.out (λg' hg' e=>by have:=(hown.out.lt g' hg').1;omega) hOA);have hN3:N5<=wc.heap.size:=aK Gx hOA.size;obtain⟨lL,cL0,cL1⟩:=At.two AL3;have hcp:¬ k=at_:=by omega
         have hle1:at_<=en:=by omega
         have hle3:at_<=k:=by omega
         have agO:(at_:Int)<=(en:Int):=by omega
         have agP:(en:Int)<=(k:Int):=by omega
         clear AC2 aep AL hO3 hOA hAr A0 A4 xO SX hown hb2 qD lCb;obtain⟨d,hd⟩:=aC (en-at_);have hd0:0<d:=by omega
         have akA:d<=64:=by omega
         have RF:Hid (at_+d=en):=ah ak
         go_upto_region 20 with(fail)
         have HD:=ah hd;clear hd hle1 hle3 agO agP hcp cL0 cL1 lL AL3;obtain⟨xsl,Vv⟩:=aC ((xs1.drop at_).take d);have aer:xsl.length=d:=by rw[<-Vv,jc1,List.length_drop,BK.out];have:=RF.out;omega
         obtain⟨X1,hX1⟩:=aC (Fy B f s i0 i1 hh xsl);obtain⟨deep,RS⟩:=aC (KG hh X1);obtain⟨X2,hX2⟩:=aC (uY B f s i0 i1 deep X1);obtain⟨bs,hbs⟩:=aC (uZ s i0 deep X2);have hmap:xsl=((fl.drop at_).take d).map (rwI Y B i0):=by rw[<-Vv,TL.out,<-List.map_drop,<-List.map_take]
         have HRL:Hid (Fw.pV B (Fw.lay B f) z i0 i1 hh ((fl.drop at_).take d)=(bs.map (·.ld),deep)):=ah (by
          rw[<-hbs]
          exact Hu Y B f z i0 i1 hh _ s Qj.out X1 X2 deep (by rw[<-hmap];exact hX1) RS hX2)
         have HBL:Hid (bs.length=d):=ah (by
          have h1:X1.length=d:=by rw[<-hX1];unfold Fy;rw[List.length_mapIdx,aer]
          have h2:X2.length=d:=by
           rw[<-hX2];unfold uY;split
           . rw[List.length_map,h1]
           . exact h1
          rw[<-hbs];unfold uZ
          rw[List.length_mapIdx,h2])
         have hcs:jw B f xsl xsl.length+jw B f xs1 at_=jw B f xs1 en:=by
          unfold jw;rw[List.take_length,<-Vv,<-RF.out,List.take_add,List.map_append,List.sum_append];omega
         have hcs2:=xU B f xs1 en;rw[BK.out,HCS.out]at hcs2;have hnn:=HN.out;have Vw:=af2 hL hK uo wu.out hkm R (q+at_*17) (k-at_) z i0 i1 hh hz xsl cs2 wc n' P' rY hA3 (by rw[<-Vv];exact hC.out.front (by rw[List.length_drop,BK.out];have:=RF.out;omega)) (λx hx=>KJ.out x (List.mem_of_mem_drop (List.mem_of_mem_take (Vv.symm▸hx)))) yh ak ak ak s Qj.out X1 X2 deep hX1 RS hX2;rw[aer,hbs]at Vw;rw[aer]at hcs;obtain⟨l0,aA,aB,aY⟩:=At.three B3;have hC3:=ah hC.out;clear hX1 RS hX2 hbs hmap Vv rY hA3 hC
         go_upto_region 22 with(go_at_call 136;(with_reducible refine Vw.mono ?_);rintro e' w6 ⟨rfl,n2,P2,BL,hn2,tX,sG,hP2,vU,hI6,hM6,jM⟩)
         have hs6:=jM.size;have npm:Y.pm<w.heap.size:=hpl;have Jm:∀b,b≠R->w.heap.size<=b->¬ (b=Y.pm\/b=R):=λb h1 h2 h=>by rcases h with h|h<;>omega
         have AC6:=AC3.out (Jm Cb nCR ak) jM;have B6:=B3.out (Jm _ ak ak) jM;have C6:=C3.out (Jm _ ak ak) jM;have NI:=ah (At.out (M:=λb=>b=Y.pm\/b=R) BM.out (by rintro(h|h);exact n0p h;exact n0R h) jM);have agQ:=ah (Dq.out agN.out jM (Jm g (Ne.symm nRg) ak));have hown6:=ah (cK (M:=λb=>b=Y.pm\/b=R) hown3.out (λg' hg'=>Jm g' (by have:=(hown3.out.lt g' hg').1;omega) (by have:=(hown3.out.lt g' hg').1;omega)) jM);have aes:Hid (∀b,b<N5->P2 b->P b):=ah λb hb h=>yX.out b hb (hP2 b ak h);have agR:Hid (∀b,v.ownBlock=some b->¬ P2 b):=ah λb h hp=>hvg.out b h (hP2 b (hown3.out.lt b h).2 hp)
         have ai5:Hid (gV BL (q+en*17) (xs1.drop en)):=ah (by
          have h1:=hC3.out.rest hM6 (by rw[List.length_drop,BK.out];have:=RF.out;omega);rw[List.drop_drop,RF.out]at h1;have e:q+at_*17+d*17=q+en*17:=by have:=RF.out;omega
          rw[e]at h1
          exact h1)
         have HI6:=ah hI6;have hN6:N5<=w6.heap.size:=aK hN3 hs6;have HN2:Hid (n2<=n+2*jw B f xs1 en):=ah ak;obtain⟨sh,hsh⟩:∃l:List Fw.Ld,(bs.map (·.ld)).map (λx=>{ x with a1:=Fw.wr (x.a1+y1) })=l:=⟨_,rfl⟩;have HSH:=ah hsh;have HSL:Hid (sh.length=d):=ah (by rw[<-hsh,List.length_map,List.length_map,HBL.out]);have HOL:=ah hTT.out.2.2.1;clear Vw hn2 hP2 hI6 hM6 jM AC3 B3 C3 BM agN hown3 hvg yX hN3 Jm hsh hcs hcs2 hn' hC3 l0 aA aB aY yh hPC Gx
         go_loopw [129] (λiv wr=>∃(i:Nat) (v3:Value),i<=d/\iv=.int .i64 i/\qR Y B F w P n2 P2 wr/\At wr R (.cells BL 216)/\At wr Cb (.cells #[v3,y1] 147)/\Hid (wr.ownsRow N5 88 7 v3 (out++sh.take i).length (yt (out++sh.take i)))/\Hid (∀b,v3.ownBlock=some b->¬ P2 b)/\At wr w (.cells #[z,i0,i1] 86)/\At wr (w.heap.size+1) (.cells #[.slice none 0 0,()] 147)/\Hid (aR wr b0 s zvf zva OQ)/\Hid (Dq wr g br)/\N5<=wr.heap.size) (λiv _=>d-(intOf iv).toNat)
         case atStart=>exact⟨0,v,gF _,rfl,tX,vU,AC6,ah (by simpa using hown6.out),agR,B6,C6,NI,agQ,hN6⟩
         case round =>
          clear tX vU AC6 hown6 agR B6 C6 NI agQ hN6;obtain⟨i,v3,akB,rfl,hSr,hAr,AC,hown,hvg,A0,A4,xO,SX,Gx⟩:=hrel;by_cases hlt:i<d
          . have hltz:(i:Int)<(d:Int):=by omega
            have hix:i<bs.length:=by rw[HBL.out];exact hlt
            have qU:=HI6.out.at_ hAr hix;obtain⟨x,hx⟩:=aC (bs[i]);rw[hx]at qU;have HX:=ah hx;have qD:=ah hSr;have ab':=ah hSr.lt;have Dk:=hAr.lt;clear hx hSr
            go_upto_region 24 with(first|(refine dQ bB _ rfl rfl (by with_reducible assumption) ?_)|(refine dJ bB rfl ?_)|(refine dI bB _ _ rfl rfl rfl Z4u ?_))
            generalize hW:World.setRow _ _ _=W3;obtain⟨Q,hQ⟩:=aC wr.heap.size;have AQ:At W3 Q (.cells (nW x) 216):=hW▸hQ▸At.setRow (At.new _ _) _;have hb3:Below wr wr W3:=hW▸aU (aD aG _) aF _;have gQ:wr.heap.size<=Q:=Nat.le_of_eq hQ;rw[hQ];clear hW hQ qU Dk;obtain⟨p,hp⟩:=aC (IntKind.i64.wrap (x.ld.a1+y1));obtain⟨y',hy'⟩:∃y:Fw.Ld,{ x.ld with a1:=p }=y:=⟨_,rfl⟩
            have HTK:Hid (sh.take (i+1)=sh.take i++[y']):=ah (by
             have hxi:i<sh.length:=by rw[HSL.out];exact hlt
             rw[List.take_succ_eq_append_getElem hxi];congr 2;have e:=HSH.out;have e2:sh[i]={ bs[i].ld with a1:=Fw.wr (bs[i].ld.a1+y1) }:=by subst e;simp
             rw[e2,HX.out,<-sK,hp,hy'])
            have AC3:=AC.keep hb3;have lQ:=AQ.lt;have c11:W3.cell? ⟨Q,11,none⟩=some (.int .i64 x.ld.a1):=(AQ.cell 11).trans rfl;have z11:=AQ.thaw 11;obtain⟨lC,Hz,H7⟩:=At.two AC3
            go_upto_region 25 with(fail)
            generalize hW:ja4 _ _ _=W9;have AQ9:At W9 Q (.cells (nW { x with ld:=y' }) 216):=by
             rw[<-hW,<-hy'];exact At.set AQ 11 _
            have iM:Below wr wr W9:=by
             rw[<-hW];exact Below.setCell hb3 gQ _
            clear hW lQ c11 z11 AQ hb3 hp hy' AC3 lC Hz H7;have NT:=cK (M:=λ_=>False) hown.out (λ_ _ q=>q) (Out.of_below iM);have hs9:=iM.size;obtain⟨g',c',w',hr,hown',hOa,hgg⟩:=QI y' NT ak (by rw[ja8,HOL.out,jc1,HSL.out];omega);obtain⟨ln,hln⟩:=aC ((out++sh.take i).length+1);rw[hln]at hr hown';clear hln;have hrun:=ah hr
            have hQL:∀j,j<7->W9.cell? ⟨Q,5+j,none⟩=(fH y')[j]? := λj hj=>by
             rw[AQ9.cell];exact Z29
            have Y5:∀b,v3.ownBlock=some b->N5<=b:=λb h=>(hown.out.lt b h).1;have AC9:=AC.keep iM;have ACn:At w' Cb (.cells #[v3,y1] 147):=At.out (M:=λb=>v3.ownBlock=some b) (AC9.alloc _) (λh=>by have:=Y5 Cb h;omega) hOa;obtain⟨lC9,aeu,aev⟩:=At.two AC9;obtain⟨lCn,aew,aex⟩:=At.two ACn;have aey:=ACn.thaw 0;have lQ9:=AQ9.lt;have HQL:=ah hQL;clear hr NT hQL
            go_upto_region 26 with(first|(refine fQ BF oC bB _ rfl rfl (dW y') HQL.out ?_)|(refine vR bB _ rfl rfl ?_)|(at_builtin;refine wpList_append_run bB _ _ 145 rfl rfl rfl hrun.out ?_))
            generalize hW:ja4 _ _ _=NJ;have Af:At NJ Cb (.cells #[.slice g' ln c',y1] 147):=hW▸At.set ACn 0 _;have NU:Out (λb=>b=Cb) w' NJ:=hW▸Out.set (M:=λb=>b=Cb) (Out.refl _ _) rfl 0 _
            have QU:Hid (NJ.ownsRow N5 88 7 (.slice g' ln c') (out++sh.take (i+1)).length (yt (out++sh.take (i+1)))):=ah (by
             rw[HTK.out,<-List.append_assoc]
             exact cK (M:=λb=>b=Cb) hown' (λg hg e=>by have:=(hown'.lt g hg).1;omega) NU)
            have agS:Hid (∀b,(Value.slice (some ⟨g',0,none⟩) ln c').ownBlock=some b->¬ P2 b):=ah λb h hp=>by
             have e:g'=b:=by simpa[Value.ownBlock]using h
             subst e;rcases hgg with h1|h1
             . exact hvg.out _ h1 hp
             . have:=ab'.out _ hp;omega
            have NV:Out (λb=>v3.ownBlock=some b\/b=Cb) wr NJ:=(Out.of_below (aD iM _)).trans ((hOa.mono λb _ h => .inl h).trans (NU.mono λb _ h => .inr h))
            have hoff:∀b,b<N5->b≠Cb->¬ (v3.ownBlock=some b\/b=Cb):=λb hb hn h=>by
             rcases h with h|h
             . have:=Y5 b h;omega
             . exact hn h
            have nZ:=qD.out.own NV λb hb h=>by
             rcases h with h|h
             . have h1:=Y5 b h
               exact⟨hvg.out b h,by omega⟩
             . subst h
               exact⟨λhp=>by have:=DW.out _ (aes.out _ lC5 hp);omega,by omega⟩
            have oq:=hAr.out (hoff R lR5 (Ne.symm nCR)) NV;have B10:=A0.out (hoff _ ak ak) NV;have OT:=A4.out (hoff _ ak ak) NV;have xu:=ah (At.out xO.out (hoff b0 ak ak) NV);have NS:=ah (Dq.out SX.out NV (hoff g lg5 (Ne.symm nCg)));have FH:N5<=NJ.heap.size:=aK Gx NV.size;clear hW ACn NU hown' hOa NV hoff AC9 lC9 aeu aev lCn aew aex aey lQ9 HQL iM hs9 AQ9 hown hAr A0 A4 AC xO SX hrun hvg hgg;go_wp2
            go_roundw
            case rel=>exact⟨i+1,_,by omega,by go_num,nZ,oq,Af,QU,agS,B10,OT,xu,NS,FH⟩
            case measure=>simp[intOf];omega
          . obtain rfl:i=d:=by omega
            have hfull:sh.take i=sh:=List.take_of_length_le (by rw[HSL.out];exact aO _);rw[hfull]at hown;have lC:=AC.lt;obtain⟨lC,Hz,H7⟩:=At.two AC;have zC1:=AC.thaw 1;obtain⟨y2,hy2⟩:=aC (IntKind.i64.wrap (y1+deep))
            go_upto_region 28 with(fail)
            generalize hW:ja4 _ _ _=Vs;have FI:At Vs Cb (.cells #[v3,y2] 147):=hW▸At.set AC 1 _;have NU:Out (λb=>b=Cb) wr Vs:=hW▸Out.set (M:=λb=>b=Cb) (Out.refl _ _) rfl 1 _
            have vW:=hSr.own NU λb hb h=>by
             subst h;exact⟨λhp=>by have:=DW.out _ (aes.out _ lC5 hp);omega,by omega⟩
            have NW:=hAr.out (M:=λb=>b=Cb) (Ne.symm nCR) NU;have B12:=A0.out (M:=λb=>b=Cb) ak NU;have LM:=A4.out (M:=λb=>b=Cb) ak NU;have Jk:=ah (At.out (M:=λb=>b=Cb) xO.out ak NU);have agT:=ah (Dq.out (M:=λb=>b=Cb) SX.out NU (Ne.symm nCg));have aez:=ah (cK (M:=λb=>b=Cb) hown.out (λg' hg' e=>by have:=(hown.out.lt g' hg').1;omega) NU);have H8:N5<=Vs.heap.size:=aK Gx NU.size
            have ai6:Hid (br.drop (k2+1)=Li.tail i0 (s.c 46) (s.b 45) qG en/\en<=k/\(out++sh).length=en/\(xs,hi)=((out++sh)++(Fw.fC B (Fw.lay B f) z i0 i1 hh fl (decide (k2+1=0)) y2 (br.drop (k2+1))).1,(Fw.fC B (Fw.lay B f) z i0 i1 hh fl (decide (k2+1=0)) y2 (br.drop (k2+1))).2)):=ah ⟨HB2.out.2,hle,by rw[ja8,HOL.out,HSL.out];have:=RF.out;omega,by
             have h1:=hTT.out.2.2.2;rw[HDR.out,<-HB2.out.2]at h1;have h2:=Hw (y1:=y1) (l:=bs.map (·.ld)) (d:=deep) h1 (by rw[Qj.out];exact HY1.out) (by rw[show((at_,en):Nat×Nat).2-((at_,en):Nat×Nat).1=i from HD.out];exact HRL.out);rw[HSH.out,<-sK,hy2]at h2
             exact h2⟩
            clear hW lC Hz H7 zC1 NU hown hAr A0 A4 AC xO SX hSr hfull hy2;go_wp2
            go_roundw
            case rel=>exact⟨k2+1,n2,P2,BL,v3,y2,out++sh,en,by have:=HK2.out;omega,by go_num,ai6,HN2.out,vW,aes,H8,NW,ai5,FI,aez,hvg,B12,LM,Jk,agT⟩
            case measure=>have:=HK2.out;simp[intOf];omega
      . obtain rfl:k2=nb:=by omega
        have hend:br.drop k2=[]:=by rw[<-HNB.out];exact List.drop_length
        have h4:=hTT.out.2.2.2;rw[hend,KQ,List.append_nil]at h4;have hxo:xs=out/\hi=y:=by injection h4 with h1 h2;exact⟨h1,h2⟩
        obtain⟨Rr,cap,csr,rfl,Y5,gR',AR,Jj⟩:=NA hown.out (by rw[<-hxo.1];exact HXL.out);obtain⟨lC,Hz,H7⟩:=At.two AC;obtain⟨l4,fF,fG⟩:=At.two A4;have je:=A4.thaw 0;have jf:=A4.thaw 1;have lw:w.heap.size+1<wr.heap.size:=A4.lt;have HRC:=ah Jj;have qD:=ah hSr;have HXO:=ah hxo;have aeA:=ah (hvg.out Rr rfl);have hPN:=ah (show¬ P' (w.heap.size+1)from λh=>by have:=DW.out _ (yX.out _ ak h);omega)
        have HN2:Hid (n'<=n+2*(fl.map (Fw.cst B f)).sum):=ah (by
         have h1:=xU B f xs1 at_;rw[BK.out,HCS.out]at h1
         omega)
        clear Jj hown hSr hAr A0 xO SX h4 hxo hend;go_wp2;generalize hW:ja4 _ _ _=W6;replace A4:At W6 (w.heap.size+1) (.cells #[.slice Rr out.length cap,y] 147):=hW▸At.set (At.set A4 0 _) 1 _;have SG:Out (λb=>b=w.heap.size+1) wr W6:=by
         exact Z2a
        clear hW fF fG je jf lC Hz H7 AC;have AR6:=AR.out (M:=λb=>b=w.heap.size+1) ak SG;have tX:=qD.out.own SG λb hb h=>by subst h;exact⟨hPN.out,by omega⟩
        obtain⟨l4,fF,fG⟩:=At.two A4;have jM:=tX.fin;have LQ:=tX.kp;have hNw:=tX.new;refine bodyPost_ret (v:=.agg #[.slice Rr out.length cap,y]) (by simp[results,Tryz.results96,go_sem,fF,fG,l4];first|done|exact⟨rfl,rfl⟩|rfl) rfl ⟨Rr,cap,csr,P',n',by rw[HXO.out.1,HXO.out.2],by omega,AR6,by rw[HXO.out.1];exact HRC.out,HN2.out,LQ,hNw,aeA.out,jM⟩
end
end Go.Proofs.YtfohooineeijkaaGreat.Fix
