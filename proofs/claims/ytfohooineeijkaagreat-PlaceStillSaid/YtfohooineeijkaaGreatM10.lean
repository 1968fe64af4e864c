/- Steps of the program (10); no conditions. -/
import Derived.Test.YtfohooineeijkaaGreatM09
set_option linter.all false
set_option maxRecDepth 100000
set_option maxHeartbeats 16000000
namespace Go.Proofs.YtfohooineeijkaaGreat.Fix
open Go.ChangeShapes Go.WideShapes Go.ChangeAt Go.RowKit
open Go.Proofs.Tryz renaming prog → ja0
open List renaming getElem?_eq_getElem → ja6,length_append → ja7,length_map → jb7,getElem_mem → jc2,ext_getElem → jc6
variable {w:World}{o:Oper}{ops:Array Oper}{a:Act}{b:Nat}
theorem vH{M:Nat->Prop}{W W':World}{b off:Nat}{l:List Int}(h:Ints W (some ⟨b,off,none⟩) l)(k:Out M W W')(hm:¬ M b):Ints W' (some ⟨b,off,none⟩) l:=by
 refine⟨h.1,λh0 => ?_⟩;obtain⟨b',off',e,hc⟩:=h.2 h0;obtain⟨rfl,rfl,-⟩:b=b'/\off=off'/\True:=by injection e with e;injection e with e1 e2;exact⟨e1,e2,trivial⟩
 exact⟨b,off,rfl,λi hi=>(Out.cell k (off+i) (World.block_lt_of_cell? _ _ (hc i hi)) hm).trans (hc i hi)⟩
theorem lints{l:List Int}(h:Ints w (some ⟨b,0,none⟩) l){k:Nat}(hk:k<l.length):b<w.heap.size/\w.cell? ⟨b,k,none⟩=some (.int .i64 (l.getD k 0)):=by
 obtain⟨b',off,e,hl,hc⟩:=h.at_ hk;injection e with e;injection e with e1 e2;subst e1 e2;rw[Nat.zero_add]at hc;exact⟨hl,hc⟩
def rF(g:Nat->Im->Im)(l:List Im)(k:Nat):List Im:=(l.take k).mapIdx g++l.drop k
theorem gP(g:Nat->Im->Im)(l:List Im)(k:Nat):(rF g l k).length=l.length:=by simp[rF];omega
theorem oO(g:Nat->Im->Im)(l:List Im){k:Nat}(hk:k<l.length):(rF g l k)[k]'(by rw[gP];exact hk)=l[k]:=by
 unfold rF;rw[List.getElem_append_right iH];simp;congr 1;omega
theorem zV(g:Nat->Im->Im)(l:List Im){k:Nat}(hk:k<l.length):(rF g l k).set k (g k l[k])=rF g l (k+1):=by
 unfold rF;exact Z1p
theorem zW(g:Nat->Im->Im)(l:List Im):rF g l 0=l:=by simp[rF]
theorem En(g:Nat->Im->Im)(l:List Im):rF g l l.length=l.mapIdx g:=by simp[rF]
instance:Inhabited Im:=⟨⟨⟨0,0,0,0,0⟩,⟨0,0,0,0,0,0,0⟩,0,0,0,0,0⟩⟩
theorem rG(l:List Int):Ju.row (λi=>l.getD i 0) l.length=l:=by
 unfold Ju.row;exact jc6 aV λi h1 h2=>by simp[List.getD,ja6 h2]
theorem yO(l:List Im):(ug l).length=l.length:=by simp[ug]
def lnF(B:Int->Fw.Bx)(f:Nat)(i0 i1:Int)(sz:List Int)(i:Nat)(x:Im):Im:={ x with ld:=Fw.lay B f x.ld.id i0 i1 (Fw.wr (sz.getD i 0+Fw.vW (B x.ld.id).sty 0)) (-1) }
def lnB(al deep:Int)(st:List Int)(i:Nat)(x:Im):Im:={ x with ld:={ x.ld with a0:=Fw.wr (st.getD i 0+x.m0),a1:=Fw.wr (Ju.across al (Bb x) deep+x.m2) } }
def lnS(B:Int->Fw.Bx)(i0 gap:Int)(xs:List Im):List Int:=kD (λi=>(xs.getD i default).it) xs.length (oz (Fw.wr (i0-Fw.wr (gap*Fw.wr ((xs.length:Int)-1)))) (λi=>Xp (xs.getD i default) (B (xs.getD i default).ld.id).sty) xs.length)
def Jz(high:Int)(xs:List Im):Int:=if high = -1 then (nC xs).foldl max 0 else high
def Eo(B:Int->Fw.Bx)(f:Nat)(s:Re.St)(i0 i1 high:Int)(xs:List Im):List Im:=xs.mapIdx (lnF B f i0 i1 (lnS B i0 (s.c 46) xs))
def sV(B:Int->Fw.Bx)(f:Nat)(s:Re.St)(i0 i1 deep:Int)(ys:List Im):List Im:=if s.c 44=0 then ys.map (BX B f i0 i1 deep)else ys
def sW(s:Re.St)(i0 deep:Int)(ys:List Im):List Im:=ys.mapIdx (lnB (s.c 44) deep (Ju.row (Ju.starts (s.c 43) i0 (s.c 46) (ug ys)) ys.length))
theorem jq(ho:o.op=.alloc 59):(execOp a.eval o).run ja0 w=.ok (.value (.pointer w)) (w.alloc (.cells (cells Re.zero) 59)):=by
 unfold execOp;simp only[ho,Sem.run_bind,Aj,Result.andThen_ok,Sem.run_pure]
theorem jr(x y:Operand)(ho:o.op=.store 59 x y)(hx:a.eval x=.pointer b){s t:Re.St}(hy:a.eval y=.agg (cells t))(hs:At w b (.cells (cells s) 59)):(execOp a.eval o).run ja0 w=.ok .skip (w.setRow b (cells t)):=by
 unfold execOp;simp only[ho,hx,hy,Sem.run_bind,uS hs,Result.andThen_ok,Sem.run_pure]
section
variable {Y:pU} {B:Int->Fw.Bx} {F:Int->Nat} {D:Int->Prop} {KM:World->Nat->Prop} {f:Nat} {w0:World} {P0:Nat->Prop}
theorem abf{i0 i1:Int}{sz:List Int}{x:Im}(i:Nat)(h:Ml Y B D F f i0 x):Ml Y B D F f i0 (lnF B f i0 i1 sz i x):=⟨h.d,h.f,h.bx,h.m0,h.m1,h.m2,h.m3⟩
theorem afI(hL:vG Y B F D KM f)(hK:∀(X X':World) (b:Nat),KM X b->Below X X X'->KM X' b)(rT:∀(X X':World) (b:Nat),KM X b->Out (λq=>q≠b) X X'->KM X' b)(hR0:RO w0 Y B D KM)(hkm:Y.km<w0.heap.size)
  (R q c:Nat) (z i0 i1 high:Int) (hz:D z) (xs:List Im) (cs:Array Value) (w:World) (n:Nat) (P:Nat->Prop) (hS:o9 Y B F w0 P0 n P w) (hA:At w R (.cells cs 216)) (hI:eX cs q xs) (hok:∀x∈xs,Ml Y B D F f i0 x) (XH:¬ P R) (sI:w0.heap.size<=R) (hn:n+2*iF B f xs xs.length<maxLen) (hl:xs.length<=64) (s:Re.St) (hs:(B z).sty=s) (xs1 xs2:List Im) (deep:Int) (hx1:Eo B f s i0 i1 high xs=xs1) (hdp:Jz high xs1=deep) (hx2:sV B f s i0 i1 deep xs1=xs2) :
  Calls ja0 136 #[Y.lb,.agg #[z,i0,i1],.slice (some ⟨R,q,none⟩) xs.length c,high] w λe w'=>e=.returned deep /\
   ∃n' P' cs',n'<=n+2*iF B f xs xs.length/\o9 Y B F w0 P0 n' P' w'/\¬ P' R/\(∀b,b<w.heap.size->P' b->P b)/\At w' R (.cells cs' 216)/\eX cs' q (sW s i0 deep xs2)/\jm q xs.length cs cs'/\Out (λb=>b=Y.pm\/b=R) w w':=by
 obtain⟨es0,Uc,nY⟩:=hR0.Fz;have aiq:Y.pm<R:=aU nY.lt sI;obtain⟨m,hm⟩:=aA xs.length;have HM:=ah hm;have HN:=ah hn;have HOK:=ah hok;have uG:=ah hR0;have Sj:=ah hx1;have HDP:=ah hdp;have HX2:=ah hx2;have hRl:=hA.lt;have wK:=hS.ro rT hR0 hkm;have acD:=wK.look hz;obtain⟨b0,hb0⟩:=aA (Y.bl z);rw[hb0]at acD;have hbx:=(wK.box z hz).1;rw[hb0,hs]at hbx;have yP:=ah hbx.style;have wD:=wK.lay;have Uq:=hbx.lt;obtain⟨lY,xk,xq,zn,zo,zq,zu⟩:=At.six wD;have b1:Below w w (w.alloc (.cells #[z,i0,i1] 86)):=aB aD _;have A0:At (w.alloc (.cells #[z,i0,i1] 86)) w.heap.size (.cells #[z,i0,i1] 86):=At.new _ _;have hS1:=hS.after b1;have hA1:=hA.keep b1;have FT:=wK.keep hK b1;rw[hm]at hl ⊢;clear hn hok hR0 hS hA hm nY hx1 hdp hx2 hs hbx xk xq zn zo zq zu acD wD lY;go_enter Tryz.func136,Tryz.ntmps136
 go_upto_region 1 with(fail)
 generalize w.alloc (.cells #[z,i0,i1] 86)=w1 at *;have ais:w.heap.size<w1.heap.size:=A0.lt;have hsz:=b1.size;have hlk:=λX (h:Below w1 w1 X)=>(FT.keep hK h).look hz;simp only[hb0]at hlk;have XM:=ah (λj hj=>(b1.cell (p:=⟨b0,0+j,none⟩) Uq).trans (yP.out j hj):uf w1 b0 0 s);have Vw:b0<w1.heap.size:=aU Uq hsz;obtain⟨lY,xk,xq,zn,zo,zq,zu⟩:=At.six FT.lay;obtain⟨l0,eY,eZ,fV⟩:=At.three A0;have hSd:Below w1 w1 w1.drew:=Below.drew aD;refine gZ (S:=λX=>Below w1 w1 X) 12 ?_ ?_
 . exact hSd
 intro hx;clear hSd;refine aG 0 ?_;refine aG 1 ?_;refine aG 2 ?_;refine aG 3 ?_;refine aG 4 ?_;refine aG 5 ?_;refine jc 6 rfl (aY aQ rfl rfl rfl (λX h=>hlk X h)) ?_;refine aG 7 ?_;refine aG 8 ?_;refine jc 9 rfl (iD aQ (.tmp 26) rfl rfl (λX h=>λj hj=>(h.cell (p:=⟨b0,0+j,none⟩) Vw).trans (XM.out j hj))) ?_;refine tk1 10 ?_;refine aj.Step.value (jq rfl) ?_;obtain⟨w2,hw2,AS,hb2,gT⟩:∃w2,w2=w1.drew.alloc (.cells (cells Re.zero) 59)/\At w2 w1.drew (.cells (cells Re.zero) 59)/\Below w1.drew w1.drew w2/\w1.heap.size<=w1.drew.heap.size:=⟨_,rfl,At.new _ _,aB aD _,hx.size⟩;rw[<-hw2];clear hw2;replace hx:=Below.ay hx aC hb2;generalize w1.drew.heap.size=T at *;refine⟨λ_=>hx,?_⟩
 (try simp only[bN,bO,bP,tks])
 refine tk1 11 ?_;refine aj.Step.skip (jr (.tmp 9) (.tmp 27) rfl rfl rfl AS) ?_;replace AS:At (w2.setRow T (cells s)) T (.cells (cells s) 59):=At.setRow AS _;have hx2:Below w1 w1 (w2.setRow T (cells s)):=aM hx gT _;generalize w2.setRow T (cells s)=w3 at *;refine⟨λ_=>hx2,?_⟩
 (try simp only[bN,bO,bP,tks])
 refine gX ?_;have abg:=hx2.size;have hO3:Out (λb=>b=Y.pm\/b=R) w w3:=Out.of_below (b1.trans (hx2.mono hsz));have qp:=hS1.after hx2;have hA3:=hA1.keep hx2;have B3:=A0.keep hx2;have FH:=qp.ro rT uG.out hkm;have hPw:=qp.lt;obtain⟨sz,hszz⟩:=aA (lnS B i0 (s.c 46) xs);have XO:Hid (xs.mapIdx (lnF B f i0 i1 sz)=xs1):=ah (by rw[<-hszz];exact Sj.out);have HI:=ah hI;have aaU:Calls ja0 177 #[.slice (some ⟨R,q,none⟩) m c,(),.agg #[i0,i1],s.c 46] w3 λe w'=>(∃b,e=.returned (.slice (some ⟨b,0,none⟩) m m)/\w3.heap.size<=b/\Ints w' (some ⟨b,0,none⟩) sz)/\Below w3 w3 w':=by
  have e:=HM.out;subst e;have hg:∀i (h:i<xs.length),xs.getD i default=xs[i]:=λi h=>by rw[List.getD,ja6 h];rfl
  have k:=Xz (some ⟨R,q,none⟩) xs c i0 i1 (s.c 46) (λi=>(xs.getD i default).it) (λi=>Xp (xs.getD i default) (B (xs.getD i default).ld.id).sty) (λi=>(B (xs.getD i default).ld.id).sty) w3 (hI.ims hA3) hl (λi h=>by simp only[hg i h]) (λi h=>by simp only[hg i h]) (λi h=>by
   have ho:=HOK.out xs[i] (jc2 _);have hb:=(FH.box _ ho.d).1;rw[<-ho.bx]at hb;simp only[hg i h]
   exact⟨_,_,_,hb⟩)
  rw[<-hszz];exact k
 have Ur:sz.length=m:=by rw[<-hszz,<-HM.out];unfold lnS kD;simp
 have JA:w3.cell? ⟨T,46,none⟩=some (.int .i64 (s.c 46)):=(AS.cell 46).trans (bJ s ak rfl);obtain⟨l0,eY,eZ,fV⟩:=At.three B3;have lT:=AS.lt;clear hI b1 A0 hS1 hA1 FT XM hlk xk xq zn zo zq zu lY yP wK hb2 hszz hx;have HRR:=ah FH;clear FH
 go_upto_region 3 with(go_at_call 177;(with_reducible refine aaU.mono ?_);rintro e' w4 ⟨⟨bz,rfl,gbz,xY⟩,hb4⟩)
 clear aaU;have abh:=ah xY;have hO4:Out (λb=>b=Y.pm\/b=R) w w4:=Out.trans' hO3 (Out.of_below (M:=λ_=>False) hb4) λ_ _ q=>q.elim;have F8:=qp.after hb4;have hA4:=hA3.keep hb4;have B4:=B3.keep hb4;have XP:=ah (AS.keep hb4);have adK:=hb4.size;have gT2:w.heap.size<T:=by have:=B3.lt;have h2:=ais;omega
 clear hb4 xY AS B3 hA3 qp hO3 hx2 HRR
 go_loopw [35] (λiv wr=>∃(k n':Nat) (P':Nat->Prop) (cs':Array Value),k<=m/\iv=.int .i64 k/\n'<=n+iF B f xs k/\o9 Y B F w0 P0 n' P' wr/\¬ P' R/\(∀b,b<w.heap.size->P' b->P b)/\At wr R (.cells cs' 216)/\Hid (eX cs' q (rF (lnF B f i0 i1 sz) xs k)/\jm q m cs cs')/\At wr w (.cells #[z,i0,i1] 86)/\Hid (At wr T (.cells (cells s) 59))/\Hid (Ints wr (some ⟨bz,0,none⟩) sz)/\Out (λb=>b=Y.pm\/b=R) w wr) (λiv _=>m-(intOf iv).toNat)
 case atStart=>exact⟨0,n,P,cs,eP _,rfl,by simp[iF],F8,XH,λb hb h=>h,hA4,ah ⟨by rw[zW];exact HI.out,jm.refl _ _ _⟩,B4,XP,abh,hO4⟩
 case round =>
  clear F8 hA4 B4 XP abh hO4 l0 eY eZ fV lT JA;obtain⟨k,n',P',cs',hk,rfl,hn',hSr,wL,xJ,hAr,hC,A0,hST,xY,hO⟩:=hrel;by_cases hlt:k<m
  . have hltz:(k:Int)<(m:Int):=by omega
    have hkx:k<xs.length:=by rw[HM.out];exact hlt
    have hkc:k<(rF (lnF B f i0 i1 sz) xs k).length:=by rw[gP];exact hkx
    have pz:=hC.out.1.at_ hAr hkc;rw[oO _ _ hkx]at pz;obtain⟨x,hx⟩:=aA (xs[k]);have j5:=ah (HOK.out x (hx▸jc2 _));rw[hx]at pz;have HX:=ah hx;have hRr:=hSr.ro rT uG.out hkm;have hbx:=(hRr.box x.ld.id j5.out.d).1;rw[<-j5.out.bx]at hbx;obtain⟨sx,hsx⟩:=aA ((B x.ld.id).sty);rw[hsx]at hbx;generalize Y.vf x.ld.id=vf at hbx;generalize Y.va x.ld.id=va at hbx;generalize (B x.ld.id).ib=ib at hbx;have HSX:=ah hsx;have HIM:=ah pz;have oN:=ah hSr;obtain⟨l2,bQ,bX,bY,bZ,cu,cK,bS,bU⟩:=At.bx0 hbx;clear bQ bX bY bZ cu cK;have BU:=hAr.lt;have Mq:wr.cell? ⟨R,q+k*17+12,none⟩=some (.pointer x.bx):=(pz 12 ak).trans rfl;have Rt:wr.cell? ⟨R,q+k*17+5,none⟩=some (.int .i64 x.ld.id):=(pz 5 ak).trans rfl;obtain⟨lz,cz⟩:=lints xY.out (by rw[Ur];exact hlt);obtain⟨v,hv⟩:=aA (sz.getD k 0);rw[hv]at cz;obtain⟨l0,eY,eZ,fV⟩:=At.three A0;clear hRr hbx pz hsx hx
    go_upto_region 6 with(fail)
    have abj:=ah (oN.out.after ((Below.refl wr.heap.size wr).drew));have hcs1:=rC B f xs hkx;rw[HX.out]at hcs1;have hcs2:=wE B f xs (k+1);have hnn:=HN.out;have uy:=λX=>eT (Fw.ed sx 3) (Fw.ed sx 1) X;obtain⟨e31,adL⟩:=aA (Fw.wr (Fw.ed sx 3+Fw.ed sx 1));simp only[adL]at uy;have afJ:Fw.vW sx 0=e31:=adL;clear adL;obtain⟨t0,ht0⟩:=aA (IntKind.i64.wrap (v+e31));have adF:(Fw.lay B f x.ld.id i0 i1 t0 (-1)).id=x.ld.id:=rfl;obtain⟨ly,wD⟩:=aA (Fw.lay B f x.ld.id i0 i1 t0 (-1));have HLF:=ah (show lnF B f i0 i1 sz k x={ x with ld:=ly }by unfold lnF;rw[HSX.out,hv,afJ,<-qI (v+e31),ht0,wD]);have Kn:ly.id=x.ld.id:=by rw[<-wD];rfl
    clear adF afJ hv;have NS:=ah (show q+k*17+5+7<=cs'.size by have:=hC.out.1.1;rw[gP]at this;have h2:k*17+17<=xs.length*17:=ak;omega);have n1:w.heap.size≠Y.pm:=by omega
    have n2:w.heap.size≠R:=by omega
    have n34:=uG.out.box x.ld.id j5.out.d;rw[<-j5.out.bx]at n34
    have n3:x.bx≠Y.pm:=λe=>by
     obtain⟨es1,ck1,hp1⟩:=uG.out.Fz;have h1:=n34.1;rw[e]at h1;exact absurd (h1.symm.trans hp1) aV
    have n4:x.bx≠R:=by have:=n34.1.lt;omega
    clear n34;have n5:bz≠Y.pm:=by omega
    have n6:bz≠R:=by omega
    have hSd:Out (λb=>b=Y.pm\/b=R) wr wr.drew/\wr.drew.cell? ⟨R,q+k*17+5,none⟩=some (.int .i64 x.ld.id)/\wr.drew.cell? ⟨R,q+k*17+12,none⟩=some (.pointer x.bx):=⟨(Out.refl _ _).drew,Rt,Mq⟩;refine gZ (S:=λX=>Out (λb=>b=Y.pm\/b=R) wr X/\X.cell? ⟨R,q+k*17+5,none⟩=some (.int .i64 x.ld.id)/\X.cell? ⟨R,q+k*17+12,none⟩=some (.pointer x.bx)) 26 ?_ ?_
    . exact hSd
    intro hx;clear hSd;refine fJ 0 ?_;refine fJ 1 ?_;refine fJ 2 ?_;refine fJ 3 ?_;refine fJ 4 ?_;refine fJ 5 ?_;refine fJ 6 ?_;refine fJ 7 ?_;refine fJ 8 ?_;refine fJ 9 ?_;refine fJ 10 ?_;refine fJ 11 ?_;refine fJ 12 ?_;refine fJ 13 ?_;refine fJ 14 ?_;refine fJ 15 ?_;refine fJ 16 ?_;refine fJ 17 ?_;refine fJ 18 ?_;refine tk1 19 ?_;refine aj.Step.call eB (uy _) ?_;rintro e' w6 ⟨rfl,hb6⟩;have iQ:Out (λb=>b=Y.pm\/b=R) wr w6:=Out.trans' ((Out.refl _ wr).drew) (Out.of_below (M:=λ_=>False) hb6) λ_ _ q=>q.elim;have qE:=abj.out.after hb6;have xE:=hAr.keep ((Below.drew (Below.refl _ wr)).trans hb6);have B6:=A0.keep ((Below.drew (Below.refl _ wr)).trans hb6);have Pz:w6.cell? ⟨R,q+k*17+5,none⟩=some (.int .i64 x.ld.id):=(hb6.cell (p:=⟨R,_,none⟩) BU).trans Rt;have zX:w6.cell? ⟨R,q+k*17+12,none⟩=some (.pointer x.bx):=(hb6.cell (p:=⟨R,_,none⟩) BU).trans Mq;have hx6:Out (λb=>b=Y.pm\/b=R) wr w6/\w6.cell? ⟨R,q+k*17+5,none⟩=some (.int .i64 x.ld.id)/\w6.cell? ⟨R,q+k*17+12,none⟩=some (.pointer x.bx):=⟨iQ,Pz,zX⟩;refine⟨_,rfl,λ_=>hx6,?_⟩
    (try simp only[bN,bO,bP,tks])
    refine fJ 20 ?_;refine fJ 21 ?_;have qB:=rD hL rT uG.out hkm qE x.ld.id i0 i1 t0 (-1) j5.out.d j5.out.f ak;rw[wD]at qB;refine tk1 22 ?_;refine aj.Step.call eB qB ?_;rintro e' iJ ⟨rfl,n2',P2,hn2,mF,Hg,jP⟩;have mJ:=xE.out (M:=λb=>b=Y.pm) ak jP;have Vx:=xE.lt;have uh:iJ.cell? ⟨R,q+k*17+5,none⟩=some (.int .i64 x.ld.id):=(Out.cell jP (q+k*17+5) Vx ak).trans Pz;have Gx:iJ.cell? ⟨R,q+k*17+12,none⟩=some (.pointer x.bx):=(Out.cell jP (q+k*17+12) Vx ak).trans zX;have B10:=B6.out (M:=λb=>b=Y.pm) n1 jP;have oP:Out (λb=>b=Y.pm\/b=R) wr iJ:=iQ.trans (jP.mono λb _ h => .inl h);have Jy:Out (λb=>b=Y.pm\/b=R) wr iJ/\iJ.cell? ⟨R,q+k*17+5,none⟩=some (.int .i64 x.ld.id)/\iJ.cell? ⟨R,q+k*17+12,none⟩=some (.pointer x.bx):=⟨oP,uh,Gx⟩;refine⟨_,rfl,λ_=>Jy,?_⟩
    (try simp only[bN,bO,bP,tks])
    refine fJ 23 ?_;refine fJ 24 ?_;refine tk1 25 ?_;refine aj.Step.skip (aS mM (.tmp 67) (.tmp 65) rfl rfl rfl mJ (dB ly) NS.out (nX ly)) ?_;have nJ:At (iJ.setRow R (splice cs' (q+k*17+5) (dU ly))) R (.cells (splice cs' (q+k*17+5) (dU ly)) 216):=At.setRow mJ _;have iZ:Out (λb=>b=R) iJ (iJ.setRow R (splice cs' (q+k*17+5) (dU ly))):=Out.setRow (M:=λb=>b=R) (Out.refl _ _) rfl _;have Bd:(iJ.setRow R (splice cs' (q+k*17+5) (dU ly))).cell? ⟨R,q+k*17+5,none⟩=some (.int .i64 x.ld.id):=by
     exact Z1e
    have Hl:(iJ.setRow R (splice cs' (q+k*17+5) (dU ly))).cell? ⟨R,q+k*17+12,none⟩=some (.pointer x.bx):=by
     exact Z2i
    refine⟨λ_=>⟨oP.trans (iZ.mono λb _ h => .inr h),Bd,Hl⟩,?_⟩
    (try simp only[bN,bO,bP,tks])
    refine gX ?_;have qC:¬ P2 R:=λh=>wL (Hg R Vx h);have hput:=hC.out.1.Rn hkc ly;rw[oO _ _ hkx,HX.out]at hput
    have XL:Hid (eX (splice cs' (q+k*17+5) (dU ly)) q (rF (lnF B f i0 i1 sz) xs (k+1))/\jm q m cs (splice cs' (q+k*17+5) (dU ly))):=ah ⟨by
     rw[<-zV _ _ hkx,HX.out,HLF.out]
     exact hput.1,hC.out.2.trans (by have:=hput.2;rw[gP,HM.out]at this;exact this)⟩
    have qD:=mF.own (M:=λb=>b=R) iZ λb hb h=>by subst h;exact⟨qC,sI⟩
    have nL:Out (λb=>b=Y.pm\/b=R) w (iJ.setRow R (splice cs' (q+k*17+5) (dU ly))):=(hO.trans oP).trans (iZ.mono λb _ h => .inr h);have B11:=B10.out (M:=λb=>b=R) n2 iZ;have hOr:Out (λb=>b=Y.pm\/b=R) wr (iJ.setRow R (splice cs' (q+k*17+5) (dU ly))):=oP.trans (iZ.mono λb _ h => .inr h);have uj:=ah (hST.out.out (M:=λb=>b=Y.pm\/b=R) ak hOr);have Ho:=ah (vH xY.out hOr ak);have adG:∀b,b<w.heap.size->P2 b->P b:=λb hb h=>xJ b hb (Hg b (aU hb (aH hO.size iQ.size)) h);generalize iJ.setRow R (splice cs' (q+k*17+5) (dU ly))=p9 at *;generalize splice cs' (q+k*17+5) (dU ly)=cs2 at *;clear hx hx6 Jy hput mJ iZ Bd uh Gx Hl B10 B6 A0 xE qE iQ jP oP Pz zX l0 eY eZ fV l2 bS bU cz lz Mq Rt hOr Hg mF;go_wp2
    go_roundw
    case rel=>exact⟨k+1,n2',P2,cs2,by omega,by go_num,by omega,qD,qC,adG,nJ,XL,B11,uj,Ho,nL⟩
    case measure=>simp[intOf];omega
  . obtain rfl:k=m:=by omega
    have hlen1:xs1.length=k:=by rw[<-XO.out,List.length_mapIdx,HM.out]
    have Us:Hid (eX cs' q xs1/\jm q k cs cs'):=ah (by
     have:=hC.out;rw[<-HM.out,En,XO.out]at this;rw[<-HM.out]
     exact this)
    have JB:Hid (∀x∈xs1,Ml Y B D F f i0 x):=ah (by
     rw[<-XO.out];intro x hx;obtain⟨i,hi,e⟩:=List.mem_mapIdx.1 hx;rw[<-e]
     exact abf i (HOK.out _ (jc2 _)))
    have adM:Hid (iF B f xs1 xs1.length=iF B f xs xs.length):=ah (by
     rw[<-XO.out];unfold iF;rw[List.take_length,List.take_length];congr 1
     exact jc6 aV λi h1 h2=>by simp[lnF];rfl)
    have hn1:n'<=n+iF B f xs xs.length:=by have:=hn';rw[HM.out];exact this
    have zY:=ah hlen1;have afK:Hid (deep=if high = -1 then (nC xs1).foldl max 0 else high):=ah HDP.out.symm;have BF:=Xy (some ⟨R,q,none⟩) xs1 c wr (Us.out.1.ims hAr) ak;rw[hlen1]at BF;clear hlen1 hC hn' hlt Sj XO HDP HI;have oN:=ah hSr
    go_upto_if 70 with(fail)
    go_cut [3]from 69 to 73 (λv w2=>v=.int .i64 deep/\Below wr wr w2)
    case first =>
     by_cases hh:high = -1
     . have e1:=afK.out
       rw[if_pos hh]at e1;have E1:=ah e1;clear e1
       go_wp2_with (go_at_call 178;(with_reducible refine BF.mono ?_);rintro e' w5 ⟨rfl,hb⟩)
       go_meet
       case rel=>exact⟨by rw[E1.out],hb⟩
     . have e1:=afK.out
       rw[if_neg hh]at e1;exact Z37
    case rest =>
     obtain⟨rfl,hb5⟩:=hcut;have hs5:=hb5.size;have hwr:=hO.size;have hS5:=oN.out.after hb5;have xD:=hAr.keep hb5;have B5:=A0.keep hb5;have PD:=ah (hST.out.keep hb5);have Fv:Out (λb=>b=Y.pm\/b=R) w wc:=Out.trans' hO (Out.of_below (M:=λ_=>False) hb5) λ_ _ q=>q.elim;have XQ:wc.cell? ⟨T,44,none⟩=some (.int .i64 (s.c 44)):=(PD.out.cell 44).trans (bJ s ak rfl);have lT:=PD.out.lt;obtain⟨l0,eY,eZ,fV⟩:=At.three B5;have wM:=XJ hL hK rT uG.out hkm R q c i0 i0 i1 deep xs1 cs' wc n' P' hS5 xD Us.out.1 JB.out wL sI (by rw[adM.out];have:=HN.out;omega) (by rw[zY.out];omega);rw[adM.out,zY.out]at wM;have hPc:∀b,b<w.heap.size->b<wc.heap.size:=λb h=>by omega
     have HPC:=ah hPc;clear BF hPc
     go_upto_if 75 with(fail)
     go_cut []from 73 to 82 (λw2=>∃(n2:Nat) (P2:Nat->Prop) (cs2:Array Value),n2<=n+2*iF B f xs xs.length/\o9 Y B F w0 P0 n2 P2 w2/\¬ P2 R/\(∀b,b<w.heap.size->P2 b->P b)/\At w2 R (.cells cs2 216)/\Hid (eX cs2 q xs2/\jm q k cs cs2)/\Out (λb=>b=Y.pm\/b=R) wc w2)
     case first =>
      by_cases hh:s.c 44=0
      . have e1:=HX2.out
        unfold sV at e1;rw[if_pos hh]at e1;have E1:=ah e1;clear e1
        go_wp2_with (go_at_call 179;(with_reducible refine wM.mono ?_);rintro e' w6 ⟨rfl,n2,P2,cs2,hn2,qE,qC,hP2,xE,hI6,hM6,iQ⟩)
        go_meet
        case rel=>exact⟨n2,P2,cs2,by omega,qE,qC,λb hb h=>xJ b hb (hP2 b (HPC.out b hb) h),xE,ah ⟨by rw[<-E1.out];exact hI6,Us.out.2.trans hM6⟩,iQ⟩
      . have e1:=HX2.out
        unfold sV at e1;rw[if_neg hh]at e1;have E1:=ah e1;clear e1;go_wp2
        go_meet
        case rel=>exact⟨n',P',cs',by omega,hS5,wL,xJ,xD,ah (by rw[<-E1.out];exact Us.out),Out.refl _ _⟩
     case rest =>
      obtain⟨n2,P2,cs2,hn2,qE,qC,hP2,xE,hC6,iQ⟩:=hcut
      have HL2:Hid (xs2.length=k):=ah (by
       rw[<-HX2.out];unfold sV;split
       . rw[jb7,zY.out]
       . exact zY.out)
      have hs6:=iQ.size;have B6:=B5.out (M:=λb=>b=Y.pm\/b=R) ak iQ;have XR:=ah (PD.out.out (M:=λb=>b=Y.pm\/b=R) ak iQ);have afL:Out (λb=>b=Y.pm\/b=R) w wc:=Fv.trans iQ;clear wM iQ Fv PD B5 xD hS5 hn1 HX2 JB adM wL xJ XQ l0 eY eZ fV hO hST xY A0 hAr oN hSr Us hb5;have adN:wc.cell? ⟨T,43,none⟩=some (.int .i64 (s.c 43)):=(XR.out.cell 43).trans (bJ s ak rfl);have JA:wc.cell? ⟨T,46,none⟩=some (.int .i64 (s.c 46)):=(XR.out.cell 46).trans (bJ s ak rfl);have lT6:=XR.out.lt;have Vx:=xE.lt;obtain⟨l0,eY,eZ,fV⟩:=At.three B6;have hSd:Below wc wc wc.drew:=Below.drew aD
      go_upto_region 12 with(fail)
      refine gZ (S:=λX=>Below wc wc X) 12 ?_ ?_
      . exact hSd
      intro hx;clear hSd;refine aG 0 ?_;refine aG 1 ?_;refine aG 2 ?_;refine aG 5 ?_;refine aG 6 ?_;refine aG 7 ?_;refine aG 8 ?_;refine aG 9 ?_;refine tk1 3 ?_;refine aj.Step.call eB (nA 0 _) ?_;rintro e' w7 ⟨rfl,hw7⟩;have mX:Below wc.drew wc.drew w7:=hw7▸aB aD _;have AQ:At w7 wc.drew (.cells #[()] 3):=hw7▸At.new _ _;clear hw7;replace hx:=Below.ay hx aC mX;generalize wc.drew.heap.size=Bq at *;refine⟨_,rfl,λ_=>hx,?_⟩
      (try simp only[bN,bO,bP,tks])
      have mO:=ady (some ⟨R,q,none⟩) xs2 c Bq w7 (hC6.out.1.ims (xE.keep hx)) (by rw[HL2.out];omega) (AQ.cell 0) AQ.lt;rw[HL2.out]at mO;refine tk1 4 ?_;refine aj.Step.call eB mO ?_;rintro e' w8 ⟨⟨bt,rfl,gbt,hT⟩,vB⟩;replace hx:=Below.ay hx aC vB;refine⟨_,rfl,λ_=>hx,?_⟩
      (try simp only[bN,bO,bP,tks])
      have Ut:=Em (some ⟨bt,0,none⟩) (ug xs2) k k (s.c 43) i0 (s.c 46) w8 (by
       have h1:=fM _ _ Ko hT;have h2:=rG (ug xs2);rw[yO,HL2.out]at h2;rw[h2]at h1
       exact h1) (by rw[yO,HL2.out]) aC ak
      refine tk1 10 ?_;refine aj.Step.call eB Ut ?_;rintro e' w9 ⟨⟨bst,rfl,gst,PE⟩,fF⟩;replace hx:=Below.ay hx aC fF;refine⟨_,rfl,λ_=>hx,?_⟩
      (try simp only[bN,bO,bP,tks])
      refine aG 11 ?_;refine gX ?_;have hs9:=hx.size;have akh:wc.heap.size<=bst:=by
       have h1:=mX.size;have h2:=vB.size;simp only[World.size_drew]at h1;omega
      have o8:=xE.keep hx;have NC:=qE.after hx;have XT:=ah (XR.out.keep hx);have Hf:Out (λb=>b=Y.pm\/b=R) w w9:=Out.trans' afL (Out.of_below (M:=λ_=>False) hx) λ_ _ q=>q.elim;obtain⟨stl,abk⟩:=aA (Ju.row (Ju.starts (s.c 43) i0 (s.c 46) (ug xs2)) k);rw[abk]at PE;have afM:stl.length=k:=by rw[<-abk,Ju.oH]
      have HBG:Hid (sW s i0 deep xs2=xs2.mapIdx (lnB (s.c 44) deep stl)):=ah (by unfold sW;rw[HL2.out,abk]);have ait:=ah afM;have afN:=ah PE;have hgT:T<w9.heap.size:=aU lT6 hs9;clear abk afM PE hx xE qE XR afL B6 mO Ut hT gbt gst mX vB fF AQ adN JA l0 eY eZ fV lT6 Vx
      go_upto_region 14 with(fail)
      go_loopw [95] (λiv wr=>∃(j:Nat) (zZ:Array Value),j<=k/\iv=.int .i64 j/\o9 Y B F w0 P0 n2 P2 wr/\At wr R (.cells zZ 216)/\Hid (eX zZ q (rF (lnB (s.c 44) deep stl) xs2 j)/\jm q k cs zZ)/\Hid (At wr T (.cells (cells s) 59))/\Hid (Ints wr (some ⟨bst,0,none⟩) stl)/\Out (λb=>b=Y.pm\/b=R) w wr) (λiv _=>k-(intOf iv).toNat)
      case atStart=>exact⟨0,cs2,eP _,rfl,NC,o8,ah ⟨by rw[zW];exact hC6.out.1,hC6.out.2⟩,XT,afN,Hf⟩
      case round =>
       clear NC o8 XT afN Hf hC6;obtain⟨j,zZ,hj,rfl,hSr,hAr,hC,hST,xY,hO⟩:=hrel;by_cases hlt:j<k
       . have hltz:(j:Int)<(k:Int):=by omega
         have hkx:j<xs2.length:=by rw[HL2.out];exact hlt
         have hkc:j<(rF (lnB (s.c 44) deep stl) xs2 j).length:=by rw[gP];exact hkx
         have pz:=hC.out.1.at_ hAr hkc;rw[oO _ _ hkx]at pz;obtain⟨x,hx⟩:=aA (xs2[j]);rw[hx]at pz;have HX:=ah hx;have HIM:=ah pz;have oN:=ah hSr;have BU:=hAr.lt;obtain⟨lz,cz⟩:=lints xY.out (by rw[ait.out];exact hlt);obtain⟨v,hv⟩:=aA (stl.getD j 0);rw[hv]at cz;have HV:=ah hv;have XQ:wr.cell? ⟨T,44,none⟩=some (.int .i64 (s.c 44)):=(hST.out.cell 44).trans (bJ s ak rfl);have lTr:=hST.out.lt;clear pz hx hv hSr
         go_upto_region 17 with(fail)
         have hSd:Below wr wr wr.drew:=Below.drew aD;refine gZ (S:=λX=>Below wr wr X) 10 ?_ ?_
         . exact hSd
         intro hx;clear hSd;refine aG 0 ?_;refine aG 1 ?_;refine aG 3 ?_;refine aG 4 ?_;refine jc 5 rfl (Eh (.tmp 107) aQ rfl rfl (λX h=>qA.keep HIM.out h BU)) ?_;refine aG 7 ?_;refine tk1 2 ?_;refine aj.Step.call eB (nA 1 _) ?_;rintro e' w7 ⟨rfl,hw7⟩;have mX:Below wr.drew wr.drew w7:=hw7▸aB aD _;have AQ:At w7 wr.drew (.cells #[.int .i64 1] 3):=hw7▸At.new _ _;clear hw7;replace hx:=Below.ay hx aC mX;generalize wr.drew.heap.size=Bq at *;refine⟨_,rfl,λ_=>hx,?_⟩
         (try simp only[bN,bO,bP,tks])
         refine tk1 6 ?_;refine aj.Step.call eB (Rk x Bq w7 (AQ.cell 0)) ?_;rintro e' w8 ⟨rfl,vB⟩;replace hx:=Below.ay hx aC vB;refine⟨_,rfl,λ_=>hx,?_⟩
         (try simp only[bN,bO,bP,tks])
         refine tk1 8 ?_;refine aj.Step.call eB (Bf (s.c 44) (Bb x) deep w8) ?_;rintro e' w9 ⟨rfl,rfl⟩;refine⟨_,rfl,λ_=>hx,?_⟩
         (try simp only[bN,bO,bP,tks])
         refine aG 9 ?_;refine gX ?_;have hs8:=hx.size;have OD:=hAr.keep hx;have hS8:=oN.out.after hx;have afO:=ah (hST.out.keep hx);have afP:=ah (xY.out.keep hx λ_ a ha=>by injection ha with ha;rw[<-ha];exact lz);have hO8:Out (λb=>b=Y.pm\/b=R) w w8:=Out.trans' hO (Out.of_below (M:=λ_=>False) hx) λ_ _ q=>q.elim;have adO:=ah (qA.keep (x:=x) HIM.out hx BU);have c13:w8.cell? ⟨R,q+j*17+13,none⟩=some (.int .i64 x.m0):=(adO.out 13 ak).trans rfl;have c15:w8.cell? ⟨R,q+j*17+15,none⟩=some (.int .i64 x.m2):=(adO.out 15 ak).trans rfl;obtain⟨la,hla⟩:=aA (Ju.across (s.c 44) (Bb x) deep);rw[hla];obtain⟨p0,hp0⟩:=aA (IntKind.i64.wrap (v+x.m0));obtain⟨p1,hp1⟩:=aA (IntKind.i64.wrap (la+x.m2));have HLB:=ah (show lnB (s.c 44) deep stl j x={ x with ld:={ x.ld with a0:=p0,a1:=p1 } }by unfold lnB;rw[HV.out,hla,<-qI (v+x.m0),<-qI (la+x.m2),hp0,hp1]);have hFI:q+j*17+10+2<=zZ.size:=by
          have:=hC.out.1.1;rw[gP]at this;have h2:j*17+17<=xs2.length*17:=by omega
          omega
         have NS:=ah hFI;clear hla mX vB AQ hx hAr hST xY hO HIM oN cz lz XQ lTr hFI HV BU;have lR8:=OD.lt
         go_upto_region 18 with(fail)
         have hSd:Out (λb=>b=R) w8 w8.drew/\w8.drew.cell? ⟨R,q+j*17+13,none⟩=some (.int .i64 x.m0)/\w8.drew.cell? ⟨R,q+j*17+15,none⟩=some (.int .i64 x.m2):=⟨(Out.refl _ _).drew,c13,c15⟩;refine gZ (S:=λX=>Out (λb=>b=R) w8 X/\X.cell? ⟨R,q+j*17+13,none⟩=some (.int .i64 x.m0)/\X.cell? ⟨R,q+j*17+15,none⟩=some (.int .i64 x.m2)) 22 ?_ ?_
         . exact hSd
         intro hx;clear hSd;refine aO 0 ?_;refine aO 1 ?_;refine aO 2 ?_;refine aO 3 ?_;refine aO 4 ?_;refine aO 5 ?_;refine aO 6 ?_;refine aO 7 ?_;refine aO 8 ?_;refine aO 9 ?_;refine aO 10 ?_;refine aO 11 ?_;refine aO 12 ?_;refine aO 13 ?_;refine aO 14 ?_;refine aO 15 ?_;refine aO 16 ?_;refine aO 17 ?_;refine aO 18 ?_;refine aO 19 ?_;refine aO 20 ?_;refine tk1 21 ?_;have XU:At w8.drew R (.cells zZ 216):=OD;refine aj.Step.skip (aS adt (.tmp 132) (.tmp 129) rfl rfl rfl XU rfl NS.out Kc) ?_;have nJ:=At.setRow XU (splice zZ (q+j*17+10) #[p0,p1]);have iZ:Out (λb=>b=R) w8.drew (w8.drew.setRow R (splice zZ (q+j*17+10) #[p0,p1])):=Out.setRow (M:=λb=>b=R) (Out.refl _ _) rfl _;have afQ:(w8.drew.setRow R (splice zZ (q+j*17+10) #[.int .i64 p0,.int .i64 p1])).cell? ⟨R,q+j*17+13,none⟩=some (.int .i64 x.m0):=by
          have h1:=gV (cs:=zZ) (vs:=#[p0,p1]) (q:=q+j*17+10) (k:=q+j*17+13) NS.out (.inr aV);rw[nJ.cell,h1,<-XU.cell];exact c13
         have afR:(w8.drew.setRow R (splice zZ (q+j*17+10) #[.int .i64 p0,.int .i64 p1])).cell? ⟨R,q+j*17+15,none⟩=some (.int .i64 x.m2):=by
          have h1:=gV (cs:=zZ) (vs:=#[p0,p1]) (q:=q+j*17+10) (k:=q+j*17+15) NS.out (.inr aV);rw[nJ.cell,h1,<-XU.cell];exact c15
         refine⟨λ_=>⟨((Out.refl _ w8).drew).trans iZ,afQ,afR⟩,?_⟩
         (try simp only[bN,bO,bP,tks])
         refine gX ?_;have Kg:Out (λb=>b=R) w8 (w8.drew.setRow R (splice zZ (q+j*17+10) #[p0,p1])):=((Out.refl _ w8).drew).trans iZ;have hput:=hC.out.1.putAt hkc p0 p1;rw[oO _ _ hkx,HX.out]at hput
         have XL:Hid (eX (splice zZ (q+j*17+10) #[p0,p1]) q (rF (lnB (s.c 44) deep stl) xs2 (j+1))/\jm q k cs (splice zZ (q+j*17+10) #[p0,p1])):=ah ⟨by
          rw[<-zV _ _ hkx,HX.out,HLB.out]
          exact hput.1,hC.out.2.trans (by have:=hput.2;rw[gP,HL2.out]at this;exact this)⟩
         have qD:=hS8.own (M:=λb=>b=R) Kg λb hb h=>by subst h;exact⟨qC,sI⟩
         have nL:Out (λb=>b=Y.pm\/b=R) w (w8.drew.setRow R (splice zZ (q+j*17+10) #[p0,p1])):=hO8.trans (Kg.mono λb _ h => .inr h);have uj:=ah (afO.out.out (M:=λb=>b=R) ak Kg);have Ho:=ah (vH afP.out Kg ak);generalize w8.drew.setRow R (splice zZ (q+j*17+10) #[.int .i64 p0,.int .i64 p1])=p9 at *;generalize splice zZ (q+j*17+10) #[.int .i64 p0,.int .i64 p1]=cs4 at *;clear hx hput OD XU iZ Kg c13 c15 afQ afR hS8 afO afP hO8 adO hp0 hp1;go_wp2
         go_roundw
         case rel=>exact⟨j+1,cs4,by omega,by go_num,qD,nJ,XL,uj,Ho,nL⟩
         case measure=>simp[intOf];omega
       . obtain rfl:j=k:=by omega
         go_wp2
         go_ret
         refine⟨rfl,n2,P2,zZ,by rw[HM.out]at hn2;exact hn2,hSr,qC,hP2,hAr,?_,hC.out.2,hO⟩;have:=hC.out.1;rw[<-HL2.out,En,<-HBG.out]at this;exact this
end
def yQ(it:Nat->Fe.It)(ex:Nat->Int)(n:Nat)(r1 gap:Int):List Int :=
 if r1 ≠ -1/\n<=64 then kD it n (oz (Fw.wr (r1-Fw.wr (gap*Fw.wr ((n:Int)-1)))) ex n)else Ju.row (λi=>Fe.clamp (it i) (it i).b) n
theorem JC(it:Nat->Fe.It)(ex:Nat->Int)(n:Nat)(r1 gap:Int):(yQ it ex n r1 gap).length=n:=by
 unfold yQ;split
 . simp[kD]
 . exact Ju.oH _ _
theorem abl(A:Option Addr)(xs:List Im)(c:Nat)(r0 r1 gap:Int)(it:Nat->Fe.It)(ex:Nat->Int)(st:Nat->Re.St)(w:World)(hx:Jq w A xs)(hl:xs.length<=10000)(hit:∀i (h:i<xs.length),it i=xs[i].it)(hex:∀i (h:i<xs.length),ex i=ext1 xs[i] (st i))(hbx:∀i (h:i<xs.length),∃fl ap ib,aL w xs[i].bx (st i) fl ap ib) :
  Calls ja0 138 #[.slice A xs.length c,.agg #[r0,r1],gap] w λe w' =>
   (∃b,e=.returned (.slice (some ⟨b,0,none⟩) xs.length xs.length)/\w.heap.size<=b/\Ints w' (some ⟨b,0,none⟩) (yQ it ex xs.length r1 gap))/\Below w w w':=by
 have b1:Below w w (w.alloc (.cells #[r0,r1] 81)):=aB aD _;have A0:At (w.alloc (.cells #[r0,r1] 81)) w.heap.size (.cells #[r0,r1] 81):=At.new _ _;obtain⟨w1,hw1⟩:=aA (w.alloc (.cells #[r0,r1] 81));rw[hw1]at b1 A0;have hx1:Jq w1 A xs:=hx.after b1
 have key1:=λh64=>XC A xs c r0 r1 gap it ex st w1 hx1 h64 hit hex (λi h=>by
  obtain⟨fl,ap,ib,q⟩:=hbx i h
  exact⟨fl,ap,ib,aL.keep q b1⟩)
 have key2:=adx #[] (λi=>Fe.clamp (it i) (it i).b) A xs c w1 hx1 hl (λi h X hb=>by
  simp only[hit i h]
  exact ads xs[i] X)
 obtain⟨m,hm⟩:=aA xs.length;rw[hm]at hl key1 key2 ⊢;have HW1:=ah hw1;have HB1:=ah b1;have hsz:=b1.size;clear hx hx1 hit hex hbx hm hw1 b1;have c0:=A0.lc;obtain⟨ans,eH⟩:=aA (yQ it ex m r1 gap);rw[eH];unfold yQ at eH;go_enter Tryz.func138,Tryz.ntmps138
 go_upto_region 1 with(fail)
 rw[HW1.out];by_cases hc:r1 = -1
 . rw[if_neg ak]at eH
   have eu:=ah eH;clear eH key1;exact Z1w
 . by_cases h64:m<=64
   . rw[if_pos ⟨hc,h64⟩]at eH
     replace key1:=key1 h64;rw[eH]at key1;clear key2 eH;have aiu:(m:Int)<=64:=by omega
     go_wp2_with (go_at_call 177;(with_reducible refine key1.mono ?_);rintro e' w4 ⟨⟨b,rfl,gb,hT⟩,hb4⟩)
     go_ret
     exact⟨⟨b,rfl,aH hsz gb,hT⟩,HB1.out.trans (hb4.mono hsz)⟩
   . rw[if_neg ak]at eH
     have eu:=ah eH;clear eH key1;have aiu:¬ (m:Int)<=64:=by omega
     exact Z1w
theorem XV(W:World):(isAgg 137).run ja0 W=.ok true W:=by kernel_rfl
theorem XW(W:World):(sizeOf 137).run ja0 W=.ok 6 W:=by kernel_rfl
theorem ou{S:World->Prop}(p:Operand){s:Re.St}{fl ap:Value}{ib:Bool}(hw:Region.wanted o (yielded ops a.tmps)=true)(ho:o.op=.load 137 p)(hp:a.eval p=.pointer (some ⟨b,55,none⟩))(h:∀X,S X->aL X b s fl ap ib):aj.Reads ja0 ops S o (.agg #[s.c 3,s.c 4,s.c 7,s.c 8,s.c 11,s.c 12]) a :=
 .inl ⟨hw,λX hX=>fK XV XW p ho hp rfl λj hj=>by
  obtain⟨l2,c0,c1,c2,c3,c4,c5,_⟩:=At.bx0 (h X hX)
  match j,hj with
  | 0,_=>exact c0
  | 1,_=>exact c1
  | 2,_=>exact c2
  | 3,_=>exact c3
  | 4,_=>exact c4
  | 5,_=>exact c5⟩
theorem PG{S:World->Prop}(p:Operand){s:Re.St}{fl ap:Value}{ib:Bool}(hw:Region.wanted o (yielded ops a.tmps)=true)(ho:o.op=.load 137 p)(hp:a.eval p=.pointer (some ⟨b,61,none⟩))(h:∀X,S X->aL X b s fl ap ib):aj.Reads ja0 ops S o (.agg #[s.c 5,s.c 6,s.c 9,s.c 10,s.c 13,s.c 14]) a :=
 .inl ⟨hw,λX hX=>fK XV XW p ho hp rfl λj hj=>by
  obtain⟨l2,c0,c1,c2,c3,c4,c5,_⟩:=At.bx1 (h X hX)
  match j,hj with
  | 0,_=>exact c0
  | 1,_=>exact c1
  | 2,_=>exact c2
  | 3,_=>exact c3
  | 4,_=>exact c4
  | 5,_=>exact c5⟩
section
variable {Y:pU} {B:Int->Fw.Bx} {D:Int->Prop} {KM:World->Nat->Prop}
theorem Ru(hK:∀(X X':World) (b:Nat),KM X b->Below X X X'->KM X' b)(z k i0 i1:Int)(hz:D z)(hk:D k)(bk:Nat)(hbk:bk=Y.bl k)(w:World)(hR:RO w Y B D KM) :
  Calls ja0 137 #[Y.lb,.agg #[z,i0,i1],bk] w λe w'=>e=.returned (.agg #[Fw.lI B z i0 k,.int .i64 (-1)])/\Below w w w':=by
 obtain⟨ans,eH⟩:=aA (Fw.lI B z i0 k);rw[eH];unfold Fw.lI Fw.Ke at eH;obtain⟨sk,hsk⟩:=aA ((B k).sty);obtain⟨sz,hsz⟩:=aA ((B z).sty);rw[hsk,hsz]at eH;simp only[Nat.mul_zero,Nat.add_zero]at eH;have eu:=ah eH;have HBK:=ah hbk;have HSK:=ah hsk;have HSZ:=ah hsz;clear eH hbk hsk hsz;go_enter Tryz.func137,Tryz.ntmps137
 go_upto_region 1 with(fail)
 generalize hW:World.alloc _ _=W0;have A0:At W0 w (.cells #[z,i0,i1] 86):=hW▸At.alloc (At.new _ _) _;have A1:At W0 (w.heap.size+1) (.cells #[(),()] 81):=hW▸At.new' _ aV;have hB0:Below w w W0:=hW▸aB (aB aD _) _;clear hW
 go_upto_region 2 with(go_at_call 33;(with_reducible refine(kN _).mono ?_);rintro e' w4 ⟨rfl,hb4⟩)
 generalize hW:World.alloc _ _=W1;have A2:At W1 w4 (.cells #[.int .i64 (-1),.int .i64 (-1)] 81):=hW▸At.new _ _;have hb5:Below W0 W0 W1:=hW▸(hb4.trans (Below.mono (aB aD _) hb4.size));clear hW;have gS:W0.heap.size<=w4.heap.size:=hb4.size;generalize w4.heap.size=T at *;clear hb4;have l1':=A1.lt;have hnT:w.heap.size+1≠T:=by omega
 have aki:w.heap.size≠T:=by omega
 have hgT:w.heap.size<=T:=by omega
 replace A0:=A0.keep hb5;replace A1:=A1.keep hb5;have hB1:Below w w W1:=Below.ay hB0 aC hb5;have sI:=hR.keep hK hB1;have hbx:=(sI.box k hk).1;rw[<-HBK.out,HSK.out]at hbx;have hbz:=(sI.box z hz).1;obtain⟨bz,adP⟩:=aA (Y.bl z);rw[adP,HSZ.out]at hbz;have hlk:=λX (h:Below W1 W1 X)=>(sI.keep hK h).look hz;simp only[adP]at hlk;have c44:W1.cell? ⟨bz,44,none⟩=some (.int .i64 (sz.c 44)):=aL.int hbz 44 ak rfl;have J9:=aL.lt hbz;have JD:=sI.lay;generalize Y.vf k=vf at hbx;generalize Y.va k=va at hbx;generalize (B k).ib=ib at hbx;have oZ:=ah hbx;obtain⟨l2,bQ,bX,bY,bZ,cu,cK,bS,bU⟩:=At.bx0 hbx;obtain⟨lY,xk,xq,zn,zo,zq,zu⟩:=At.six JD;have c0:=A0.lc;clear hbx hbz JD sI hR hB0 adP hb5;have hSd:Below W1 W1 W1.drew:=Below.drew aD;cases hfx:Fx.dD (sk.c 3) i0 with
 | true =>
   have E:Hid (-1=ans):=ah (by rw[<-eu.out,hfx];simp);have Vp:=ah hfx;clear hfx eu;refine gZ (S:=λX=>Below W1 W1 X) 24 ?_ ?_
   . exact hSd
   intro hx;clear hSd;refine aG 0 ?_;refine aG 1 ?_;refine aG 2 ?_;refine aG 3 ?_;refine jc 4 rfl (ou (.tmp 12) aQ rfl rfl (λX h=>oZ.out.keep h)) ?_;refine aG 5 ?_;refine aG 6 ?_;refine aG 7 ?_;refine tk1 8 ?_;refine aj.Step.call Z40 (jX _ _ _ _ _ _ _ _) ?_;rintro e' w6 ⟨rfl,hb⟩;rw[Vp.out];replace hx:=Below.ay hx aC hb;clear hb;refine⟨_,rfl,λ_=>hx,?_⟩
   (try simp only[bN,bO,bP,tks])
   refine aG 9 ?_;refine aG 10 ?_;refine aG 11 ?_;refine aG 12 ?_;refine aG 13 ?_;refine aG 14 ?_;refine aG 15 ?_;refine aG 16 ?_;refine aG 17 ?_;exact Ze
 | false =>
   have Vp:=ah hfx;by_cases h44:sz.c 44=0
   . have E:Hid (-1=ans):=ah (by rw[<-eu.out,hfx,h44];simp)
     clear hfx eu;refine gZ (S:=λX=>Below W1 W1 X) 24 ?_ ?_
     . exact hSd
     intro hx;clear hSd;refine aG 0 ?_;refine aG 1 ?_;refine aG 2 ?_;refine aG 3 ?_;refine jc 4 rfl (ou (.tmp 12) aQ rfl rfl (λX h=>oZ.out.keep h)) ?_;refine aG 5 ?_;refine aG 6 ?_;refine aG 7 ?_;refine tk1 8 ?_;refine aj.Step.call Z40 (jX _ _ _ _ _ _ _ _) ?_;rintro e' w6 ⟨rfl,hb⟩;rw[Vp.out];replace hx:=Below.ay hx aC hb;clear hb;refine⟨_,rfl,λ_=>hx,?_⟩
     (try simp only[bN,bO,bP,tks])
     refine aG 9 ?_;refine aG 10 ?_;refine aG 11 ?_;refine aG 12 ?_;refine aG 13 ?_;refine aG 14 ?_;refine aG 15 ?_;refine aG 16 ?_;refine jc 17 rfl (aY aQ rfl rfl rfl (λX h=>hlk X h)) ?_;exact Ze
   . have E:Hid (Fw.byc sk i0=ans):=ah (by rw[<-eu.out,hfx,if_pos ⟨rfl,h44⟩])
     clear hfx eu;refine gZ (S:=λX=>Below W1 W1 X) 24 ?_ ?_
     . exact hSd
     intro hx;clear hSd;refine aG 0 ?_;refine aG 1 ?_;refine aG 2 ?_;refine aG 3 ?_;refine jc 4 rfl (ou (.tmp 12) aQ rfl rfl (λX h=>oZ.out.keep h)) ?_;refine aG 5 ?_;refine aG 6 ?_;refine aG 7 ?_;refine tk1 8 ?_;refine aj.Step.call Z40 (jX _ _ _ _ _ _ _ _) ?_;rintro e' w6 ⟨rfl,hb⟩;rw[Vp.out];replace hx:=Below.ay hx aC hb;clear hb;refine⟨_,rfl,λ_=>hx,?_⟩
     (try simp only[bN,bO,bP,tks])
     refine aG 9 ?_;refine aG 10 ?_;refine aG 11 ?_;refine aG 12 ?_;refine aG 13 ?_;refine aG 14 ?_;refine aG 15 ?_;refine aG 16 ?_;refine jc 17 rfl (aY aQ rfl rfl rfl (λX h=>hlk X h)) ?_;refine aG 18 ?_;refine aG 19 ?_;refine aG 20 ?_;refine aG 21 ?_;refine aG 22 ?_;refine aG 23 ?_;refine gX ?_;replace A0:=A0.keep hx;replace A1:=A1.keep hx;replace A2:=A2.keep hx;have hBx:Below w w _:=Below.ay hB1 aC hx;clear c0 lY xk xq zn zo zq zu l2 bQ bX bY bZ cu cK bS bU c44 J9 hlk;have aiv:=ah (oZ.out.keep hx);have c0:=A0.lc
     go_upto_region 4 with(go_at_call 105;(with_reducible refine(LV bk sk vf va ib i0 i1 _ aiv.out).mono ?_);rintro e' w7 ⟨rfl,hb⟩;replace A1:=A1.keep hb;replace A2:=A2.keep hb;have c3:=A2.lc;have zT:=A2.thaw 0)
     generalize hW:World.setCell _ _ _=W8;replace A2:At W8 T (.cells #[Fw.byc sk i0,.int .i64 (-1)] 81):=hW▸At.set A2 0 _;replace A1:At W8 (w.heap.size+1) (.cells #[(),()] 81):=hW▸At.off A1 hnT _ _;have hB9:Below w w W8:=by
      rw[<-hW];exact Below.setCell (Below.ay hBx aC hb) hgT _
     clear hW zT c3 c0 hb;have c3:=A2.lc;have c4:=A1.lc;have aaf:=A1.thaw 0;have aag:=A1.thaw 1;have lw:w.heap.size+1<w.heap.size+1+1:=by omega
     go_wp2;generalize hW:World.setCell _ _ _=W6;replace A1:At W6 (w.heap.size+1) (.cells #[Fw.byc sk i0,.int .i64 (-1)] 81):=hW▸At.set (At.set A1 0 _) 1 _;have zi:Below w w W6:=by
      rw[<-hW];exact Below.setCell (Below.setCell hB9 lF _) lF _
     exact Z2b
end
def wN(l:List Fw.Ld):List Value:=l.flatMap λx=>(dU x).toList
theorem Hq(l:List Fw.Ld)(x:Fw.Ld):wN (l++[x])=wN l++(dU x).toList:=by simp[wN]
theorem XY(l:List Fw.Ld):∀i (h:i<l.length) j,j<7->(wN l)[i*7+j]? = (dU l[i])[j]? := by
 induction l with
 | nil=>intro i h;simp at h
 | cons x l ih =>
   intro i h j hj;have e:wN (x::l)=(dU x).toList++wN l:=rfl;rw[e];cases i with
   | zero =>
     rw[List.getElem?_append_left (by simp[dU];omega),Array.getElem?_toList];simp
   | succ i =>
     rw[List.getElem?_append_right (by simp[dU];omega)];have e2:(i+1)*7+j-(dU x).toList.length=i*7+j:=by simp[dU];omega
     rw[e2,ih i (by simpa using h) j hj];rfl
theorem Uu{W:World}{base:Nat}{v:Value}{l:List Fw.Ld}(x:Fw.Ld)(hown:W.ownsRow base 88 7 v l.length (wN l))(hbase:base<=W.heap.size)(hk:l.length<=10000) :
  ∃g c w',(Builtin.append_ #[145,145] 145 #[v,.slice W 1 1]).run ja0 (W.alloc (.cells (dU x) 88))=.ok (.slice (some ⟨g,0,none⟩) (l.length+1) c) w'/\w'.ownsRow base 88 7 (.slice (some ⟨g,0,none⟩) (l.length+1) c) (l++[x]).length (wN (l++[x]))/\Out (λb=>v.ownBlock=some b) (W.alloc (.cells (dU x) 88)) w':=by
 obtain⟨i0,hi0,hz0,hz1,hz2⟩:=info_parts Pk;have hA:=At.new W (.cells (dU x) 88)
 obtain⟨v',w',hr,ho,hg,_,_⟩:=run_append_own_at (P:=ja0) (w:=W.alloc (.cells (dU x) 88)) base 145 145 88 i0 _ 7 56 Tryz.underlying145 hi0 hz0 hz1 hz2 rfl aF v l.length _ (hown.alloc _) ⟨W,0,none⟩ 1 1 (dU x).toList rfl
  (by intro j u hj
      rw[addr_add,Nat.zero_add,hA.cell,<-hj,Array.getElem?_toList])
  (nX x) QG ak iH
 obtain⟨g,c,rfl⟩:=ownsRow_succ ho;refine⟨g,c,w',hr,?_,Out.grown hg λb h=>h⟩;rw[Hq,ja7];exact ho
theorem Mw{base:Nat}{v:Value}{l:List Fw.Ld}(h:w.ownsRow base 88 7 v l.length (wN l))(hl:l≠[]):∃R cap cs,v=.slice (some ⟨R,0,none⟩) l.length cap/\v.ownBlock=some R/\base<=R/\At w R (.cells cs 88)/\nD cs l:=by
 rcases h.2 with⟨rfl,h0⟩|⟨g,cap,cur,rfl,hb,hgb,hnc,hcm,hsz,htk⟩
 . exact absurd (List.length_eq_zero_iff.1 h0) hl
 . refine⟨g,cap,cur,rfl,rfl,hb,hgb,?_,λi hi j hj => ?_⟩
   . rw[hsz];exact Nat.mul_le_mul_right 7 hnc
   . have e:=XY l i hi j hj
     rw[<-htk,List.getElem?_take,if_pos ak,Array.getElem?_toList]at e;exact e
theorem um{rest:List Oper}{Q:Exit->Act->World->Prop}(hw:Region.wanted o (yielded ops a.tmps)=true)(x:Operand)(ho:o.op=.buildSlice 145 1 #[(0,x)]){y:Fw.Ld}(hx:a.eval x=.agg (dU y))
  (h:wpList ja0 ops Q rest (a.put o.dst (.slice w 1 1)) (w.alloc (.cells (dU y) 88))):wpList ja0 ops Q (o::rest) a w:=by
 have hrun:(execOp a.eval o).run ja0 w=.ok (.value (.slice w 1 1)) (w.alloc (.cells (dU y) 88)):=by
  unfold execOp;simp only[ho];generalize a.eval=ev at *;unfold dU at hx ⊢;go_simp
 exact Z2k
theorem PI{r:Int}{e e':Nat->Int}{n:Nat}(h:∀i,i<n->e i=e' i):oz r e n=oz r e' n:=by
 induction n with
 | zero=>rfl
 | succ n ih=>simp only[oz];rw[ih λi hi=>h i ak,h n ak]
theorem Ht(h:Int->Int)(r:Int)(l:List Int):l.foldl (λa k=>Fw.wr (a-h k)) r=oz r (λi=>h (l.getD i 0)) l.length:=by
 have key:∀n,n<=l.length->(l.take n).foldl (λa k=>Fw.wr (a-h k)) r=oz r (λi=>h (l.getD i 0)) n:=by
  intro n
  induction n with
  | zero=>intro _;rfl
  | succ n ih =>
    intro hn;have hn':n<l.length:=hn;rw[List.take_succ_eq_append_getElem hn',List.foldl_append,ih ak];simp[oz,List.getD,ja6 hn']
 have:=key l.length aC
 rwa [List.take_length]at this
def Hu(B:Int->Fw.Bx)(f:Nat)(z i0 i1 k:Int):Fe.It:=Fw.asI (B k).sty 1 (Fw.wr ((Fw.lay B f k i0 i1 (Fw.lI B z i0 k) (-1)).s1-Fw.vW (B k).sty 1)) i1
def Vy(B:Int->Fw.Bx)(f:Nat)(z i0 i1:Int)(x:Im):Im:={ x with it:=Hu B f z i0 i1 x.ld.id,ld:=Fw.lay B f x.ld.id i0 i1 (Fw.lI B z i0 x.ld.id) (-1) }
def clB(B:Int->Fw.Bx)(f:Nat)(z i0 i1:Int)(sz:List Int)(i:Nat)(x:Im):Im:={ x with ld:=Fw.lay B f x.ld.id i0 i1 (Fw.lI B z i0 x.ld.id) (Fw.wr (sz.getD i 0+Fw.vW (B x.ld.id).sty 1)) }
def clE(al i0:Int)(st:List Int)(i:Nat)(x:Im):Fw.Ld:={ x.ld with a0:=Fw.wr (Ju.across al (Ba x) i0+x.m0),a1:=Fw.wr (st.getD i 0+x.m2) }
def clS(B:Int->Fw.Bx)(f:Nat)(z i0 i1:Int)(fl:List Int):List Int:=yQ (λi=>Hu B f z i0 i1 (fl.getD i 0)) (λi=>Fw.SH B i0 1 (fl.getD i 0)) fl.length i1 ((B z).sty.c 46)
theorem Mx(B:Int->Fw.Bx)(i0 r gap:Int)(it:Int->Fe.It)(fl:List Int):yQ (λi=>it (fl.getD i 0)) (λi=>Fw.SH B i0 1 (fl.getD i 0)) fl.length r gap=if r ≠ -1/\fl.length<=64 then Fw.uR B i0 r gap 1 it fl else fl.map λk=>Fe.clamp (it k) (it k).b:=by
 unfold yQ Fw.uR Fw.left;split
 . rw[Ht];rfl
 . unfold Ju.row
   exact jc6 aV λi h1 h2=>by
    have h3:i<fl.length:=by simpa using h2
    simp[List.getD,ja6 h3]
theorem F9(Y:pU)(B:Int->Fw.Bx)(f:Nat)(z i0 i1:Int)(fl:List Int)(hfl:(B z).fl=fl)(sz:List Int)(hsz:clS B f z i0 i1 fl=sz)(zs:List Im)(hzs:((gD Y B i0 fl).map (Vy B f z i0 i1)).mapIdx (clB B f z i0 i1 sz)=zs)(high:Int)(hh:Li.long ((B z).sty.c 46) (nC zs)=high) :
  Fw.sw B (Fw.lay B f) z i0 i1=(zs.mapIdx (clE ((B z).sty.c 44) i0 (Ju.row (Ju.starts ((B z).sty.c 43) (if i1 = -1 then high else i1) ((B z).sty.c 46) (nC zs)) zs.length)),high):=by
 unfold Fw.sw;simp only[hfl];have e1:=Mx B i0 i1 ((B z).sty.c 46) (Hu B f z i0 i1) fl;have e2:clS B f z i0 i1 fl=_:=e1;rw[hsz]at e2;have e3:(if i1 ≠ -1/\fl.length<=64 then Fw.uR B i0 i1 ((B z).sty.c 46) 1 (λk=>Fw.asI (B k).sty 1 (Fw.wr ((Fw.lay B f k i0 i1 (Fw.lI B z i0 k) (-1)).s1-Fw.vW (B k).sty 1)) i1) fl else fl.map λk=>Fe.clamp ((λk=>Fw.asI (B k).sty 1 (Fw.wr ((Fw.lay B f k i0 i1 (Fw.lI B z i0 k) (-1)).s1-Fw.vW (B k).sty 1)) i1) k) ((λk=>Fw.asI (B k).sty 1 (Fw.wr ((Fw.lay B f k i0 i1 (Fw.lI B z i0 k) (-1)).s1-Fw.vW (B k).sty 1)) i1) k).b)=sz:=e2.symm;simp only[]at e3 ⊢;rw[e3];have hlen:zs.length=fl.length:=by rw[<-hzs];simp[gD]
 have hget:∀i (h:i<zs.length) (h':i<fl.length),zs[i]=clB B f z i0 i1 sz i (Vy B f z i0 i1 (vF Y B i0 fl[i])):=λi h h'=>by
  subst hzs;simp[gD]
 have hlong:(fl.mapIdx λi k=>Fw.lay B f k i0 i1 (Fw.lI B z i0 k) (Fw.wr (sz.getD i 0+Fw.vW (B k).sty 1))).map (Fw.Dl B i0 1)=nC zs:=by
  unfold nC
  exact jc6 (by simp[hlen]) λi h1 h2=>by
   have h3:i<fl.length:=by simpa using h1
   have h4:i<zs.length:=by rw[hlen];exact h3
   simp only[List.getElem_map,List.getElem_mapIdx];rw[hget i h4 h3];rfl
 rw[hlong,hh];congr 1
 exact jc6 (by simp[hlen]) λi h1 h2=>by
  have h3:i<fl.length:=by simpa using h1
  have h4:i<zs.length:=by rw[hlen];exact h3
  simp only[List.getElem_mapIdx];rw[hget i h4 h3];unfold clE;rw[Ju.I4 _ h4];rfl
theorem XZ{B:Int->Fw.Bx}{f:Nat}{l l':List Im}(h:l.map (·.ld.id)=l'.map (·.ld.id))(k:Nat):iF B f l k=iF B f l' k:=by
 unfold iF;have e:∀m:List Im,(m.take k).map (λx=>Fw.cst B f x.ld.id)=((m.map (·.ld.id)).take k).map (Fw.cst B f):=λm=>by rw[<-List.map_take,List.map_map];rfl
 rw[e,e,h]
section
variable {Y:pU} {B:Int->Fw.Bx} {F:Int->Nat} {D:Int->Prop} {f:Nat}
theorem Rx{i0 k:Int}(hd:D k)(hf:F k=f):Ml Y B D F f i0 (vF Y B i0 k):=⟨hd,hf,rfl,rfl,rfl,rfl,rfl⟩
theorem abm{z i0 i1:Int}{x:Im}(h:Ml Y B D F f i0 x):Ml Y B D F f i0 (Vy B f z i0 i1 x):=⟨h.d,h.f,h.bx,h.m0,h.m1,h.m2,h.m3⟩
theorem abn{z i0 i1:Int}{sz:List Int}{x:Im}(i:Nat)(h:Ml Y B D F f i0 x):Ml Y B D F f i0 (clB B f z i0 i1 sz i x):=⟨h.d,h.f,h.bx,h.m0,h.m1,h.m2,h.m3⟩
end
end Go.Proofs.YtfohooineeijkaaGreat.Fix
namespace Go.Proofs.YtfohooineeijkaaGreat.Fe
variable {S T:Nat->St}{n:Nat}
theorem afS(h:∀i,i<n->S i=T i):∀k,k<=n->pl S k=pl T k:=by
 intro k
 induction k with
 | zero=>intro _;rfl
 | succ k ih=>intro hk;simp only[pl];rw[ih ak,h k ak]
theorem afT(gr:Bool)(h:∀i,i<n->S i=T i):∀k,k<=n->ws gr S k=ws gr T k:=by
 intro k
 induction k with
 | zero=>intro _;rfl
 | succ k ih=>intro hk;simp only[ws];rw[ih ak,h k ak]
theorem abo(room:Int)(h:∀i,i<n->S i=T i):∀k,k<=n->left room S k=left room T k:=by
 intro k
 induction k with
 | zero=>intro _;rfl
 | succ k ih=>intro hk;simp only[left];rw[ih ak,h k ak]
theorem abp(h:∀i,i<n->S i=T i):∀k,k<=n->made S k=made T k:=by
 intro k
 induction k with
 | zero=>intro _;rfl
 | succ k ih=>intro hk;simp only[made];rw[ih ak,h k ak]
theorem abq{l l':Nat->It}(h:∀i,i<n->l i=l' i):∀k,k<=n->yj l k=yj l' k:=by
 intro k
 induction k with
 | zero=>intro _;rfl
 | succ k ih=>intro hk;simp only[yj];rw[ih ak,h k ak]
theorem X0(gr:Bool)(room:Int)(h:∀i,i<n->S i=T i):∀i,i<n->round gr room n S i=round gr room n T i:=by
 have h1:∀i,i<n->shared gr room n S i=shared gr room n T i:=by
  intro i hi;unfold shared gM parts free want;rw[abo room h n aC,afT gr h n aC,afS h i ak,h i hi]
 intro i hi;unfold round froze;rw[abp h1 n aC,h1 i hi]
theorem Uv(gr:Bool)(room:Int)(h:∀i,i<n->S i=T i)(k:Nat):∀i,i<n->rounds gr room n S k i=rounds gr room n T k i:=by
 induction k with
 | zero=>exact h
 | succ k ih=>exact X0 gr room ih
theorem adQ{l l':Nat->It}(room:Int)(h:∀i,i<n->l i=l' i):∀i,i<n->fin l n room i=fin l' n room i:=by
 have hg:Dh l n room=Dh l' n room:=by unfold Dh;rw[abq h n (aJ _)]
 intro i hi;unfold fin;rw[hg];exact Uv _ _ (λi hi=>by unfold begun;rw[h i hi]) n i hi
end Go.Proofs.YtfohooineeijkaaGreat.Fe
namespace Go.Proofs.YtfohooineeijkaaGreat.Fix
open Go.ChangeShapes Go.WideShapes Go.ChangeAt Go.RowKit
open Go.Proofs.Tryz renaming prog → ja0
open List renaming getElem?_eq_getElem → ja6,length_append → ja7,length_map → jb7,getElem_mem → jc2,ext_getElem → jc6,length_take → jc9
theorem Ga{l l':Nat->Fe.It}{n:Nat}(x:Int)(h:∀i,i<n->l i=l' i):kD l n x=kD l' n x:=by
 unfold kD;exact List.map_congr_left λi hi=>by rw[Fe.adQ _ h i (by simpa using hi)]
def rwI(Y:pU)(B:Int->Fw.Bx)(i0 k:Int):Im:={ vF Y B i0 k with it:=Fw.tY B i0 k }
theorem Uw(Y:pU)(B:Int->Fw.Bx)(i0 gap:Int)(ks:List Int):lnS B i0 gap (ks.map (rwI Y B i0))=Fw.uR B i0 i0 gap 0 (Fw.tY B i0) ks:=by
 unfold lnS Fw.uR Fw.left;rw[Ht,jb7];have hg:∀i,i<ks.length->(ks.map (rwI Y B i0)).getD i default=rwI Y B i0 (ks.getD i 0):=λi h=>by simp[List.getD,ja6 h]
 rw[PI (e':=λi=>Fw.SH B i0 0 (ks.getD i 0)) λi h=>by rw[hg i h];rfl];exact Ga _ λi h=>by rw[hg i h];rfl
theorem Gc(Y:pU)(B:Int->Fw.Bx)(f:Nat)(z i0 i1 high:Int)(ks:List Int)(s:Re.St)(hs:(B z).sty=s)(xs1 xs2:List Im)(deep:Int)(h1:Eo B f s i0 i1 high (ks.map (rwI Y B i0))=xs1)(h2:Jz high xs1=deep)(h3:sV B f s i0 i1 deep xs1=xs2) :
  Fw.nT B (Fw.lay B f) z i0 i1 high ks=((sW s i0 deep xs2).map (·.ld),deep):=by
 unfold Fw.nT;simp only[hs];unfold Eo at h1;rw[Uw]at h1;obtain⟨sz,hsz⟩:=aA (Fw.uR B i0 i0 (s.c 46) 0 (Fw.tY B i0) ks);rw[hsz]at h1 ⊢;have l1:xs1.length=ks.length:=by rw[<-h1];simp
 have g1:∀i (h:i<xs1.length) (h':i<ks.length),xs1[i]=lnF B f i0 i1 sz i (rwI Y B i0 ks[i]):=λi h h'=>by subst h1;simp
 have e1:(ks.mapIdx λi k=>Fw.lay B f k i0 i1 (Fw.wr (sz.getD i 0+Fw.vW (B k).sty 0)) (-1))=xs1.map (·.ld):=jc6 (by simp[l1]) λi a b=>by
  have a':i<ks.length:=by simpa using a
  simp only[List.getElem_mapIdx,List.getElem_map];rw[g1 i (by rw[l1];exact a') a'];rfl
 rw[e1]
 have m1:∀x∈xs1,x.m0=Fw.mg (B x.ld.id).sty 0 0 i0/\x.m1=Fw.mg (B x.ld.id).sty 0 1 i0/\x.m2=Fw.mg (B x.ld.id).sty 1 0 i0/\x.m3=Fw.mg (B x.ld.id).sty 1 1 i0:=λx hx=>by
  obtain⟨i,hi,rfl⟩:=List.getElem_of_mem hx;rw[g1 i hi ak];exact⟨rfl,rfl,rfl,rfl⟩
 have o1:∀x:Im,(x.m0=Fw.mg (B x.ld.id).sty 0 0 i0/\x.m1=Fw.mg (B x.ld.id).sty 0 1 i0/\x.m2=Fw.mg (B x.ld.id).sty 1 0 i0/\x.m3=Fw.mg (B x.ld.id).sty 1 1 i0)->Ba x=Fw.Dl B i0 0 x.ld/\Bb x=Fw.Dl B i0 1 x.ld/\ext1 x (B x.ld.id).sty=Fw.SH B i0 1 x.ld.id:=λx ⟨q0,q1,q2,q3⟩=>by
  unfold Ba Bb ext1 Fw.Dl Fw.SH Fw.mgs;rw[q0,q1,q2,q3];exact⟨rfl,rfl,rfl⟩
 have e2:(if high = -1 then ((xs1.map (·.ld)).map (Fw.Dl B i0 1)).foldl max 0 else high)=deep:=by
  rw[<-h2];unfold Jz nC;congr 2;rw[List.map_map];exact List.map_congr_left λx hx=>((o1 x (m1 x hx)).2.1).symm
 rw[e2];have e3:(if s.c 44=0 then (xs1.map (·.ld)).map (λx=>if Fw.Ke (B x.id).sty 1 i1=true then x else Fw.lay B f x.id i0 i1 x.s0 (Fw.wr (Fw.lim (B x.id).sty 1 (max (Fw.wr (deep-Fw.SH B i0 1 x.id)) 0) i1+Fw.vW (B x.id).sty 1)))else xs1.map (·.ld))=xs2.map (·.ld):=by
  rw[<-h3];unfold sV;split
  . rw[List.map_map,List.map_map]
    refine List.map_congr_left λx hx => ?_;simp only[Function.comp];unfold BX;have q:=(o1 x (m1 x hx)).2.2;by_cases hfx:Fx.dD ((B x.ld.id).sty.c 5) i1=true
    . rw[if_pos hfx,if_pos (show Fw.Ke (B x.ld.id).sty 1 i1=true from hfx)]
    . rw[if_neg hfx,if_neg (show¬ Fw.Ke (B x.ld.id).sty 1 i1=true from hfx),q]
      rfl
  . rfl
 rw[e3]
 have m2:∀x∈xs2,x.m0=Fw.mg (B x.ld.id).sty 0 0 i0/\x.m1=Fw.mg (B x.ld.id).sty 0 1 i0/\x.m2=Fw.mg (B x.ld.id).sty 1 0 i0/\x.m3=Fw.mg (B x.ld.id).sty 1 1 i0:=λx hx=>by
  rw[<-h3]at hx;unfold sV at hx;split at hx
  . obtain⟨y,hy,rfl⟩:=List.mem_map.1 hx
    have:=m1 y hy;unfold BX;split
    . exact this
    . exact this
  . exact m1 x hx
 have e4:(xs2.map (·.ld)).map (Fw.Dl B i0 0)=ug xs2:=by
  unfold ug;rw[List.map_map];exact List.map_congr_left λx hx=>((o1 x (m2 x hx)).1).symm
 rw[e4];congr 1;unfold sW
 exact jc6 aV λi a b=>by
  have a':i<xs2.length:=by simpa using a
  simp only[List.getElem_mapIdx,List.getElem_map];have q:=m2 xs2[i] (jc2 _);have o:=o1 _ q;unfold lnB;simp only[];rw[Ju.I4 _ a',o.2.1,q.1,q.2.2.1]
theorem Gd{B:Int->Fw.Bx}{lay:Int->Int->Int->Int->Int->Fw.Ld}{z i0 i1 high:Int}{fl:List Int}{fst:Bool}{y:Int}{p:Nat×Nat}{ps:List (Nat×Nat)}{out:List Fw.Ld}{tot:List Fw.Ld×Int}(h:tot=(out++(Fw.dO B lay z i0 i1 high fl fst y (p::ps)).1,(Fw.dO B lay z i0 i1 high fl fst y (p::ps)).2))
  {y1:Int} (hy:(if fst=true then y else Fw.wr (y+(B z).sty.c 46))=y1) {l:List Fw.Ld} {d:Int} (hl:Fw.nT B lay z i0 i1 high ((fl.drop p.1).take (p.2-p.1))=(l,d)) :
  tot=((out++l.map (λx=>{ x with a1:=Fw.wr (x.a1+y1) }))++(Fw.dO B lay z i0 i1 high fl false (Fw.wr (y1+d)) ps).1,(Fw.dO B lay z i0 i1 high fl false (Fw.wr (y1+d)) ps).2):=by
 rw[h];simp only[Fw.dO,hy,hl,List.append_assoc]
theorem JE{B:Int->Fw.Bx}{lay:Int->Int->Int->Int->Int->Fw.Ld}{z i0 i1 high:Int}{fl:List Int}{fst:Bool}{y:Int}:Fw.dO B lay z i0 i1 high fl fst y []=([],y):=rfl
theorem eX.front{cs:Array Value}{q n:Nat}{l:List Im}(h:eX cs q l)(hn:n<=l.length):eX cs q (l.take n):=by
 refine⟨by have:=h.1;rw[jc9];omega,λi hi j hj => ?_⟩;have hi2:i<l.length:=by rw[jc9]at hi;omega
 rw[List.getElem_take];exact h.2 i hi2 j hj
theorem eX.rest{cs cs':Array Value}{q n:Nat}{l:List Im}(h:eX cs q l)(hs:jm q n cs cs')(hn:n<=l.length):eX cs' (q+n*17) (l.drop n):=by
 refine⟨by have:=h.1;have:=hs.1;rw[List.length_drop];omega,λi hi j hj => ?_⟩;have hi2:n+i<l.length:=by rw[List.length_drop]at hi;omega
 rw[List.getElem_drop,hs.2 _ (.inr ak),show q+n*17+i*17+j=q+(n+i)*17+j by omega];exact h.2 (n+i) hi2 j hj
theorem PK{W:World}{base:Nat}{v:Value}{l:List Fw.Ld}(x:Fw.Ld)(hown:W.ownsRow base 88 7 v l.length (wN l))(hbase:base<=W.heap.size)(hk:l.length<=10000) :
  ∃g c w',(Builtin.append_ #[145,145] 145 #[v,.slice W 1 1]).run ja0 (W.alloc (.cells (dU x) 88))=.ok (.slice (some ⟨g,0,none⟩) (l.length+1) c) w'/\w'.ownsRow base 88 7 (.slice (some ⟨g,0,none⟩) (l.length+1) c) (l++[x]).length (wN (l++[x]))/\Out (λb=>v.ownBlock=some b) (W.alloc (.cells (dU x) 88)) w'/\(v.ownBlock=some g\/W.heap.size<=g):=by
 obtain⟨i0,hi0,hz0,hz1,hz2⟩:=info_parts Pk;have hA:=At.new W (.cells (dU x) 88)
 obtain⟨v',w',hr,ho,hg,_,hblk⟩:=run_append_own_at (P:=ja0) (w:=W.alloc (.cells (dU x) 88)) base 145 145 88 i0 _ 7 56 Tryz.underlying145 hi0 hz0 hz1 hz2 rfl aF v l.length _ (hown.alloc _) ⟨W,0,none⟩ 1 1 (dU x).toList rfl
  (by intro j u hj
      rw[addr_add,Nat.zero_add,hA.cell,<-hj,Array.getElem?_toList])
  (nX x) QG ak iH
 obtain⟨g,c,rfl⟩:=ownsRow_succ ho;refine⟨g,c,w',hr,?_,Out.grown hg λb h=>h,?_⟩
 . rw[Hq,ja7]
   exact ho
 . rcases hblk with h|h
   . exact .inl h.symm
   . right
     have e:g=W.heap.size+1:=by simpa[Value.ownBlock]using h
     omega
end Go.Proofs.YtfohooineeijkaaGreat.Fix
namespace Go.Proofs.YtfohooineeijkaaGreat.aj
open Go Fix Go.RowKit
open List renaming mem_cons_of_mem → ja8,mem_cons_self → jb0,all_eq_true → jb',foldl_cons → jc4,contains_iff_mem → jc5,reverse_reverse → jd0
variable {v:Nat->Value}{listed:Array Bool}{a:Act}{i fuel:Nat}{q:Nat->Bool}{I:List Nat}
section
variable {P:Program} {ops:Array Oper} {Q:Exit->Act->World->Prop} {md:Region.Mode} {S:World->Prop} {m:Nat}
def j6(ops:Array Oper)(i:Nat):Option Tmp:=(ops[i]?).bind (·.dst)
def jS(ops:Array Oper)(v:Nat->Value)(a:Act)(l:List Nat):Act:=l.foldl (λa i=>a.put (j6 ops i) (v i)) a
def setOf(s:Array Bool)(l:List Nat):Array Bool:=l.foldl (λs i=>s.setIfInBounds i true) s
def subs:List Nat->List (List Nat)
 | []=>[[]]
 | x::l=>subs l++(subs l).map (x :: ·)
theorem MB(d:Nat->Bool):∀I:List Nat,I.filter d∈subs I
 | []=>by simp[subs]
 | x::l=>by
   rw[List.filter_cons,subs];have:=MB d l;split
   . exact List.mem_append_right _ (List.mem_map.2 ⟨_,this,rfl⟩)
   . exact List.mem_append_left _ this
def CK(md:Region.Mode)(ops:Array Oper)(listed:Array Bool)(I:List Nat)(dep:Nat->List Nat):Bool :=
 ((subs I).all λD=>D==I || !(D.all λi=>(dep i).all D.contains) ||
   (!(Region.ready md ops (setOf listed D)).isEmpty&&(Region.ready md ops (setOf listed D)).all λi=>I.contains i&&(!D.contains i&&(dep i).all D.contains))) &&
 (I.all λi=>I.all λj=>i==j||((j6 ops i).isNone||j6 ops i != j6 ops j)&&((dep i).contains j||((dep j).contains i||match ops[i]?,ops[j]? with
  | some x,some y=>y.apart ops x
  | _,_=>false)))
theorem Ep{β:Type}(f:β->Nat->β):∀(l:List Nat) (b:β),(∀j∈l,∀c,f (f c i) j=f (f c j) i)->l.foldl f (f b i)=f (l.foldl f b) i
 | [],_,_=>rfl
 | x::l,b,h=>by
   rw[jc4,jc4,h x jb0,Ep f l _ λj hj=>h j (ja8 _ hj)]
theorem xK{β:Type}(f:β->Nat->β){d:Nat->Bool}(hd:d i=false):∀(l:List Nat) (b:β),l.Nodup->i∈l->(∀j∈l,j≠i->∀c,f (f c i) j=f (f c j) i)->(l.filter λj=>j==i||d j).foldl f b=f ((l.filter d).foldl f b) i
 | [],_,_,h,_=>by cases h
 | x::l,b,hn,hi,hc=>by
   rw[List.nodup_cons]at hn;by_cases hx:x=i
   . subst hx
     have e:l.filter (λj=>j==x||d j)=l.filter d:=List.filter_congr λj hj=>by
      have:j≠x:=λh=>hn.1 (h▸hj);simp[this]
     rw[List.filter_cons,List.filter_cons,e];simp only[BEq.rfl,Bool.true_or,if_true,hd,Bool.false_eq_true,if_false,jc4];exact Ep f _ _ λj hj c=>hc j (ja8 _ (List.mem_filter.1 hj).1) (λh=>hn.1 (h▸(List.mem_filter.1 hj).1)) c
   . have hi':i∈l:=by simpa[Ne.symm hx]using hi
     have ih:=λb=>xK f hd l b hn.2 hi' λj hj=>hc j (ja8 _ hj);rw[List.filter_cons,List.filter_cons];have:(x==i||d x)=d x:=by simp[hx]
     rw[this];cases d x
     . exact ih b
     . exact ih _
theorem Bg{ops:Array Oper}{v v':Nat->Value}:∀(l:List Nat) (a:Act),(∀j∈l,v j=v' j)->jS ops v a l=jS ops v' a l
 | [],_,_=>rfl
 | x::l,a,h=>by
   unfold jS at *;rw[jc4,jc4,h x jb0];exact Bg l _ λj hj=>h j (ja8 _ hj)
theorem xL:∀(l:List Nat) (a:Act),(jS ops v a l).tmps.size=a.tmps.size
 | [],_=>rfl
 | x::l,a=>by
   show(jS ops v (a.put (j6 ops x) (v x)) l).tmps.size=_;rw[xL l];unfold Act.put;split<;>simp
theorem X3{a a':Act}{d:Option Tmp}{v:Value}{x:Operand}(hs:a.tmps.size=a'.tmps.size)(h:a.eval x=a'.eval x):(a.put d v).eval x=(a'.put d v).eval x:=by
 cases d with
 | none=>exact h
 | some d =>
   by_cases hx:x=.tmp d
   . subst hx
     simp[Act.eval,Act.put,Array.getElem?_setIfInBounds,hs]
   . rw[Act.eval_put λe he h=>hx (by cases he;exact h),Act.eval_put λe he h=>hx (by cases he;exact h)];exact h
theorem Er(l:List Nat)(x:Nat)(a:Act):jS ops v a (l++[x])=(jS ops v a l).put (j6 ops x) (v x):=by
 unfold jS;rw[List.foldl_append];rfl
theorem xM{x:Operand}:∀(l:List Nat),(∀j∈l.reverse,q j=true\/∀d,j6 ops j=some d->x ≠ .tmp d)->(jS ops v a l.reverse).eval x=(jS ops v a (l.reverse.filter q)).eval x
 | [],_=>rfl
 | y::l,h=>by
   rw[List.reverse_cons,Er,List.filter_append];have ih:=xM l λj hj=>h j (by rw[List.reverse_cons];exact List.mem_append_left _ hj);cases hy:q y
   . rw[List.filter_cons,hy]
     simp only[Bool.false_eq_true,if_false,List.filter_nil,List.append_nil];rw[Act.eval_put,ih];exact λd hd=>(h y aV).resolve_left (by simp[hy]) d hd
   . rw[List.filter_cons,hy]
     simp only[if_true,List.filter_nil];rw[Er];exact X3 (by rw[xL,xL]) ih
def X4(P:Program)(ops:Array Oper)(S:World->Prop)(m:Nat)(a:Act)(dep:Nat->List Nat)(I:List Nat)(Inv:(Nat->Bool)->(Nat->Value)->World->Prop)(i:Nat):Prop:=∃o,ops.toList[i]? = some o/\o.guard=none/\∀d v w,Inv d v w->(∀j∈dep i,d j=true)->d i=false->Step P (λu w'=>(i<m->S w')/\Inv (λj=>j==i||d j) (λj=>if j=i then u else v j) w') ((execOp (jS ops v a (I.filter (dep i).contains)).eval o).run P w)
def Each(p:Nat->Prop):List Nat->Prop
 | []=>True
 | i::l=>p i/\Each p l
theorem Each.at{p:Nat->Prop}:∀{l:List Nat},Each p l->i∈l->p i
 | [],_,h=>by cases h
 | x::l,hs,h=>by
   rcases List.mem_cons.1 h with rfl|h
   . exact hs.1
   . exact hs.2.at h
theorem PL{d:Nat->Bool}{i n:Nat}(hd:d i=false):∀(l:List Nat),l.Nodup->i∈l->(l.filter λj => !d j).length=n+1->(l.filter λj => !(j==i||d j)).length=n
 | l,hn,hi,h=>by
   have e:(l.filter λj => !(j==i||d j))=(l.filter λj => !d j).erase i:=by
    rw[List.Nodup.erase_eq_filter (hn.filter _),List.filter_filter];exact List.filter_congr λj _=>by cases d j<;>simp[bne]
   rw[e,List.length_erase_of_mem (List.mem_filter.2 ⟨hi,by simp[hd]⟩),h];rfl
theorem Ry(I:List Nat)(dep:Nat->List Nat)(Inv:(Nat->Bool)->(Nat->Value)->World->Prop)
  (hc:CK md ops listed I dep=true) (hns:Region.noSelect ops=true) (hn:I.Nodup) (hst:∀i∈I,X4 P ops S m a dep I Inv i)
  (hend:∀d v w,(∀i∈I,d i=true)->Inv d v w->aZ P md ops Q S m fuel (setOf listed I) (jS ops v a I) w) :
  ∀(n:Nat) (d:Nat->Bool) (v:Nat->Value) (w:World),(I.filter λi => !d i).length=n->Inv d v w->(∀i∈I,d i=true->∀j∈dep i,j∈I/\d j=true)->aZ P md ops Q S m (fuel+n) (setOf listed (I.filter d)) (jS ops v a (I.filter d)) w:=by
 obtain⟨hc1,hc2⟩:_/\_:=by simpa only[CK,Bool.and_eq_true]using hc
 intro n
 induction n with
 | zero =>
   intro d v w hl hI _
   have hall:∀i∈I,d i=true:=λi hi=>by
    have h0:=List.eq_nil_of_length_eq_zero hl;rw[List.filter_eq_nil_iff]at h0;simpa using h0 i hi
   rw[List.filter_eq_self.2 hall];exact hend d v w hall hI
 | succ n ih =>
   intro d v w hl hI hcl
   have hne:I.filter d≠I:=λe=>by
    rw[List.filter_eq_self]at e;have:I.filter (λi => !d i)=[]:=List.filter_eq_nil_iff.2 λi hi=>by simp[e i hi]
    rw[this]at hl;cases hl
   have h1:=List.all_eq_true.1 hc1 _ (MB d I);have aiw:((I.filter d).all λi=>(dep i).all (I.filter d).contains)=true:=by
    rw[jb'];intro i hi;rw[jb'];intro j hj;obtain⟨hi1,hi2⟩:=List.mem_filter.1 hi;rw[jc5];exact List.mem_filter.2 (hcl i hi1 hi2 j hj)
   rw[aiw,beq_false_of_ne hne]at h1;simp only[Bool.not_true,Bool.or_false,Bool.false_or,Bool.and_eq_true,Bool.not_eq_true',List.isEmpty_eq_false_iff,jb',jc5]at h1;refine⟨h1.1,λi hi => ?_⟩;obtain⟨hiI,hiD,aix⟩:=h1.2 i hi;have hd:d i=false:=by
    cases e:d i with
    | false=>rfl
    | true=>rw[show(I.filter d).contains i=true from List.contains_iff_mem.2 (List.mem_filter.2 ⟨hiI,e⟩)]at hiD;cases hiD
   have hdd:∀j∈dep i,j∈I/\d j=true:=λj hj=>List.mem_filter.1 (aix j hj);obtain⟨o,ho,hg,hstep⟩:=hst i hiI;have ho':=sG ho;have hdst:j6 ops i=o.dst:=by unfold j6;rw[ho'];rfl
   have pair:∀j∈I,j≠i->((j6 ops j).isNone=true\/j6 ops j≠j6 ops i)/\(i∈dep j\/j∈dep i\/∃y,ops[j]? = some y/\o.apart ops y=true):=λj hj hji=>by
    have:=List.all_eq_true.1 (List.all_eq_true.1 hc2 j hj) i hiI;simp only[beq_false_of_ne hji,Bool.false_or,Bool.and_eq_true,Bool.or_eq_true,bne_iff_ne,jc5,ho']at this;refine⟨this.1,this.2.imp id λh=>h.imp id λh => ?_⟩;cases hy:ops[j]? with
    | none=>rw[hy]at h;cases h
    | some y=>rw[hy]at h;exact⟨y,rfl,h⟩
   refine⟨o,ho',.inl ⟨by unfold Region.wanted;rw[hg],?_⟩⟩;have heq:execOp (jS ops v a (I.filter d)).eval o=execOp (jS ops v a (I.filter (dep i).contains)).eval o:=by
    refine execOp_congr o (λcs b e => ?_) λx hx => ?_
    . exact Region.noSelect_spec hns i o cs b ho' e
    . have:=xM (ops:=ops) (v:=v) (a:=a) (x:=x) (q:=(dep i).contains) (I.filter d).reverse (λj hj=>by
       rw[jd0]at hj;obtain⟨hj1,hj2⟩:=List.mem_filter.1 hj;have hji:j≠i:=λe=>by rw[e,hd]at hj2;cases hj2
       rcases(pair j hj1 hji).2 with h|h|⟨y,hy,hap⟩
       . have:=(hcl j hj1 hj2 i h).2;rw[hd]at this;cases this
       . exact .inl (List.contains_iff_mem.2 h)
       . refine .inr λdd hdd hxe => ?_
         obtain⟨a1,a2,a3⟩:=Oper.apart_spec hap;have:y.dst=some dd:=by unfold j6 at hdd;rw[hy]at hdd;exact hdd
         refine a3 dd this ?_;subst hxe
         exact List.mem_append_left _ (List.mem_filterMap.2 ⟨.tmp dd,by simpa using hx,rfl⟩))
      rw[jd0,List.filter_filter]at this;rw[this];congr 2
      exact List.filter_congr λj hj=>by
       cases hq:(dep i).contains j with
       | false=>rfl
       | true=>simp[(hdd j (List.contains_iff_mem.1 hq)).2]
   rw[heq];refine(hstep d v w hI (λj hj=>(hdd j hj).2) hd).mono λu w' ⟨hS,hI'⟩=>⟨hS,?_⟩
   have key:=ih (λj=>j==i||d j) (λj=>if j=i then u else v j) w' (PL hd I hn hiI hl) hI' (λj hj hjd k hk=>by
    simp only[Bool.or_eq_true,beq_iff_eq]at hjd;rcases hjd with h|h
    . subst h
      exact⟨(hdd k hk).1,by simp[(hdd k hk).2]⟩
    . exact⟨(hcl j hj h k hk).1,by simp[(hcl j hj h k hk).2]⟩)
   have e1:setOf listed (I.filter λj=>j==i||d j)=(setOf listed (I.filter d)).setIfInBounds i true :=
    xK (λ(s:Array Bool) i=>s.setIfInBounds i true) hd I listed hn hiI λj _ hji c=>Array.setIfInBounds_comm _ _ (Ne.symm hji)
   have e2:jS ops (λj=>if j=i then u else v j) a (I.filter λj=>j==i||d j)=(jS ops v a (I.filter d)).put o.dst u:=by
    have:=xK (λa j=>a.put (j6 ops j) (if j=i then u else v j)) hd I a hn hiI λj hj hji c =>
     (Act.put_comm c (x:=j6 ops i) (y:=j6 ops j) (if i=i then u else v i) (if j=i then u else v j) λdd h1 h2=>by
      rcases(pair j hj hji).1 with h|h
      . rw[h2]at h;cases h
      . exact h (h2.trans h1.symm))
    show(I.filter λj=>j==i||d j).foldl _ a=_;rw[this,hdst];simp only[if_true];congr 1
    exact Bg (ops:=ops) (I.filter d) a λj hj=>by
     have:j≠i:=λe=>by rw[e,List.mem_filter,hd]at hj;cases hj.2
     rw[if_neg this]
   rw[e1,e2]at key;exact key
def xO(a:Act):List Tmp->List Value->Act
 | t::ts,x::xs=>xO (a.put (some t) x) ts xs
 | _,_=>a
theorem mP(a:Act):xO a [] []=a:=rfl
theorem jv(a:Act)(t:Tmp)(ts:List Tmp)(x:Value)(xs:List Value):xO a (t::ts) (x::xs)=xO (a.put (some t) x) ts xs:=rfl
theorem om(s:Array Bool):setOf s []=s:=rfl
theorem mQ(s:Array Bool)(i:Nat)(l:List Nat):setOf s (i::l)=setOf (s.setIfInBounds i true) l:=rfl
theorem sZ:∀(I:List Nat) (T:List Tmp) (a:Act),I.map (j6 ops)=T.map some->jS ops v a I=xO a T (I.map v)
 | [],[],_,_=>rfl
 | [],_::_,_,h=>by cases h
 | _::_,[],_,h=>by cases h
 | i::l,t::ts,a,h=>by
   simp only[List.map_cons,List.cons.injEq]at h;rw[List.map_cons,jv,<-sZ l ts _ h.2,<-h.1];rfl
theorem Rz{t:Tmp}{x:Value}(hI:I.filter q=[i])(hd:j6 ops i=some t)(hv:v i=x):jS ops v a (I.filter q)=a.put (some t) x:=by
 rw[hI,<-hv];unfold jS;rw[jc4,hd];rfl
theorem X5{w:World}(n:Nat)(I:List Nat)(T:List Tmp)(dep:Nat->List Nat)(Inv:(Nat->Bool)->(Nat->Value)->World->Prop)
  (hst:Each (X4 P ops S m a dep I Inv) I) (h0:Inv (λ_=>false) (λ_=>undef) w)
  (hend:∀d v w,(∀i∈I,d i=true)->Inv d v w->aZ P md ops Q S m fuel (setOf listed I) (xO a T (I.map v)) w)
  (hc:CK md ops listed I dep=true:=by kernel_rfl) (hns:Region.noSelect ops=true:=by kernel_rfl) (hT:I.map (j6 ops)=T.map some:=by kernel_rfl) (hn:I.Nodup:=by decide) (hl:I.length=n:=by rfl):aZ P md ops Q S m (fuel+n) listed a w:=by
 have key:=Ry (P:=P) (Q:=Q) (S:=S) (m:=m) (fuel:=fuel) (listed:=listed) (a:=a) I dep Inv hc hns hn (λi hi=>hst.at hi) (λd v w hd hI=>by rw[sZ I T a hT];exact hend d v w hd hI) n (λ_=>false) (λ_=>undef) w (by rw[<-hl,List.filter_eq_self.2 aV]) h0 aV;have e:I.filter (λ_=>false)=[]:=by simp
 rw[e]at key;exact key
def Rv(x:Value):Value->Nat->Nat->World->Prop:=λv _ _ _=>v=x
def Ra(o:Obj):Value->Nat->Nat->World->Prop:=λv s e w=>v=.pointer (some ⟨s,0,none⟩)/\s<e/\At w s o
theorem Ra.keep{o:Obj}{v:Value}{s e:Nat}{w w':World}(h:Ra o v s e w)(hb:Below w w w'):Ra o v s e w':=⟨h.1,h.2.1,At.keep h.2.2 hb⟩
theorem Ra.made{o:Obj}{w:World}{r:Result Next}(hr:r=.ok (.value (.pointer w)) (w.alloc o)):Step P (λu w'=>Below w w w'/\Ra o u w.heap.size w'.heap.size w') r :=
 Step.value hr ⟨aB aD _,rfl,by simp,At.new _ _⟩
def X6(ops:Array Oper)(I:List Nat)(dep:Nat->List Nat):Bool:=I.all λi=>(I.filter (dep i).contains).all λj=>match ops[i]?,ops[j]? with
 | some x,some y=>x.apart ops y
 | _,_=>false
theorem oo(hI:I.filter q=[]):jS ops v a (I.filter q)=a:=by rw[hI];rfl
theorem zL{dep:Nat->List Nat}(h:X6 ops I dep=true)(hns:Region.noSelect ops=true)(hi:i∈I){o:Oper}(ho:ops[i]? = some o)(v:Nat->Value)(a:Act):execOp (jS ops v a (I.filter (dep i).contains)).eval o=execOp a.eval o:=by
 have h1:=List.all_eq_true.1 (List.all_eq_true.1 h i hi);refine execOp_congr o (λcs b e=>Region.noSelect_spec hns i o cs b ho e) λx hx => ?_
 have:=xM (ops:=ops) (v:=v) (a:=a) (x:=x) (q:=λ_=>false) (I.filter (dep i).contains).reverse (λj hj=>by
  rw[jd0]at hj;have h2:=h1 j hj;rw[ho]at h2;cases hy:ops[j]? with
  | none=>rw[hy]at h2;cases h2
  | some y =>
    rw[hy]at h2;refine .inr λdd hdd hxe => ?_;have:y.dst=some dd:=by unfold j6 at hdd;rw[hy]at hdd;exact hdd
    refine(Oper.apart_spec h2).2.2 dd this ?_;subst hxe
    exact List.mem_append_left _ (List.mem_filterMap.2 ⟨.tmp dd,by simpa using hx,rfl⟩))
 rw[jd0,show(I.filter (dep i).contains).filter (λ_=>false)=[]by simp]at this;exact this
def aiy(P:Program)(ops:Array Oper)(a:Act)(w0:World)(R:Nat->Value->Nat->Nat->World->Prop)(i:Nat):Prop:=(∀v s e w w',R i v s e w->Below w.heap.size w w'->R i v s e w')/\∃o,ops.toList[i]? = some o/\o.guard=none/\∀w,Below w0 w0 w->Step P (λu w'=>Below w.heap.size w w'/\R i u w.heap.size w'.heap.size w') ((execOp a.eval o).run P w)
theorem tq{w0:World}(n:Nat)(I:List Nat)(T:List Tmp)(dep:Nat->List Nat)(R:Nat->Value->Nat->Nat->World->Prop)
  (hst:Each (aiy P ops a w0 R) I) (hS:∀X,Below w0 w0 X->S X)
  (hend:∀(v:Nat->Value) (s e:Nat->Nat) (w:World),Below w0 w0 w->(∀i∈I,w0.heap.size<=s i/\s i<=e i/\R i (v i) (s i) (e i) w)->(∀i∈I,∀j∈I,i≠j->e i<=s j\/e j<=s i)->aZ P md ops Q S m fuel (setOf listed I) (xO a T (I.map v)) w)
  (hc:CK md ops listed I dep=true:=by kernel_rfl) (hns:Region.noSelect ops=true:=by kernel_rfl) (hT:I.map (j6 ops)=T.map some:=by kernel_rfl) (hn:I.Nodup:=by decide) (hl:I.length=n:=by rfl) (hlk:X6 ops I dep=true:=by kernel_rfl):aZ P md ops Q S m (fuel+n) listed a w0:=by
 have key:=Ry (P:=P) (Q:=Q) (S:=S) (m:=m) (fuel:=fuel) (a:=a) I dep
  (λd v w=>Below w0 w0 w/\∃s e:Nat->Nat,(∀i∈I,d i=true->w0.heap.size<=s i/\s i<=e i/\e i<=w.heap.size/\R i (v i) (s i) (e i) w)/\(∀i∈I,∀j∈I,d i=true->d j=true->i≠j->e i<=s j\/e j<=s i))
  hc hns hn (λi hi=>by
   obtain⟨_,o,ho,hg,hstep⟩:=hst.at hi;refine⟨o,ho,hg,λd v w hI _ hd => ?_⟩;obtain⟨hB,s,e,h1,h2⟩:=hI;rw[zL hlk hns hi (sG ho)];refine(hstep w hB).mono ?_;rintro u w' ⟨hb,hr⟩;have hB':Below w0 w0 w':=hB.trans (hb.mono hB.size);have hsz:=hb.size;refine⟨λ_=>hS _ hB',hB',λj=>if j=i then w.heap.size else s j,λj=>if j=i then w'.heap.size else e j,λj hj hjd => ?_,λj hj k hk hjd hkd hne => ?_⟩
   . by_cases hji:j=i
     . subst hji
       simp only[if_true];exact⟨hB.size,hsz,aJ _,hr⟩
     . simp only[if_neg hji]
       obtain⟨q1,q2,q3,q4⟩:=h1 j hj (by simpa[hji]using hjd);exact⟨q1,q2,aH q3 hsz,(hst.at hj).1 _ _ _ _ _ q4 hb⟩
   . by_cases hji:j=i
     . have hki:k≠i:=λh=>hne (hji.trans h.symm)
       simp only[if_pos hji,if_neg hki];exact .inr (h1 k hk (by simpa[hki]using hkd)).2.2.1
     . have afU:d j=true:=by simpa[hji]using hjd
       by_cases hki:k=i
       . simp only[if_neg hji,if_pos hki]
         exact .inl (h1 j hj afU).2.2.1
       . simp only[if_neg hji,if_neg hki]
         exact h2 j hj k hk afU (by simpa[hki]using hkd) hne)
  (λd v w hd hI=>by
   obtain⟨hB,s,e,h1,h2⟩:=hI;rw[sZ I T a hT]
   exact hend v s e w hB (λi hi=>⟨(h1 i hi (hd i hi)).1,(h1 i hi (hd i hi)).2.1,(h1 i hi (hd i hi)).2.2.2⟩) λi hi j hj hne=>h2 i hi j hj (hd i hi) (hd j hj) hne)
  n (λ_=>false) (λ_=>undef) w0 (by rw[<-hl,List.filter_eq_self.2 aV]) ⟨Below.refl _ _,λ_=>0,λ_=>0,by simp,by simp⟩ aV
 have e:I.filter (λ_=>false)=[]:=by simp
 rw[e]at key;exact key
end
end Go.Proofs.YtfohooineeijkaaGreat.aj
namespace Go.Proofs.YtfohooineeijkaaGreat.Fix
open Go.ChangeShapes Go.WideShapes Go.ChangeAt Go.RowKit
open Go.Proofs.Tryz renaming prog → ja0
def Rm(k:TypeId):Value->Nat->Nat->World->Prop:=λv s e w=>v=.map (some s)/\s<e/\GM k w s 0 (λ_=>none)
theorem Rm.keep{k:TypeId}{v:Value}{s e:Nat}{w w':World}(h:Rm k v s e w)(hb:Below w w w'):Rm k v s e w':=⟨h.1,h.2.1,h.2.2.keep hb⟩
theorem Rm.made{P:Program}{k:TypeId}{w:World}{r:Result Next}(hr:r=.ok (.value (.map (some w.heap.size))) (w.alloc (.map #[] 0))):aj.Step P (λu w'=>Below w w w'/\Rm k u w.heap.size w'.heap.size w') r :=
 aj.Step.value hr ⟨aB aD _,rfl,by simp,GM.made _ _⟩
theorem MC(ww wh:Int)(w:World):Calls ja0 28 #[.agg #[ww,wh]] w λe w'=>(∃lb bm km pm rm,e=.returned (.pointer (some ⟨lb,0,none⟩))/\(w.heap.size<=lb/\w.heap.size<=bm/\w.heap.size<=km/\w.heap.size<=pm/\w.heap.size<=rm)/\(lb≠bm/\lb≠km/\lb≠pm/\lb≠rm/\bm≠km/\bm≠pm/\bm≠rm/\km≠pm/\km≠rm/\pm≠rm) /\
  At w' lb (.cells #[ww,wh,.map (some bm),.map (some km),.map (some pm),.map (some rm)] 94)/\GM 3 w' bm 0 (λ_=>none)/\nK w' km/\GM 86 w' pm 0 (λ_=>none)/\GM 3 w' rm 0 (λ_=>none))/\Below w w w':=by
 have hmm:=@run_makeMap ja0;go_enter Tryz.func28,Tryz.ntmps28
 go_upto_region 1 with(fail)
 have A0:At (w.alloc (.cells #[ww,wh] 81)) w.heap.size (.cells #[ww,wh] 81):=At.new _ _;have hB1:Below w w (w.alloc (.cells #[ww,wh] 81)):=aB aD _;generalize w.alloc (.cells #[ww,wh] 81)=w1 at *;obtain⟨l0,c00,Jr⟩:=At.two A0;have hBW:∀X,Below w1 w1 X->Below w w X:=λX h=>Below.ay hB1 aC h;have hws:=hB1.size
 refine aj.fO (λa0 a W5=>∃(lb bm km pm rm:Nat) (u3 u4 u5 u6 u7 u8 u9:Value),a={ a0 with tmps:=(((((((a0.tmps.setIfInBounds 3 u3).setIfInBounds 4 u4).setIfInBounds 5 u5).setIfInBounds 6 u6).setIfInBounds 7 u7).setIfInBounds 8 u8).setIfInBounds 9 u9).setIfInBounds 2 (.pointer lb) } /\
  (w1.heap.size<=lb/\w1.heap.size<=bm/\w1.heap.size<=km/\w1.heap.size<=pm/\w1.heap.size<=rm)/\(lb≠bm/\lb≠km/\lb≠pm/\lb≠rm/\bm≠km/\bm≠pm/\bm≠rm/\km≠pm/\km≠rm/\pm≠rm) /\
  At W5 lb (.cells #[ww,wh,.map (some bm),.map (some km),.map (some pm),.map (some rm)] 94)/\GM 3 W5 bm 0 (λ_=>none)/\nK W5 km/\GM 86 W5 pm 0 (λ_=>none)/\GM 3 W5 rm 0 (λ_=>none)/\Below w1 w1 W5) ?_ ?_
 . refine gZ (S:=Below w1 w1) 8 ?_ ?_
   . exact(Below.refl _ _).drew
   intro hx;refine aG 0 ?_;clear l0 c00 Jr hBW hws hB1 A0;generalize w1.drew=W0 at *
   refine aj.tq 4 [1,2,3,4] [4,5,6,7] (λ_=>[]) (λi=>if i=1 then Rm 3 else if i=3 then Rm 86 else if i=4 then Rm 3 else λv s e W=>∃mk,v=.map (some mk)/\s<=mk/\mk<e/\nK W mk)
    ⟨⟨λ_ _ _ _ _ h hb=>Rm.keep h hb,_,rfl,rfl,λW hb=>Rm.made eB⟩,⟨λ_ _ _ _ _ ⟨mk,h1,h2,h3,h4⟩ hb=>⟨mk,h1,h2,h3,nK.keep _ _ _ h4 hb⟩,_,rfl,rfl,λW hb=>aj.Step.call eB (Pp _) λ_ _ ⟨⟨mk,h1,h2,h3⟩,h4⟩=>⟨_,h1,h4,mk,rfl,h2,by obtain⟨_,_,q,_⟩:=h3;exact q.lt,h3⟩⟩,⟨λ_ _ _ _ _ h hb=>Rm.keep h hb,_,rfl,rfl,λW hb=>Rm.made eB⟩,⟨λ_ _ _ _ _ h hb=>Rm.keep h hb,_,rfl,rfl,λW hb=>Rm.made eB⟩,trivial⟩ (λX h=>Below.ay hx aC h) ?_
   intro vs s0 e0 W hb hI hp;obtain⟨gb,-, e1,lb,Gb⟩:=hI 1 aV;obtain⟨gk,-, mk,e2,kk,lk,Gk⟩:=hI 2 aV;obtain⟨gp,-, e3,lp,Gp⟩:=hI 3 aV;obtain⟨gr,-, e4,lr,Gr⟩:=hI 4 aV;have n12:=hp 1 aV 2 aV aF;have n13:=hp 1 aV 3 aV aF;have n14:=hp 1 aV 4 aV aF;have n23:=hp 2 aV 3 aV aF;have n24:=hp 2 aV 4 aV aF;have n34:=hp 3 aV 4 aV aF
   (try simp only[aj.mQ,aj.om,aj.jv,aj.mP,List.map_cons,List.map_nil,e1,e2,e3,e4]);(try simp only[bN,bO,bP,tks])
   generalize s0 1=mb at *;generalize s0 3=mp at *;generalize s0 4=mr at *;have hxs:=hx.size;have lb':=Gb.lt;have lk':mk<W.heap.size:=by obtain⟨_,_,q,_⟩:=Gk;exact q.lt
   have lp':=Gp.lt;have lr':=Gr.lt;replace hx:=Below.ay hx aC hb;clear hI hp e1 e2 e3 e4;refine aG 5 ?_;refine tk1 6 ?_;refine aj.Step.value (u:=.pointer W) (w':=W.alloc (.cells #[ww,wh,.map (some mb),.map (some mk),.map (some mp),.map (some mr)] 94)) eB ?_;refine⟨λ_=>aB hx _,?_⟩
   (try simp only[bN,bO,bP,tks])
   refine tk1 7 ?_;refine uq ?_ (hS:=by first|(intro hlt;exact absurd hlt aF)|(intro _;exact aB hx _));refine gX ?_;have fF:Below W W (W.alloc (.cells #[ww,wh,.map (some mb),.map (some mk),.map (some mp),.map (some mr)] 94)):=aB aD _;have hsw:=hx.size;exact⟨rfl,W.heap.size,mb,mk,mp,mr,_,_,_,_,_,_,_,rfl,⟨by omega,by omega,by omega,by omega,by omega⟩,⟨by omega,by omega,by omega,by omega,by omega,by omega,by omega,by omega,by omega,by omega⟩,At.new _ _,Gb.keep fF,nK.keep _ _ _ Gk fF,Gp.keep fF,Gr.keep fF,aB hx _⟩
 . rintro a W5 ⟨lb,bm,km,pm,rm,u3,u4,u5,u6,u7,u8,u9,rfl,hge,hne,hA,h1,h2,h3,h4,ko⟩
   simp only[List.setIfInBounds_toArray,List.set_cons_zero,List.set_cons_succ];have HF:=ah (show(w.heap.size<=lb/\w.heap.size<=bm/\w.heap.size<=km/\w.heap.size<=pm/\w.heap.size<=rm)from⟨by omega,by omega,by omega,by omega,by omega⟩);have HBW:=ah (hBW W5 ko);go_wp2
   go_ret
   exact⟨⟨lb,bm,km,pm,rm,rfl,HF.out,hne,hA,h1,h2,h3,h4⟩,HBW.out⟩
theorem CZ(b:Nat)(s:Re.St)(fl ap:Value)(ib:Bool)(w:World)(h:aL w b s fl ap ib):Calls ja0 130 #[b,()] w λx w'=>x=.returned (.bool (Fw.opn s ib 0))/\Below w w w':=by
 have d0:w.cell? ⟨b,69,none⟩=some (.int .i64 (Fw.ed s 0)):=h.ext 14;have d1:w.cell? ⟨b,73,none⟩=some (.bool ib):=h.ext 18;have l0:=h.lt;have yP:=ah h.style;clear h;go_enter Tryz.func130,Tryz.ntmps130
 go_upto_region 2 with(first|(refine aT aQ rfl ?_)|(refine bF aQ rfl ?_)|(refine aR aQ _ rfl rfl o7 ?_)|(refine bG aQ _ _ rfl rfl rfl o7 ?_)|(refine bq aQ _ _ rfl rfl rfl o7 ?_)|(refine fC aQ _ rfl rfl yP.out ?_))
 generalize hW:World.setRow _ _ _=W1;have A1:At W1 w (.cells (cells s) 59):=hW▸(At.new w (.cells (cells Re.zero) 59)).setRow _;have hB:Below w w W1:=hW▸below_setRow (aB aD _) aC _;clear hW;replace d0:=(Below.cell_ hB l0 _).trans d0;replace d1:=(Below.cell_ hB l0 _).trans d1;have l1:=A1.lt;have g0:=A1.st 0 aF rfl;have g2:=A1.st 2 aF rfl;have g5:=A1.st 5 aF rfl;have g9:=A1.st 9 aF rfl;replace l0:=aU l0 hB.size;clear yP;cases ib
 . exact Z1f
 cases h0:s.c 0==0
 . exact Z1f
 cases h2:s.c 2==0
 . exact Z1f
 cases he:Fw.ed s 0==0
 . exact Z1f
 exact Z1f
theorem CY(b:Nat)(s:Re.St)(fl ap:Value)(ib:Bool)(w:World)(h:aL w b s fl ap ib):Calls ja0 130 #[b,.int .i64 1] w λx w'=>x=.returned (.bool (Fw.opn s ib 1))/\Below w w w':=by
 have d0:w.cell? ⟨b,70,none⟩=some (.int .i64 (Fw.ed s 2)):=h.ext 15;have d1:w.cell? ⟨b,73,none⟩=some (.bool ib):=h.ext 18;have l0:=h.lt;have yP:=ah h.style;clear h;go_enter Tryz.func130,Tryz.ntmps130
 go_upto_region 2 with(first|(refine aT aQ rfl ?_)|(refine bF aQ rfl ?_)|(refine aR aQ _ rfl rfl o7 ?_)|(refine bG aQ _ _ rfl rfl rfl o7 ?_)|(refine bq aQ _ _ rfl rfl rfl o7 ?_)|(refine fC aQ _ rfl rfl yP.out ?_))
 generalize hW:World.setRow _ _ _=W1;have A1:At W1 w (.cells (cells s) 59):=hW▸(At.new w (.cells (cells Re.zero) 59)).setRow _;have hB:Below w w W1:=hW▸below_setRow (aB aD _) aC _;clear hW;replace d0:=(Below.cell_ hB l0 _).trans d0;replace d1:=(Below.cell_ hB l0 _).trans d1;have l1:=A1.lt;have g0:=A1.st 0 aF rfl;have g2:=A1.st 2 aF rfl;have g5:=A1.st 5 aF rfl;have g9:=A1.st 9 aF rfl;replace l0:=aU l0 hB.size;clear yP;cases ib
 . exact Z11
 cases h0:s.c 0==0
 . exact Z11
 cases h2:s.c 2==0
 . exact Z11
 cases he:Fw.ed s 2==0
 . exact Z11
 cases h5:s.c 5==0
 . exact Z11
 cases h9:s.c 9==0
 . exact Z11
 exact Z11
end Go.Proofs.YtfohooineeijkaaGreat.Fix
