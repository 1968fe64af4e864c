/- Steps of the program (10); no conditions. -/
import Derived.Test.YtdnggaapcgomhaaGreatM09
set_option linter.all false
set_option maxRecDepth 100000
set_option maxHeartbeats 16000000
namespace Go.Proofs.YtdnggaapcgomhaaGreat.Fix
open Go.ChangeShapes Go.WideShapes Go.ChangeAt Go.RowKit
open Go.Proofs.Tryz renaming prog → ja0
open List renaming getElem?_eq_getElem → ja6,length_append → ja7,ext_getElem → jb5,length_map → jb7,getElem_mem → jc3
variable {w:World}{o:Oper}{ops:Array Oper}{a:Act}{b:Nat}
theorem vP{M:Nat->Prop}{W W':World}{b off:Nat}{l:List Int}(h:Ints W (some ⟨b,off,none⟩) l)(k:Out M W W')(hm:¬ M b):Ints W' (some ⟨b,off,none⟩) l:=by
 refine⟨h.1,λh0 => ?_⟩;obtain⟨b',off',e,hc⟩:=h.2 h0;obtain⟨rfl,rfl,-⟩:b=b'/\off=off'/\True:=by injection e with e;injection e with e1 e2;exact⟨e1,e2,trivial⟩
 exact⟨b,off,rfl,λi hi=>(Out.cell k (off+i) (World.block_lt_of_cell? _ _ (hc i hi)) hm).trans (hc i hi)⟩
theorem lints{l:List Int}(h:Ints w (some ⟨b,0,none⟩) l){k:Nat}(hk:k<l.length):b<w.heap.size/\w.cell? ⟨b,k,none⟩=some (.int .i64 (l.getD k 0)):=by
 obtain⟨b',off,e,hl,hc⟩:=h.at_ hk;injection e with e;injection e with e1 e2;subst e1 e2;rw[Nat.zero_add]at hc;exact⟨hl,hc⟩
def rO(g:Nat->Im->Im)(l:List Im)(k:Nat):List Im:=(l.take k).mapIdx g++l.drop k
theorem gW(g:Nat->Im->Im)(l:List Im)(k:Nat):(rO g l k).length=l.length:=by simp[rO];omega
theorem o7(g:Nat->Im->Im)(l:List Im){k:Nat}(hk:k<l.length):(rO g l k)[k]'(by rw[gW];exact hk)=l[k]:=by
 unfold rO;rw[List.getElem_append_right iJ];simp;congr 1;omega
theorem Ab(g:Nat->Im->Im)(l:List Im){k:Nat}(hk:k<l.length):(rO g l k).set k (g k l[k])=rO g l (k+1):=by
 unfold rO;exact Z1q
theorem Ad(g:Nat->Im->Im)(l:List Im):rO g l 0=l:=by simp[rO]
theorem Ew(g:Nat->Im->Im)(l:List Im):rO g l l.length=l.mapIdx g:=by simp[rO]
instance:Inhabited Im:=⟨⟨⟨0,0,0,0,0⟩,⟨0,0,0,0,0,0,0⟩,0,0,0,0,0⟩⟩
theorem rP(l:List Int):Ju.row (λi=>l.getD i 0) l.length=l:=by
 unfold Ju.row;exact jb5 aW λi h1 h2=>by simp[List.getD,ja6 h2]
theorem yS(l:List Im):(uz l).length=l.length:=by simp[uz]
def lnF(B:Int->Fw.Bx)(f:Nat)(i0 i1:Int)(sz:List Int)(i:Nat)(x:Im):Im:={ x with ld:=Fw.lay B f x.ld.id i0 i1 (Fw.wr (sz.getD i 0+Fw.wD (B x.ld.id).sty 0)) (-1) }
def lnB(al deep:Int)(st:List Int)(i:Nat)(x:Im):Im:={ x with ld:={ x.ld with a0:=Fw.wr (st.getD i 0+x.m0),a1:=Fw.wr (Ju.across al (Bf x) deep+x.m2) } }
def lnS(B:Int->Fw.Bx)(i0 gap:Int)(xs:List Im):List Int:=kF (λi=>(xs.getD i default).it) xs.length (oK (Fw.wr (i0-Fw.wr (gap*Fw.wr ((xs.length:Int)-1)))) (λi=>X5 (xs.getD i default) (B (xs.getD i default).ld.id).sty) xs.length)
def JO(high:Int)(xs:List Im):Int:=if high = -1 then (nG xs).foldl max 0 else high
def Ey(B:Int->Fw.Bx)(f:Nat)(s:Re.St)(i0 i1 high:Int)(xs:List Im):List Im:=xs.mapIdx (lnF B f i0 i1 (lnS B i0 (s.c 46) xs))
def tJ(B:Int->Fw.Bx)(f:Nat)(s:Re.St)(i0 i1 deep:Int)(ys:List Im):List Im:=if s.c 44=0 then ys.map (Ce B f i0 i1 deep)else ys
def tK(s:Re.St)(i0 deep:Int)(ys:List Im):List Im:=ys.mapIdx (lnB (s.c 44) deep (Ju.row (Ju.starts (s.c 43) i0 (s.c 46) (uz ys)) ys.length))
theorem jA(ho:o.op=.alloc 68):(execOp a.eval o).run ja0 w=.ok (.value (.pointer w)) (w.alloc (.cells (cells Re.zero) 68)):=by
 unfold execOp;simp only[ho,Sem.run_bind,Az,Result.andThen_ok,Sem.run_pure]
theorem jB(x y:Operand)(ho:o.op=.store 68 x y)(hx:a.eval x=.pointer b){s t:Re.St}(hy:a.eval y=.agg (cells t))(hs:At w b (.cells (cells s) 68)):(execOp a.eval o).run ja0 w=.ok .skip (w.setRow b (cells t)):=by
 unfold execOp;simp only[ho,hx,hy,Sem.run_bind,uZ hs,Result.andThen_ok,Sem.run_pure]
section
variable {Y:p9} {B:Int->Fw.Bx} {F:Int->Nat} {D:Int->Prop} {KM:World->Nat->Prop} {f:Nat} {w0:World} {P0:Nat->Prop}
theorem abT{i0 i1:Int}{sz:List Int}{x:Im}(i:Nat)(h:MQ Y B D F f i0 x):MQ Y B D F f i0 (lnF B f i0 i1 sz i x):=⟨h.d,h.f,h.bx,h.m0,h.m1,h.m2,h.m3⟩
theorem agj(hL:vO Y B F D KM f)(hK:∀(X X':World) (b:Nat),KM X b->Below X X X'->KM X' b)(rY:∀(X X':World) (b:Nat),KM X b->Out (λq=>q≠b) X X'->KM X' b)(hR0:RO w0 Y B D KM)(hkm:Y.km<w0.heap.size)
  (R q c:Nat) (z i0 i1 high:Int) (hz:D z) (xs:List Im) (cs:Array Value) (w:World) (n:Nat) (P:Nat->Prop) (hS:pJ Y B F w0 P0 n P w) (hA:At w R (.cells cs 232)) (hI:fq cs q xs) (hok:∀x∈xs,MQ Y B D F f i0 x) (Ym:¬ P R) (sU:w0.heap.size<=R) (hn:n+2*iK B f xs xs.length<maxLen) (hl:xs.length<=64) (s:Re.St) (hs:(B z).sty=s) (xs1 xs2:List Im) (deep:Int) (hx1:Ey B f s i0 i1 high xs=xs1) (hdp:JO high xs1=deep) (hx2:tJ B f s i0 i1 deep xs1=xs2) :
  Calls ja0 150 #[Y.lb,.agg #[z,i0,i1],.slice (some ⟨R,q,none⟩) xs.length c,high] w λe w'=>e=.returned deep /\
   ∃n' P' cs',n'<=n+2*iK B f xs xs.length/\pJ Y B F w0 P0 n' P' w'/\¬ P' R/\(∀b,b<w.heap.size->P' b->P b)/\At w' R (.cells cs' 232)/\fq cs' q (tK s i0 deep xs2)/\jw q xs.length cs cs'/\Out (λb=>b=Y.pm\/b=R) w w':=by
 obtain⟨es0,UJ,oz⟩:=hR0.FJ;have aiW:Y.pm<R:=aT oz.lt sU;obtain⟨m,hm⟩:=aA xs.length;have HM:=ah hm;have HN:=ah hn;have HOK:=ah hok;have uN:=ah hR0;have Ta:=ah hx1;have HDP:=ah hdp;have HX2:=ah hx2;have hRl:=hA.lt;have wR:=hS.ro rY hR0 hkm;have ade:=wR.look hz;obtain⟨b0,hb0⟩:=aA (Y.bl z);rw[hb0]at ade;have hbx:=(wR.box z hz).1;rw[hb0,hs]at hbx;have yT:=ah hbx.style;have wK:=wR.lay;have U4:=hbx.lt;obtain⟨lY,xC,xD,zy,zA,zB,zC⟩:=At.six wK;have b1:Below w w (w.alloc (.cells #[z,i0,i1] 99)):=aB aD _;have A0:At (w.alloc (.cells #[z,i0,i1] 99)) w.heap.size (.cells #[z,i0,i1] 99):=At.new _ _;have hS1:=hS.after b1;have hA1:=hA.keep b1;have F4:=wR.keep hK b1;rw[hm]at hl ⊢;clear hn hok hR0 hS hA hm oz hx1 hdp hx2 hs hbx xC xD zy zA zB zC ade wK lY;go_enter Tryz.func150,Tryz.ntmps150
 go_upto_region 1 with(fail)
 generalize w.alloc (.cells #[z,i0,i1] 99)=w1 at *;have aiY:w.heap.size<w1.heap.size:=A0.lt;have hsz:=b1.size;have hlk:=λX (h:Below w1 w1 X)=>(F4.keep hK h).look hz;simp only[hb0]at hlk;have Yr:=ah (λj hj=>(b1.cell (p:=⟨b0,0+j,none⟩) U4).trans (yT.out j hj):uy w1 b0 0 s);have Wn:b0<w1.heap.size:=aT U4 hsz;obtain⟨lY,xC,xD,zy,zA,zB,zC⟩:=At.six F4.lay;obtain⟨l0,fu,fA,gy⟩:=At.three A0;have hSd:Below w1 w1 w1.drew:=Below.drew aD;refine iC (S:=λX=>Below w1 w1 X) 12 ?_ ?_
 . exact hSd
 intro hx;clear hSd;refine aF 0 ?_;refine aF 1 ?_;refine aF 2 ?_;refine aF 3 ?_;refine aF 4 ?_;refine aF 5 ?_;refine jh 6 rfl (aZ aR rfl rfl rfl (λX h=>hlk X h)) ?_;refine aF 7 ?_;refine aF 8 ?_;refine jh 9 rfl (iH aR (.tmp 26) rfl rfl (λX h=>λj hj=>(h.cell (p:=⟨b0,0+j,none⟩) Wn).trans (Yr.out j hj))) ?_;refine tk1 10 ?_;refine aj.Step.value (jA rfl) ?_;obtain⟨w2,hw2,AS,hb2,gT⟩:∃w2,w2=w1.drew.alloc (.cells (cells Re.zero) 68)/\At w2 w1.drew (.cells (cells Re.zero) 68)/\Below w1.drew w1.drew w2/\w1.heap.size<=w1.drew.heap.size:=⟨_,rfl,At.new _ _,aB aD _,hx.size⟩;rw[<-hw2];clear hw2;replace hx:=Below.ay hx aC hb2;generalize w1.drew.heap.size=T at *;refine⟨λ_=>hx,?_⟩
 (try simp only[bM,bN,bO,tks])
 refine tk1 11 ?_;refine aj.Step.skip (jB (.tmp 9) (.tmp 27) rfl rfl rfl AS) ?_;replace AS:At (w2.setRow T (cells s)) T (.cells (cells s) 68):=At.setRow AS _;have hx2:Below w1 w1 (w2.setRow T (cells s)):=aM hx gT _;generalize w2.setRow T (cells s)=w3 at *;refine⟨λ_=>hx2,?_⟩
 (try simp only[bM,bN,bO,tks])
 refine gZ ?_;have abU:=hx2.size;have hO3:Out (λb=>b=Y.pm\/b=R) w w3:=Out.of_below (b1.trans (hx2.mono hsz));have qz:=hS1.after hx2;have hA3:=hA1.keep hx2;have B3:=A0.keep hx2;have FQ:=qz.ro rY uN.out hkm;have hPw:=qz.lt;obtain⟨sz,hszz⟩:=aA (lnS B i0 (s.c 46) xs);have Yt:Hid (xs.mapIdx (lnF B f i0 i1 sz)=xs1):=ah (by rw[<-hszz];exact Ta.out);have HI:=ah hI;have abz:Calls ja0 187 #[.slice (some ⟨R,q,none⟩) m c,(),.agg #[i0,i1],s.c 46] w3 λe w'=>(∃b,e=.returned (.slice (some ⟨b,0,none⟩) m m)/\w3.heap.size<=b/\Ints w' (some ⟨b,0,none⟩) sz)/\Below w3 w3 w':=by
  have e:=HM.out;subst e;have hg:∀i (h:i<xs.length),xs.getD i default=xs[i]:=λi h=>by rw[List.getD,ja6 h];rfl
  have k:=Ye (some ⟨R,q,none⟩) xs c i0 i1 (s.c 46) (λi=>(xs.getD i default).it) (λi=>X5 (xs.getD i default) (B (xs.getD i default).ld.id).sty) (λi=>(B (xs.getD i default).ld.id).sty) w3 (hI.ims hA3) hl (λi h=>by simp only[hg i h]) (λi h=>by simp only[hg i h]) (λi h=>by
   have ho:=HOK.out xs[i] (jc3 _);have hb:=(FQ.box _ ho.d).1;rw[<-ho.bx]at hb;simp only[hg i h]
   exact⟨_,_,_,hb⟩)
  rw[<-hszz];exact k
 have U5:sz.length=m:=by rw[<-hszz,<-HM.out];unfold lnS kF;simp
 have JQ:w3.cell? ⟨T,46,none⟩=some (.int .i64 (s.c 46)):=(AS.cell 46).trans (bJ s ak rfl);obtain⟨l0,fu,fA,gy⟩:=At.three B3;have lT:=AS.lt;clear hI b1 A0 hS1 hA1 F4 Yr hlk xC xD zy zA zB zC lY yT wR hb2 hszz hx;have HRR:=ah FQ;clear FQ
 go_upto_region 3 with(go_at_call 187;(with_reducible refine abz.mono ?_);rintro e' w4 ⟨⟨bz,rfl,gbz,yg⟩,hb4⟩)
 clear abz;have abV:=ah yg;have hO4:Out (λb=>b=Y.pm\/b=R) w w4:=Out.trans' hO3 (Out.of_below (M:=λ_=>False) hb4) λ_ _ q=>q.elim;have Gi:=qz.after hb4;have hA4:=hA3.keep hb4;have B4:=B3.keep hb4;have Yu:=ah (AS.keep hb4);have aek:=hb4.size;have gT2:w.heap.size<T:=by have:=B3.lt;have h2:=aiY;omega
 clear hb4 yg AS B3 hA3 qz hO3 hx2 HRR
 go_loopw [35] (λiv wr=>∃(k n':Nat) (P':Nat->Prop) (cs':Array Value),k<=m/\iv=.int .i64 k/\n'<=n+iK B f xs k/\pJ Y B F w0 P0 n' P' wr/\¬ P' R/\(∀b,b<w.heap.size->P' b->P b)/\At wr R (.cells cs' 232)/\Hid (fq cs' q (rO (lnF B f i0 i1 sz) xs k)/\jw q m cs cs')/\At wr w (.cells #[z,i0,i1] 99)/\Hid (At wr T (.cells (cells s) 68))/\Hid (Ints wr (some ⟨bz,0,none⟩) sz)/\Out (λb=>b=Y.pm\/b=R) w wr) (λiv _=>m-(intOf iv).toNat)
 case atStart=>exact⟨0,n,P,cs,eX _,rfl,by simp[iK],Gi,Ym,λb hb h=>h,hA4,ah ⟨by rw[Ad];exact HI.out,jw.refl _ _ _⟩,B4,Yu,abV,hO4⟩
 case round =>
  clear Gi hA4 B4 Yu abV hO4 l0 fu fA gy lT JQ;obtain⟨k,n',P',cs',hk,rfl,hn',hSr,wS,xQ,hAr,hC,A0,hST,yg,hO⟩:=hrel;by_cases hlt:k<m
  . have hltz:(k:Int)<(m:Int):=by omega
    have hkx:k<xs.length:=by rw[HM.out];exact hlt
    have hkc:k<(rO (lnF B f i0 i1 sz) xs k).length:=by rw[gW];exact hkx
    have pK:=hC.out.1.at_ hAr hkc;rw[o7 _ _ hkx]at pK;obtain⟨x,hx⟩:=aA (xs[k]);have kg:=ah (HOK.out x (hx▸jc3 _));rw[hx]at pK;have HX:=ah hx;have hRr:=hSr.ro rY uN.out hkm;have hbx:=(hRr.box x.ld.id kg.out.d).1;rw[<-kg.out.bx]at hbx;obtain⟨sx,hsx⟩:=aA ((B x.ld.id).sty);rw[hsx]at hbx;generalize Y.vf x.ld.id=vf at hbx;generalize Y.va x.ld.id=va at hbx;generalize (B x.ld.id).ib=ib at hbx;have HSX:=ah hsx;have HIM:=ah pK;have oZ:=ah hSr;obtain⟨l2,bS,bX,bY,bZ,cu,cK,bU,bV⟩:=At.bx0 hbx;clear bS bX bY bZ cu cK;have Cc:=hAr.lt;have MR:wr.cell? ⟨R,q+k*17+12,none⟩=some (.pointer x.bx):=(pK 12 ak).trans rfl;have Sc:wr.cell? ⟨R,q+k*17+5,none⟩=some (.int .i64 x.ld.id):=(pK 5 ak).trans rfl;obtain⟨lz,cz⟩:=lints yg.out (by rw[U5];exact hlt);obtain⟨v,hv⟩:=aA (sz.getD k 0);rw[hv]at cz;obtain⟨l0,fu,fA,gy⟩:=At.three A0;clear hRr hbx pK hsx hx
    go_upto_region 6 with(fail)
    have abW:=ah (oZ.out.after ((Below.refl wr.heap.size wr).drew));have hcs1:=rJ B f xs hkx;rw[HX.out]at hcs1;have hcs2:=wL B f xs (k+1);have hnn:=HN.out;have uI:=λX=>eY (Fw.ed sx 3) (Fw.ed sx 1) X;obtain⟨e31,ael⟩:=aA (Fw.wr (Fw.ed sx 3+Fw.ed sx 1));simp only[ael]at uI;have agk:Fw.wD sx 0=e31:=ael;clear ael;obtain⟨t0,ht0⟩:=aA (IntKind.i64.wrap (v+e31));have aef:(Fw.lay B f x.ld.id i0 i1 t0 (-1)).id=x.ld.id:=rfl;obtain⟨ly,wK⟩:=aA (Fw.lay B f x.ld.id i0 i1 t0 (-1));have HLF:=ah (show lnF B f i0 i1 sz k x={ x with ld:=ly }by unfold lnF;rw[HSX.out,hv,agk,<-qK (v+e31),ht0,wK]);have KQ:ly.id=x.ld.id:=by rw[<-wK];rfl
    clear aef agk hv;have OC:=ah (show q+k*17+5+7<=cs'.size by have:=hC.out.1.1;rw[gW]at this;have h2:k*17+17<=xs.length*17:=ak;omega);have n1:w.heap.size≠Y.pm:=by omega
    have n2:w.heap.size≠R:=by omega
    have n34:=uN.out.box x.ld.id kg.out.d;rw[<-kg.out.bx]at n34
    have n3:x.bx≠Y.pm:=λe=>by
     obtain⟨es1,ck1,hp1⟩:=uN.out.FJ;have h1:=n34.1;rw[e]at h1;exact absurd (h1.symm.trans hp1) aW
    have n4:x.bx≠R:=by have:=n34.1.lt;omega
    clear n34;have n5:bz≠Y.pm:=by omega
    have n6:bz≠R:=by omega
    have hSd:Out (λb=>b=Y.pm\/b=R) wr wr.drew/\wr.drew.cell? ⟨R,q+k*17+5,none⟩=some (.int .i64 x.ld.id)/\wr.drew.cell? ⟨R,q+k*17+12,none⟩=some (.pointer x.bx):=⟨(Out.refl _ _).drew,Sc,MR⟩;refine iC (S:=λX=>Out (λb=>b=Y.pm\/b=R) wr X/\X.cell? ⟨R,q+k*17+5,none⟩=some (.int .i64 x.ld.id)/\X.cell? ⟨R,q+k*17+12,none⟩=some (.pointer x.bx)) 26 ?_ ?_
    . exact hSd
    intro hx;clear hSd;refine fJ 0 ?_;refine fJ 1 ?_;refine fJ 2 ?_;refine fJ 3 ?_;refine fJ 4 ?_;refine fJ 5 ?_;refine fJ 6 ?_;refine fJ 7 ?_;refine fJ 8 ?_;refine fJ 9 ?_;refine fJ 10 ?_;refine fJ 11 ?_;refine fJ 12 ?_;refine fJ 13 ?_;refine fJ 14 ?_;refine fJ 15 ?_;refine fJ 16 ?_;refine fJ 17 ?_;refine fJ 18 ?_;refine tk1 19 ?_;refine aj.Step.call eD (uI _) ?_;rintro e' w6 ⟨rfl,hb6⟩;have iV:Out (λb=>b=Y.pm\/b=R) wr w6:=Out.trans' ((Out.refl _ wr).drew) (Out.of_below (M:=λ_=>False) hb6) λ_ _ q=>q.elim;have qL:=abW.out.after hb6;have xK:=hAr.keep ((Below.drew (Below.refl _ wr)).trans hb6);have B6:=A0.keep ((Below.drew (Below.refl _ wr)).trans hb6);have Qi:w6.cell? ⟨R,q+k*17+5,none⟩=some (.int .i64 x.ld.id):=(hb6.cell (p:=⟨R,_,none⟩) Cc).trans Sc;have Ae:w6.cell? ⟨R,q+k*17+12,none⟩=some (.pointer x.bx):=(hb6.cell (p:=⟨R,_,none⟩) Cc).trans MR;have hx6:Out (λb=>b=Y.pm\/b=R) wr w6/\w6.cell? ⟨R,q+k*17+5,none⟩=some (.int .i64 x.ld.id)/\w6.cell? ⟨R,q+k*17+12,none⟩=some (.pointer x.bx):=⟨iV,Qi,Ae⟩;refine⟨_,rfl,λ_=>hx6,?_⟩
    (try simp only[bM,bN,bO,tks])
    refine fJ 20 ?_;refine fJ 21 ?_;have qF:=rM hL rY uN.out hkm qL x.ld.id i0 i1 t0 (-1) kg.out.d kg.out.f ak;rw[wK]at qF;refine tk1 22 ?_;refine aj.Step.call eD qF ?_;rintro e' iL ⟨rfl,n2',P2,hn2,mF,H7,jQ⟩;have mJ:=xK.out (M:=λb=>b=Y.pm) ak jQ;have Wo:=xK.lt;have uD:iL.cell? ⟨R,q+k*17+5,none⟩=some (.int .i64 x.ld.id):=(Out.cell jQ (q+k*17+5) Wo ak).trans Qi;have GN:iL.cell? ⟨R,q+k*17+12,none⟩=some (.pointer x.bx):=(Out.cell jQ (q+k*17+12) Wo ak).trans Ae;have B10:=B6.out (M:=λb=>b=Y.pm) n1 jQ;have o8:Out (λb=>b=Y.pm\/b=R) wr iL:=iV.trans (jQ.mono λb _ h => .inl h);have JN:Out (λb=>b=Y.pm\/b=R) wr iL/\iL.cell? ⟨R,q+k*17+5,none⟩=some (.int .i64 x.ld.id)/\iL.cell? ⟨R,q+k*17+12,none⟩=some (.pointer x.bx):=⟨o8,uD,GN⟩;refine⟨_,rfl,λ_=>JN,?_⟩
    (try simp only[bM,bN,bO,tks])
    refine fJ 23 ?_;refine fJ 24 ?_;refine tk1 25 ?_;refine aj.Step.skip (aY mP (.tmp 67) (.tmp 65) rfl rfl rfl mJ (dB ly) OC.out (ou ly)) ?_;have nN:At (iL.setRow R (splice cs' (q+k*17+5) (dV ly))) R (.cells (splice cs' (q+k*17+5) (dV ly)) 232):=At.setRow mJ _;have jg:Out (λb=>b=R) iL (iL.setRow R (splice cs' (q+k*17+5) (dV ly))):=Out.setRow (M:=λb=>b=R) (Out.refl _ _) rfl _;have Bh:(iL.setRow R (splice cs' (q+k*17+5) (dV ly))).cell? ⟨R,q+k*17+5,none⟩=some (.int .i64 x.ld.id):=by
     exact Z1f
    have H8:(iL.setRow R (splice cs' (q+k*17+5) (dV ly))).cell? ⟨R,q+k*17+12,none⟩=some (.pointer x.bx):=by
     exact Z2j
    refine⟨λ_=>⟨o8.trans (jg.mono λb _ h => .inr h),Bh,H8⟩,?_⟩
    (try simp only[bM,bN,bO,tks])
    refine gZ ?_;have qG:¬ P2 R:=λh=>wS (H7 R Wo h);have hput:=hC.out.1.R6 hkc ly;rw[o7 _ _ hkx,HX.out]at hput
    have Yq:Hid (fq (splice cs' (q+k*17+5) (dV ly)) q (rO (lnF B f i0 i1 sz) xs (k+1))/\jw q m cs (splice cs' (q+k*17+5) (dV ly))):=ah ⟨by
     rw[<-Ab _ _ hkx,HX.out,HLF.out]
     exact hput.1,hC.out.2.trans (by have:=hput.2;rw[gW,HM.out]at this;exact this)⟩
    have qH:=mF.own (M:=λb=>b=R) jg λb hb h=>by subst h;exact⟨qG,sU⟩
    have nR:Out (λb=>b=Y.pm\/b=R) w (iL.setRow R (splice cs' (q+k*17+5) (dV ly))):=(hO.trans o8).trans (jg.mono λb _ h => .inr h);have B11:=B10.out (M:=λb=>b=R) n2 jg;have hOr:Out (λb=>b=Y.pm\/b=R) wr (iL.setRow R (splice cs' (q+k*17+5) (dV ly))):=o8.trans (jg.mono λb _ h => .inr h);have uE:=ah (hST.out.out (M:=λb=>b=Y.pm\/b=R) ak hOr);have H9:=ah (vP yg.out hOr ak);have aeg:∀b,b<w.heap.size->P2 b->P b:=λb hb h=>xQ b hb (H7 b (aT hb (aJ hO.size iV.size)) h);generalize iL.setRow R (splice cs' (q+k*17+5) (dV ly))=qh at *;generalize splice cs' (q+k*17+5) (dV ly)=cs2 at *;clear hx hx6 JN hput mJ jg Bh uD GN H8 B10 B6 A0 xK qL iV jQ o8 Qi Ae l0 fu fA gy l2 bU bV cz lz MR Sc hOr H7 mF;go_wp2
    go_roundw
    case rel=>exact⟨k+1,n2',P2,cs2,by omega,by go_num,by omega,qH,qG,aeg,nN,Yq,B11,uE,H9,nR⟩
    case measure=>simp[intOf];omega
  . obtain rfl:k=m:=by omega
    have hlen1:xs1.length=k:=by rw[<-Yt.out,List.length_mapIdx,HM.out]
    have U6:Hid (fq cs' q xs1/\jw q k cs cs'):=ah (by
     have:=hC.out;rw[<-HM.out,Ew,Yt.out]at this;rw[<-HM.out]
     exact this)
    have JR:Hid (∀x∈xs1,MQ Y B D F f i0 x):=ah (by
     rw[<-Yt.out];intro x hx;obtain⟨i,hi,e⟩:=List.mem_mapIdx.1 hx;rw[<-e]
     exact abT i (HOK.out _ (jc3 _)))
    have aem:Hid (iK B f xs1 xs1.length=iK B f xs xs.length):=ah (by
     rw[<-Yt.out];unfold iK;rw[List.take_length,List.take_length];congr 1
     exact jb5 aW λi h1 h2=>by simp[lnF];rfl)
    have hn1:n'<=n+iK B f xs xs.length:=by have:=hn';rw[HM.out];exact this
    have Af:=ah hlen1;have agl:Hid (deep=if high = -1 then (nG xs1).foldl max 0 else high):=ah HDP.out.symm;have BK:=Yd (some ⟨R,q,none⟩) xs1 c wr (U6.out.1.ims hAr) ak;rw[hlen1]at BK;clear hlen1 hC hn' hlt Ta Yt HDP HI;have oZ:=ah hSr
    go_upto_if 70 with(fail)
    go_cut [3]from 69 to 73 (λv w2=>v=.int .i64 deep/\Below wr wr w2)
    case first =>
     by_cases hh:high = -1
     . have e1:=agl.out
       rw[if_pos hh]at e1;have E1:=ah e1;clear e1
       go_wp2_with (go_at_call 188;(with_reducible refine BK.mono ?_);rintro e' w5 ⟨rfl,hb⟩)
       go_meet
       case rel=>exact⟨by rw[E1.out],hb⟩
     . have e1:=agl.out
       rw[if_neg hh]at e1;exact Z3a
    case rest =>
     obtain⟨rfl,hb5⟩:=hcut;have hs5:=hb5.size;have hwr:=hO.size;have hS5:=oZ.out.after hb5;have xJ:=hAr.keep hb5;have B5:=A0.keep hb5;have Qj:=ah (hST.out.keep hb5);have BI:Out (λb=>b=Y.pm\/b=R) w wc:=Out.trans' hO (Out.of_below (M:=λ_=>False) hb5) λ_ _ q=>q.elim;have Yv:wc.cell? ⟨T,44,none⟩=some (.int .i64 (s.c 44)):=(Qj.out.cell 44).trans (bJ s ak rfl);have lT:=Qj.out.lt;obtain⟨l0,fu,fA,gy⟩:=At.three B5;have wT:=Yo hL hK rY uN.out hkm R q c i0 i0 i1 deep xs1 cs' wc n' P' hS5 xJ U6.out.1 JR.out wS sU (by rw[aem.out];have:=HN.out;omega) (by rw[Af.out];omega);rw[aem.out,Af.out]at wT;have hPc:∀b,b<w.heap.size->b<wc.heap.size:=λb h=>by omega
     have HPC:=ah hPc;clear BK hPc
     go_upto_if 75 with(fail)
     go_cut []from 73 to 82 (λw2=>∃(n2:Nat) (P2:Nat->Prop) (cs2:Array Value),n2<=n+2*iK B f xs xs.length/\pJ Y B F w0 P0 n2 P2 w2/\¬ P2 R/\(∀b,b<w.heap.size->P2 b->P b)/\At w2 R (.cells cs2 232)/\Hid (fq cs2 q xs2/\jw q k cs cs2)/\Out (λb=>b=Y.pm\/b=R) wc w2)
     case first =>
      by_cases hh:s.c 44=0
      . have e1:=HX2.out
        unfold tJ at e1;rw[if_pos hh]at e1;have E1:=ah e1;clear e1
        go_wp2_with (go_at_call 189;(with_reducible refine wT.mono ?_);rintro e' w6 ⟨rfl,n2,P2,cs2,hn2,qL,qG,hP2,xK,hI6,hM6,iV⟩)
        go_meet
        case rel=>exact⟨n2,P2,cs2,by omega,qL,qG,λb hb h=>xQ b hb (hP2 b (HPC.out b hb) h),xK,ah ⟨by rw[<-E1.out];exact hI6,U6.out.2.trans hM6⟩,iV⟩
      . have e1:=HX2.out
        unfold tJ at e1;rw[if_neg hh]at e1;have E1:=ah e1;clear e1;go_wp2
        go_meet
        case rel=>exact⟨n',P',cs',by omega,hS5,wS,xQ,xJ,ah (by rw[<-E1.out];exact U6.out),Out.refl _ _⟩
     case rest =>
      obtain⟨n2,P2,cs2,hn2,qL,qG,hP2,xK,hC6,iV⟩:=hcut
      have HL2:Hid (xs2.length=k):=ah (by
       rw[<-HX2.out];unfold tJ;split
       . rw[jb7,Af.out]
       . exact Af.out)
      have hs6:=iV.size;have B6:=B5.out (M:=λb=>b=Y.pm\/b=R) ak iV;have Yw:=ah (Qj.out.out (M:=λb=>b=Y.pm\/b=R) ak iV);have agm:Out (λb=>b=Y.pm\/b=R) w wc:=BI.trans iV;clear wT iV BI Qj B5 xJ hS5 hn1 HX2 JR aem wS xQ Yv l0 fu fA gy hO hST yg A0 hAr oZ hSr U6 hb5;have aen:wc.cell? ⟨T,43,none⟩=some (.int .i64 (s.c 43)):=(Yw.out.cell 43).trans (bJ s ak rfl);have JQ:wc.cell? ⟨T,46,none⟩=some (.int .i64 (s.c 46)):=(Yw.out.cell 46).trans (bJ s ak rfl);have lT6:=Yw.out.lt;have Wo:=xK.lt;obtain⟨l0,fu,fA,gy⟩:=At.three B6;have hSd:Below wc wc wc.drew:=Below.drew aD
      go_upto_region 12 with(fail)
      refine iC (S:=λX=>Below wc wc X) 12 ?_ ?_
      . exact hSd
      intro hx;clear hSd;refine aF 0 ?_;refine aF 1 ?_;refine aF 2 ?_;refine aF 5 ?_;refine aF 6 ?_;refine aF 7 ?_;refine aF 8 ?_;refine aF 9 ?_;refine tk1 3 ?_;refine aj.Step.call eD (nD 0 _) ?_;rintro e' w7 ⟨rfl,hw7⟩;have nW:Below wc.drew wc.drew w7:=hw7▸aB aD _;have AQ:At w7 wc.drew (.cells #[()] 3):=hw7▸At.new _ _;clear hw7;replace hx:=Below.ay hx aC nW;generalize wc.drew.heap.size=Bq at *;refine⟨_,rfl,λ_=>hx,?_⟩
      (try simp only[bM,bN,bO,tks])
      have mQ:=ad9 (some ⟨R,q,none⟩) xs2 c Bq w7 (hC6.out.1.ims (xK.keep hx)) (by rw[HL2.out];omega) (AQ.cell 0) AQ.lt;rw[HL2.out]at mQ;refine tk1 4 ?_;refine aj.Step.call eD mQ ?_;rintro e' w8 ⟨⟨bt,rfl,gbt,hT⟩,oq⟩;replace hx:=Below.ay hx aC oq;refine⟨_,rfl,λ_=>hx,?_⟩
      (try simp only[bM,bN,bO,tks])
      have U7:=Ev (some ⟨bt,0,none⟩) (uz xs2) k k (s.c 43) i0 (s.c 46) w8 (by
       have h1:=fP _ _ KR hT;have h2:=rP (uz xs2);rw[yS,HL2.out]at h2;rw[h2]at h1
       exact h1) (by rw[yS,HL2.out]) aC ak
      refine tk1 10 ?_;refine aj.Step.call eD U7 ?_;rintro e' w9 ⟨⟨bst,rfl,gst,Qk⟩,fK⟩;replace hx:=Below.ay hx aC fK;refine⟨_,rfl,λ_=>hx,?_⟩
      (try simp only[bM,bN,bO,tks])
      refine aF 11 ?_;refine gZ ?_;have hs9:=hx.size;have akN:wc.heap.size<=bst:=by
       have h1:=nW.size;have h2:=oq.size;simp only[World.size_drew]at h1;omega
      have pI:=xK.keep hx;have Om:=qL.after hx;have Yx:=ah (Yw.out.keep hx);have Hz:Out (λb=>b=Y.pm\/b=R) w w9:=Out.trans' agm (Out.of_below (M:=λ_=>False) hx) λ_ _ q=>q.elim;obtain⟨stl,abX⟩:=aA (Ju.row (Ju.starts (s.c 43) i0 (s.c 46) (uz xs2)) k);rw[abX]at Qk;have agn:stl.length=k:=by rw[<-abX,Ju.oP]
      have HBG:Hid (tK s i0 deep xs2=xs2.mapIdx (lnB (s.c 44) deep stl)):=ah (by unfold tK;rw[HL2.out,abX]);have aiZ:=ah agn;have agp:=ah Qk;have hgT:T<w9.heap.size:=aT lT6 hs9;clear abX agn Qk hx xK qL Yw agm B6 mQ U7 hT gbt gst nW oq fK AQ aen JQ l0 fu fA gy lT6 Wo
      go_upto_region 14 with(fail)
      go_loopw [95] (λiv wr=>∃(j:Nat) (Ag:Array Value),j<=k/\iv=.int .i64 j/\pJ Y B F w0 P0 n2 P2 wr/\At wr R (.cells Ag 232)/\Hid (fq Ag q (rO (lnB (s.c 44) deep stl) xs2 j)/\jw q k cs Ag)/\Hid (At wr T (.cells (cells s) 68))/\Hid (Ints wr (some ⟨bst,0,none⟩) stl)/\Out (λb=>b=Y.pm\/b=R) w wr) (λiv _=>k-(intOf iv).toNat)
      case atStart=>exact⟨0,cs2,eX _,rfl,Om,pI,ah ⟨by rw[Ad];exact hC6.out.1,hC6.out.2⟩,Yx,agp,Hz⟩
      case round =>
       clear Om pI Yx agp Hz hC6;obtain⟨j,Ag,hj,rfl,hSr,hAr,hC,hST,yg,hO⟩:=hrel;by_cases hlt:j<k
       . have hltz:(j:Int)<(k:Int):=by omega
         have hkx:j<xs2.length:=by rw[HL2.out];exact hlt
         have hkc:j<(rO (lnB (s.c 44) deep stl) xs2 j).length:=by rw[gW];exact hkx
         have pK:=hC.out.1.at_ hAr hkc;rw[o7 _ _ hkx]at pK;obtain⟨x,hx⟩:=aA (xs2[j]);rw[hx]at pK;have HX:=ah hx;have HIM:=ah pK;have oZ:=ah hSr;have Cc:=hAr.lt;obtain⟨lz,cz⟩:=lints yg.out (by rw[aiZ.out];exact hlt);obtain⟨v,hv⟩:=aA (stl.getD j 0);rw[hv]at cz;have HV:=ah hv;have Yv:wr.cell? ⟨T,44,none⟩=some (.int .i64 (s.c 44)):=(hST.out.cell 44).trans (bJ s ak rfl);have lTr:=hST.out.lt;clear pK hx hv hSr
         go_upto_region 17 with(fail)
         have hSd:Below wr wr wr.drew:=Below.drew aD;refine iC (S:=λX=>Below wr wr X) 10 ?_ ?_
         . exact hSd
         intro hx;clear hSd;refine aF 0 ?_;refine aF 1 ?_;refine aF 3 ?_;refine aF 4 ?_;refine jh 5 rfl (Er (.tmp 107) aR rfl rfl (λX h=>qE.keep HIM.out h Cc)) ?_;refine aF 7 ?_;refine tk1 2 ?_;refine aj.Step.call eD (nD 1 _) ?_;rintro e' w7 ⟨rfl,hw7⟩;have nW:Below wr.drew wr.drew w7:=hw7▸aB aD _;have AQ:At w7 wr.drew (.cells #[.int .i64 1] 3):=hw7▸At.new _ _;clear hw7;replace hx:=Below.ay hx aC nW;generalize wr.drew.heap.size=Bq at *;refine⟨_,rfl,λ_=>hx,?_⟩
         (try simp only[bM,bN,bO,tks])
         refine tk1 6 ?_;refine aj.Step.call eD (R4 x Bq w7 (AQ.cell 0)) ?_;rintro e' w8 ⟨rfl,oq⟩;replace hx:=Below.ay hx aC oq;refine⟨_,rfl,λ_=>hx,?_⟩
         (try simp only[bM,bN,bO,tks])
         refine tk1 8 ?_;refine aj.Step.call eD (Bj (s.c 44) (Bf x) deep w8) ?_;rintro e' w9 ⟨rfl,rfl⟩;refine⟨_,rfl,λ_=>hx,?_⟩
         (try simp only[bM,bN,bO,tks])
         refine aF 9 ?_;refine gZ ?_;have hs8:=hx.size;have Po:=hAr.keep hx;have hS8:=oZ.out.after hx;have agq:=ah (hST.out.keep hx);have agr:=ah (yg.out.keep hx λ_ a ha=>by injection ha with ha;rw[<-ha];exact lz);have hO8:Out (λb=>b=Y.pm\/b=R) w w8:=Out.trans' hO (Out.of_below (M:=λ_=>False) hx) λ_ _ q=>q.elim;have aeo:=ah (qE.keep (x:=x) HIM.out hx Cc);have c13:w8.cell? ⟨R,q+j*17+13,none⟩=some (.int .i64 x.m0):=(aeo.out 13 ak).trans rfl;have c15:w8.cell? ⟨R,q+j*17+15,none⟩=some (.int .i64 x.m2):=(aeo.out 15 ak).trans rfl;obtain⟨la,hla⟩:=aA (Ju.across (s.c 44) (Bf x) deep);rw[hla];obtain⟨p0,hp0⟩:=aA (IntKind.i64.wrap (v+x.m0));obtain⟨p1,hp1⟩:=aA (IntKind.i64.wrap (la+x.m2));have HLB:=ah (show lnB (s.c 44) deep stl j x={ x with ld:={ x.ld with a0:=p0,a1:=p1 } }by unfold lnB;rw[HV.out,hla,<-qK (v+x.m0),<-qK (la+x.m2),hp0,hp1]);have hFI:q+j*17+10+2<=Ag.size:=by
          have:=hC.out.1.1;rw[gW]at this;have h2:j*17+17<=xs2.length*17:=by omega
          omega
         have OC:=ah hFI;clear hla nW oq AQ hx hAr hST yg hO HIM oZ cz lz Yv lTr hFI HV Cc;have lR8:=Po.lt
         go_upto_region 18 with(fail)
         have hSd:Out (λb=>b=R) w8 w8.drew/\w8.drew.cell? ⟨R,q+j*17+13,none⟩=some (.int .i64 x.m0)/\w8.drew.cell? ⟨R,q+j*17+15,none⟩=some (.int .i64 x.m2):=⟨(Out.refl _ _).drew,c13,c15⟩;refine iC (S:=λX=>Out (λb=>b=R) w8 X/\X.cell? ⟨R,q+j*17+13,none⟩=some (.int .i64 x.m0)/\X.cell? ⟨R,q+j*17+15,none⟩=some (.int .i64 x.m2)) 22 ?_ ?_
         . exact hSd
         intro hx;clear hSd;refine aO 0 ?_;refine aO 1 ?_;refine aO 2 ?_;refine aO 3 ?_;refine aO 4 ?_;refine aO 5 ?_;refine aO 6 ?_;refine aO 7 ?_;refine aO 8 ?_;refine aO 9 ?_;refine aO 10 ?_;refine aO 11 ?_;refine aO 12 ?_;refine aO 13 ?_;refine aO 14 ?_;refine aO 15 ?_;refine aO 16 ?_;refine aO 17 ?_;refine aO 18 ?_;refine aO 19 ?_;refine aO 20 ?_;refine tk1 21 ?_;have Yy:At w8.drew R (.cells Ag 232):=Po;refine aj.Step.skip (aY ad4 (.tmp 132) (.tmp 129) rfl rfl rfl Yy rfl OC.out Kv) ?_;have nN:=At.setRow Yy (splice Ag (q+j*17+10) #[p0,p1]);have jg:Out (λb=>b=R) w8.drew (w8.drew.setRow R (splice Ag (q+j*17+10) #[p0,p1])):=Out.setRow (M:=λb=>b=R) (Out.refl _ _) rfl _;have ags:(w8.drew.setRow R (splice Ag (q+j*17+10) #[.int .i64 p0,.int .i64 p1])).cell? ⟨R,q+j*17+13,none⟩=some (.int .i64 x.m0):=by
          have h1:=gX (cs:=Ag) (vs:=#[p0,p1]) (q:=q+j*17+10) (k:=q+j*17+13) OC.out (.inr aW);rw[nN.cell,h1,<-Yy.cell];exact c13
         have agt:(w8.drew.setRow R (splice Ag (q+j*17+10) #[.int .i64 p0,.int .i64 p1])).cell? ⟨R,q+j*17+15,none⟩=some (.int .i64 x.m2):=by
          have h1:=gX (cs:=Ag) (vs:=#[p0,p1]) (q:=q+j*17+10) (k:=q+j*17+15) OC.out (.inr aW);rw[nN.cell,h1,<-Yy.cell];exact c15
         refine⟨λ_=>⟨((Out.refl _ w8).drew).trans jg,ags,agt⟩,?_⟩
         (try simp only[bM,bN,bO,tks])
         refine gZ ?_;have Ky:Out (λb=>b=R) w8 (w8.drew.setRow R (splice Ag (q+j*17+10) #[p0,p1])):=((Out.refl _ w8).drew).trans jg;have hput:=hC.out.1.putAt hkc p0 p1;rw[o7 _ _ hkx,HX.out]at hput
         have Yq:Hid (fq (splice Ag (q+j*17+10) #[p0,p1]) q (rO (lnB (s.c 44) deep stl) xs2 (j+1))/\jw q k cs (splice Ag (q+j*17+10) #[p0,p1])):=ah ⟨by
          rw[<-Ab _ _ hkx,HX.out,HLB.out]
          exact hput.1,hC.out.2.trans (by have:=hput.2;rw[gW,HL2.out]at this;exact this)⟩
         have qH:=hS8.own (M:=λb=>b=R) Ky λb hb h=>by subst h;exact⟨qG,sU⟩
         have nR:Out (λb=>b=Y.pm\/b=R) w (w8.drew.setRow R (splice Ag (q+j*17+10) #[p0,p1])):=hO8.trans (Ky.mono λb _ h => .inr h);have uE:=ah (agq.out.out (M:=λb=>b=R) ak Ky);have H9:=ah (vP agr.out Ky ak);generalize w8.drew.setRow R (splice Ag (q+j*17+10) #[.int .i64 p0,.int .i64 p1])=qh at *;generalize splice Ag (q+j*17+10) #[.int .i64 p0,.int .i64 p1]=cs4 at *;clear hx hput Po Yy jg Ky c13 c15 ags agt hS8 agq agr hO8 aeo hp0 hp1;go_wp2
         go_roundw
         case rel=>exact⟨j+1,cs4,by omega,by go_num,qH,nN,Yq,uE,H9,nR⟩
         case measure=>simp[intOf];omega
       . obtain rfl:j=k:=by omega
         go_wp2
         go_ret
         refine⟨rfl,n2,P2,Ag,by rw[HM.out]at hn2;exact hn2,hSr,qG,hP2,hAr,?_,hC.out.2,hO⟩;have:=hC.out.1;rw[<-HL2.out,Ew,<-HBG.out]at this;exact this
end
def yU(it:Nat->Fe.It)(ex:Nat->Int)(n:Nat)(r1 gap:Int):List Int :=
 if r1 ≠ -1/\n<=64 then kF it n (oK (Fw.wr (r1-Fw.wr (gap*Fw.wr ((n:Int)-1)))) ex n)else Ju.row (λi=>Fe.clamp (it i) (it i).b) n
theorem JU(it:Nat->Fe.It)(ex:Nat->Int)(n:Nat)(r1 gap:Int):(yU it ex n r1 gap).length=n:=by
 unfold yU;split
 . simp[kF]
 . exact Ju.oP _ _
theorem abY(A:Option Addr)(xs:List Im)(c:Nat)(r0 r1 gap:Int)(it:Nat->Fe.It)(ex:Nat->Int)(st:Nat->Re.St)(w:World)(hx:JH w A xs)(hl:xs.length<=10000)(hit:∀i (h:i<xs.length),it i=xs[i].it)(hex:∀i (h:i<xs.length),ex i=ext1 xs[i] (st i))(hbx:∀i (h:i<xs.length),∃fl ap ib,aL w xs[i].bx (st i) fl ap ib) :
  Calls ja0 152 #[.slice A xs.length c,.agg #[r0,r1],gap] w λe w' =>
   (∃b,e=.returned (.slice (some ⟨b,0,none⟩) xs.length xs.length)/\w.heap.size<=b/\Ints w' (some ⟨b,0,none⟩) (yU it ex xs.length r1 gap))/\Below w w w':=by
 have b1:Below w w (w.alloc (.cells #[r0,r1] 95)):=aB aD _;have A0:At (w.alloc (.cells #[r0,r1] 95)) w.heap.size (.cells #[r0,r1] 95):=At.new _ _;obtain⟨w1,hw1⟩:=aA (w.alloc (.cells #[r0,r1] 95));rw[hw1]at b1 A0;have hx1:JH w1 A xs:=hx.after b1
 have key1:=λh64=>Yh A xs c r0 r1 gap it ex st w1 hx1 h64 hit hex (λi h=>by
  obtain⟨fl,ap,ib,q⟩:=hbx i h
  exact⟨fl,ap,ib,aL.keep q b1⟩)
 have key2:=ad8 #[] (λi=>Fe.clamp (it i) (it i).b) A xs c w1 hx1 hl (λi h X hb=>by
  simp only[hit i h]
  exact ad3 xs[i] X)
 obtain⟨m,hm⟩:=aA xs.length;rw[hm]at hl key1 key2 ⊢;have HW1:=ah hw1;have HB1:=ah b1;have hsz:=b1.size;clear hx hx1 hit hex hbx hm hw1 b1;have c0:=A0.lc;obtain⟨ans,eO⟩:=aA (yU it ex m r1 gap);rw[eO];unfold yU at eO;go_enter Tryz.func152,Tryz.ntmps152
 go_upto_region 1 with(fail)
 rw[HW1.out];by_cases hc:r1 = -1
 . rw[if_neg ak]at eO
   have eF:=ah eO;clear eO key1;exact Z1x
 . by_cases h64:m<=64
   . rw[if_pos ⟨hc,h64⟩]at eO
     replace key1:=key1 h64;rw[eO]at key1;clear key2 eO;have ai0:(m:Int)<=64:=by omega
     go_wp2_with (go_at_call 187;(with_reducible refine key1.mono ?_);rintro e' w4 ⟨⟨b,rfl,gb,hT⟩,hb4⟩)
     go_ret
     exact⟨⟨b,rfl,aJ hsz gb,hT⟩,HB1.out.trans (hb4.mono hsz)⟩
   . rw[if_neg ak]at eO
     have eF:=ah eO;clear eO key1;have ai0:¬ (m:Int)<=64:=by omega
     exact Z1x
theorem Yz(W:World):(isAgg 157).run ja0 W=.ok true W:=by kernel_rfl
theorem YA(W:World):(sizeOf 157).run ja0 W=.ok 6 W:=by kernel_rfl
theorem oJ{S:World->Prop}(p:Operand){s:Re.St}{fl ap:Value}{ib:Bool}(hw:Region.wanted o (yielded ops a.tmps)=true)(ho:o.op=.load 157 p)(hp:a.eval p=.pointer (some ⟨b,55,none⟩))(h:∀X,S X->aL X b s fl ap ib):aj.Reads ja0 ops S o (.agg #[s.c 3,s.c 4,s.c 7,s.c 8,s.c 11,s.c 12]) a :=
 .inl ⟨hw,λX hX=>fM Yz YA p ho hp rfl λj hj=>by
  obtain⟨l2,c0,c1,c2,c3,c4,c5,_⟩:=At.bx0 (h X hX)
  match j,hj with
  | 0,_=>exact c0
  | 1,_=>exact c1
  | 2,_=>exact c2
  | 3,_=>exact c3
  | 4,_=>exact c4
  | 5,_=>exact c5⟩
theorem Ql{S:World->Prop}(p:Operand){s:Re.St}{fl ap:Value}{ib:Bool}(hw:Region.wanted o (yielded ops a.tmps)=true)(ho:o.op=.load 157 p)(hp:a.eval p=.pointer (some ⟨b,61,none⟩))(h:∀X,S X->aL X b s fl ap ib):aj.Reads ja0 ops S o (.agg #[s.c 5,s.c 6,s.c 9,s.c 10,s.c 13,s.c 14]) a :=
 .inl ⟨hw,λX hX=>fM Yz YA p ho hp rfl λj hj=>by
  obtain⟨l2,c0,c1,c2,c3,c4,c5,_⟩:=At.bx1 (h X hX)
  match j,hj with
  | 0,_=>exact c0
  | 1,_=>exact c1
  | 2,_=>exact c2
  | 3,_=>exact c3
  | 4,_=>exact c4
  | 5,_=>exact c5⟩
section
variable {Y:p9} {B:Int->Fw.Bx} {D:Int->Prop} {KM:World->Nat->Prop}
theorem Sd(hK:∀(X X':World) (b:Nat),KM X b->Below X X X'->KM X' b)(z k i0 i1:Int)(hz:D z)(hk:D k)(bk:Nat)(hbk:bk=Y.bl k)(w:World)(hR:RO w Y B D KM) :
  Calls ja0 151 #[Y.lb,.agg #[z,i0,i1],bk] w λe w'=>e=.returned (.agg #[Fw.lJ B z i0 k,.int .i64 (-1)])/\Below w w w':=by
 obtain⟨ans,eO⟩:=aA (Fw.lJ B z i0 k);rw[eO];unfold Fw.lJ Fw.Kw at eO;obtain⟨sk,hsk⟩:=aA ((B k).sty);obtain⟨sz,hsz⟩:=aA ((B z).sty);rw[hsk,hsz]at eO;simp only[Nat.mul_zero,Nat.add_zero]at eO;have eF:=ah eO;have HBK:=ah hbk;have HSK:=ah hsk;have HSZ:=ah hsz;clear eO hbk hsk hsz;go_enter Tryz.func151,Tryz.ntmps151
 go_upto_region 1 with(fail)
 generalize hW:World.alloc _ _=W0;have A0:At W0 w (.cells #[z,i0,i1] 99):=hW▸At.alloc (At.new _ _) _;have A1:At W0 (w.heap.size+1) (.cells #[(),()] 95):=hW▸At.new' _ aW;have hB0:Below w w W0:=hW▸aB (aB aD _) _;clear hW
 go_upto_region 2 with(go_at_call 46;(with_reducible refine(kV _).mono ?_);rintro e' w4 ⟨rfl,hb4⟩)
 generalize hW:World.alloc _ _=W1;have A2:At W1 w4 (.cells #[.int .i64 (-1),.int .i64 (-1)] 95):=hW▸At.new _ _;have hb5:Below W0 W0 W1:=hW▸(hb4.trans (Below.mono (aB aD _) hb4.size));clear hW;have gS:W0.heap.size<=w4.heap.size:=hb4.size;generalize w4.heap.size=T at *;clear hb4;have l1':=A1.lt;have hnT:w.heap.size+1≠T:=by omega
 have akO:w.heap.size≠T:=by omega
 have hgT:w.heap.size<=T:=by omega
 replace A0:=A0.keep hb5;replace A1:=A1.keep hb5;have hB1:Below w w W1:=Below.ay hB0 aC hb5;have sU:=hR.keep hK hB1;have hbx:=(sU.box k hk).1;rw[<-HBK.out,HSK.out]at hbx;have hbz:=(sU.box z hz).1;obtain⟨bz,aep⟩:=aA (Y.bl z);rw[aep,HSZ.out]at hbz;have hlk:=λX (h:Below W1 W1 X)=>(sU.keep hK h).look hz;simp only[aep]at hlk;have c44:W1.cell? ⟨bz,44,none⟩=some (.int .i64 (sz.c 44)):=aL.int hbz 44 ak rfl;have Kt:=aL.lt hbz;have JV:=sU.lay;generalize Y.vf k=vf at hbx;generalize Y.va k=va at hbx;generalize (B k).ib=ib at hbx;have pG:=ah hbx;obtain⟨l2,bS,bX,bY,bZ,cu,cK,bU,bV⟩:=At.bx0 hbx;obtain⟨lY,xC,xD,zy,zA,zB,zC⟩:=At.six JV;have c0:=A0.lc;clear hbx hbz JV sU hR hB0 aep hb5;have hSd:Below W1 W1 W1.drew:=Below.drew aD;cases hfx:Fx.dD (sk.c 3) i0 with
 | true =>
   have E:Hid (-1=ans):=ah (by rw[<-eF.out,hfx];simp);have V6:=ah hfx;clear hfx eF;refine iC (S:=λX=>Below W1 W1 X) 24 ?_ ?_
   . exact hSd
   intro hx;clear hSd;refine aF 0 ?_;refine aF 1 ?_;refine aF 2 ?_;refine aF 3 ?_;refine jh 4 rfl (oJ (.tmp 12) aR rfl rfl (λX h=>pG.out.keep h)) ?_;refine aF 5 ?_;refine aF 6 ?_;refine aF 7 ?_;refine tk1 8 ?_;refine aj.Step.call Z42 (jY _ _ _ _ _ _ _ _) ?_;rintro e' w6 ⟨rfl,hb⟩;rw[V6.out];replace hx:=Below.ay hx aC hb;clear hb;refine⟨_,rfl,λ_=>hx,?_⟩
   (try simp only[bM,bN,bO,tks])
   refine aF 9 ?_;refine aF 10 ?_;refine aF 11 ?_;refine aF 12 ?_;refine aF 13 ?_;refine aF 14 ?_;refine aF 15 ?_;refine aF 16 ?_;refine aF 17 ?_;exact Zf
 | false =>
   have V6:=ah hfx;by_cases h44:sz.c 44=0
   . have E:Hid (-1=ans):=ah (by rw[<-eF.out,hfx,h44];simp)
     clear hfx eF;refine iC (S:=λX=>Below W1 W1 X) 24 ?_ ?_
     . exact hSd
     intro hx;clear hSd;refine aF 0 ?_;refine aF 1 ?_;refine aF 2 ?_;refine aF 3 ?_;refine jh 4 rfl (oJ (.tmp 12) aR rfl rfl (λX h=>pG.out.keep h)) ?_;refine aF 5 ?_;refine aF 6 ?_;refine aF 7 ?_;refine tk1 8 ?_;refine aj.Step.call Z42 (jY _ _ _ _ _ _ _ _) ?_;rintro e' w6 ⟨rfl,hb⟩;rw[V6.out];replace hx:=Below.ay hx aC hb;clear hb;refine⟨_,rfl,λ_=>hx,?_⟩
     (try simp only[bM,bN,bO,tks])
     refine aF 9 ?_;refine aF 10 ?_;refine aF 11 ?_;refine aF 12 ?_;refine aF 13 ?_;refine aF 14 ?_;refine aF 15 ?_;refine aF 16 ?_;refine jh 17 rfl (aZ aR rfl rfl rfl (λX h=>hlk X h)) ?_;exact Zf
   . have E:Hid (Fw.byc sk i0=ans):=ah (by rw[<-eF.out,hfx,if_pos ⟨rfl,h44⟩])
     clear hfx eF;refine iC (S:=λX=>Below W1 W1 X) 24 ?_ ?_
     . exact hSd
     intro hx;clear hSd;refine aF 0 ?_;refine aF 1 ?_;refine aF 2 ?_;refine aF 3 ?_;refine jh 4 rfl (oJ (.tmp 12) aR rfl rfl (λX h=>pG.out.keep h)) ?_;refine aF 5 ?_;refine aF 6 ?_;refine aF 7 ?_;refine tk1 8 ?_;refine aj.Step.call Z42 (jY _ _ _ _ _ _ _ _) ?_;rintro e' w6 ⟨rfl,hb⟩;rw[V6.out];replace hx:=Below.ay hx aC hb;clear hb;refine⟨_,rfl,λ_=>hx,?_⟩
     (try simp only[bM,bN,bO,tks])
     refine aF 9 ?_;refine aF 10 ?_;refine aF 11 ?_;refine aF 12 ?_;refine aF 13 ?_;refine aF 14 ?_;refine aF 15 ?_;refine aF 16 ?_;refine jh 17 rfl (aZ aR rfl rfl rfl (λX h=>hlk X h)) ?_;refine aF 18 ?_;refine aF 19 ?_;refine aF 20 ?_;refine aF 21 ?_;refine aF 22 ?_;refine aF 23 ?_;refine gZ ?_;replace A0:=A0.keep hx;replace A1:=A1.keep hx;replace A2:=A2.keep hx;have hBx:Below w w _:=Below.ay hB1 aC hx;clear c0 lY xC xD zy zA zB zC l2 bS bX bY bZ cu cK bU bV c44 Kt hlk;have ai1:=ah (pG.out.keep hx);have c0:=A0.lc
     go_upto_region 4 with(go_at_call 119;(with_reducible refine(Mr bk sk vf va ib i0 i1 _ ai1.out).mono ?_);rintro e' w7 ⟨rfl,hb⟩;replace A1:=A1.keep hb;replace A2:=A2.keep hb;have c3:=A2.lc;have zT:=A2.thaw 0)
     generalize hW:World.setCell _ _ _=W8;replace A2:At W8 T (.cells #[Fw.byc sk i0,.int .i64 (-1)] 95):=hW▸At.set A2 0 _;replace A1:At W8 (w.heap.size+1) (.cells #[(),()] 95):=hW▸At.off A1 hnT _ _;have hB9:Below w w W8:=by
      rw[<-hW];exact Below.setCell (Below.ay hBx aC hb) hgT _
     clear hW zT c3 c0 hb;have c3:=A2.lc;have c4:=A1.lc;have aaQ:=A1.thaw 0;have aaR:=A1.thaw 1;have lw:w.heap.size+1<w.heap.size+1+1:=by omega
     go_wp2;generalize hW:World.setCell _ _ _=W6;replace A1:At W6 (w.heap.size+1) (.cells #[Fw.byc sk i0,.int .i64 (-1)] 95):=hW▸At.set (At.set A1 0 _) 1 _;have zm:Below w w W6:=by
      rw[<-hW];exact Below.setCell (Below.setCell hB9 lG _) lG _
     exact Z2c
end
def wU(l:List Fw.Ld):List Value:=l.flatMap λx=>(dV x).toList
theorem Ia(l:List Fw.Ld)(x:Fw.Ld):wU (l++[x])=wU l++(dV x).toList:=by simp[wU]
theorem YB(l:List Fw.Ld):∀i (h:i<l.length) j,j<7->(wU l)[i*7+j]? = (dV l[i])[j]? := by
 induction l with
 | nil=>intro i h;simp at h
 | cons x l ih =>
   intro i h j hj;have e:wU (x::l)=(dV x).toList++wU l:=rfl;rw[e];cases i with
   | zero =>
     rw[List.getElem?_append_left (by simp[dV];omega),Array.getElem?_toList];simp
   | succ i =>
     rw[List.getElem?_append_right (by simp[dV];omega)];have e2:(i+1)*7+j-(dV x).toList.length=i*7+j:=by simp[dV];omega
     rw[e2,ih i (by simpa using h) j hj];rfl
theorem U8{W:World}{base:Nat}{v:Value}{l:List Fw.Ld}(x:Fw.Ld)(hown:W.ownsRow base 101 7 v l.length (wU l))(hbase:base<=W.heap.size)(hk:l.length<=10000) :
  ∃g c w',(Builtin.append_ #[165,165] 165 #[v,.slice W 1 1]).run ja0 (W.alloc (.cells (dV x) 101))=.ok (.slice (some ⟨g,0,none⟩) (l.length+1) c) w'/\w'.ownsRow base 101 7 (.slice (some ⟨g,0,none⟩) (l.length+1) c) (l++[x]).length (wU (l++[x]))/\Out (λb=>v.ownBlock=some b) (W.alloc (.cells (dV x) 101)) w':=by
 obtain⟨i0,hi0,hz0,hz1,hz2⟩:=info_parts P9;have hA:=At.new W (.cells (dV x) 101)
 obtain⟨v',w',hr,ho,hg,_,_⟩:=run_append_own_at (P:=ja0) (w:=W.alloc (.cells (dV x) 101)) base 165 165 101 i0 _ 7 56 Tryz.underlying165 hi0 hz0 hz1 hz2 rfl aG v l.length _ (hown.alloc _) ⟨W,0,none⟩ 1 1 (dV x).toList rfl
  (by intro j u hj
      rw[addr_add,Nat.zero_add,hA.cell,<-hj,Array.getElem?_toList])
  (ou x) Oi ak iJ
 obtain⟨g,c,rfl⟩:=ownsRow_succ ho;refine⟨g,c,w',hr,?_,Out.grown hg λb h=>h⟩;rw[Ia,ja7];exact ho
theorem MX{base:Nat}{v:Value}{l:List Fw.Ld}(h:w.ownsRow base 101 7 v l.length (wU l))(hl:l≠[]):∃R cap cs,v=.slice (some ⟨R,0,none⟩) l.length cap/\v.ownBlock=some R/\base<=R/\At w R (.cells cs 101)/\nH cs l:=by
 rcases h.2 with⟨rfl,h0⟩|⟨g,cap,cur,rfl,hb,hgb,hnc,hcm,hsz,htk⟩
 . exact absurd (List.length_eq_zero_iff.1 h0) hl
 . refine⟨g,cap,cur,rfl,rfl,hb,hgb,?_,λi hi j hj => ?_⟩
   . rw[hsz];exact Nat.mul_le_mul_right 7 hnc
   . have e:=YB l i hi j hj
     rw[<-htk,List.getElem?_take,if_pos ak,Array.getElem?_toList]at e;exact e
theorem uF{rest:List Oper}{Q:Exit->Act->World->Prop}(hw:Region.wanted o (yielded ops a.tmps)=true)(x:Operand)(ho:o.op=.buildSlice 165 1 #[(0,x)]){y:Fw.Ld}(hx:a.eval x=.agg (dV y))
  (h:wpList ja0 ops Q rest (a.put o.dst (.slice w 1 1)) (w.alloc (.cells (dV y) 101))):wpList ja0 ops Q (o::rest) a w:=by
 have hrun:(execOp a.eval o).run ja0 w=.ok (.value (.slice w 1 1)) (w.alloc (.cells (dV y) 101)):=by
  unfold execOp;simp only[ho];generalize a.eval=ev at *;unfold dV at hx ⊢;go_simp
 exact Z2l
theorem Qm{r:Int}{e e':Nat->Int}{n:Nat}(h:∀i,i<n->e i=e' i):oK r e n=oK r e' n:=by
 induction n with
 | zero=>rfl
 | succ n ih=>simp only[oK];rw[ih λi hi=>h i ak,h n ak]
theorem Ib(h:Int->Int)(r:Int)(l:List Int):l.foldl (λa k=>Fw.wr (a-h k)) r=oK r (λi=>h (l.getD i 0)) l.length:=by
 have key:∀n,n<=l.length->(l.take n).foldl (λa k=>Fw.wr (a-h k)) r=oK r (λi=>h (l.getD i 0)) n:=by
  intro n
  induction n with
  | zero=>intro _;rfl
  | succ n ih =>
    intro hn;have hn':n<l.length:=hn;rw[List.take_succ_eq_append_getElem hn',List.foldl_append,ih ak];simp[oK,List.getD,ja6 hn']
 have:=key l.length aC
 rwa [List.take_length]at this
def Ic(B:Int->Fw.Bx)(f:Nat)(z i0 i1 k:Int):Fe.It:=Fw.asI (B k).sty 1 (Fw.wr ((Fw.lay B f k i0 i1 (Fw.lJ B z i0 k) (-1)).s1-Fw.wD (B k).sty 1)) i1
def Wq(B:Int->Fw.Bx)(f:Nat)(z i0 i1:Int)(x:Im):Im:={ x with it:=Ic B f z i0 i1 x.ld.id,ld:=Fw.lay B f x.ld.id i0 i1 (Fw.lJ B z i0 x.ld.id) (-1) }
def clB(B:Int->Fw.Bx)(f:Nat)(z i0 i1:Int)(sz:List Int)(i:Nat)(x:Im):Im:={ x with ld:=Fw.lay B f x.ld.id i0 i1 (Fw.lJ B z i0 x.ld.id) (Fw.wr (sz.getD i 0+Fw.wD (B x.ld.id).sty 1)) }
def clE(al i0:Int)(st:List Int)(i:Nat)(x:Im):Fw.Ld:={ x.ld with a0:=Fw.wr (Ju.across al (Bd x) i0+x.m0),a1:=Fw.wr (st.getD i 0+x.m2) }
def clS(B:Int->Fw.Bx)(f:Nat)(z i0 i1:Int)(fl:List Int):List Int:=yU (λi=>Ic B f z i0 i1 (fl.getD i 0)) (λi=>Fw.TI B i0 1 (fl.getD i 0)) fl.length i1 ((B z).sty.c 46)
theorem MZ(B:Int->Fw.Bx)(i0 r gap:Int)(it:Int->Fe.It)(fl:List Int):yU (λi=>it (fl.getD i 0)) (λi=>Fw.TI B i0 1 (fl.getD i 0)) fl.length r gap=if r ≠ -1/\fl.length<=64 then Fw.uY B i0 r gap 1 it fl else fl.map λk=>Fe.clamp (it k) (it k).b:=by
 unfold yU Fw.uY Fw.left;split
 . rw[Ib];rfl
 . unfold Ju.row
   exact jb5 aW λi h1 h2=>by
    have h3:i<fl.length:=by simpa using h2
    simp[List.getD,ja6 h3]
theorem Gj(Y:p9)(B:Int->Fw.Bx)(f:Nat)(z i0 i1:Int)(fl:List Int)(hfl:(B z).fl=fl)(sz:List Int)(hsz:clS B f z i0 i1 fl=sz)(zs:List Im)(hzs:((gH Y B i0 fl).map (Wq B f z i0 i1)).mapIdx (clB B f z i0 i1 sz)=zs)(high:Int)(hh:Li.long ((B z).sty.c 46) (nG zs)=high) :
  Fw.sN B (Fw.lay B f) z i0 i1=(zs.mapIdx (clE ((B z).sty.c 44) i0 (Ju.row (Ju.starts ((B z).sty.c 43) (if i1 = -1 then high else i1) ((B z).sty.c 46) (nG zs)) zs.length)),high):=by
 unfold Fw.sN;simp only[hfl];have e1:=MZ B i0 i1 ((B z).sty.c 46) (Ic B f z i0 i1) fl;have e2:clS B f z i0 i1 fl=_:=e1;rw[hsz]at e2;have e3:(if i1 ≠ -1/\fl.length<=64 then Fw.uY B i0 i1 ((B z).sty.c 46) 1 (λk=>Fw.asI (B k).sty 1 (Fw.wr ((Fw.lay B f k i0 i1 (Fw.lJ B z i0 k) (-1)).s1-Fw.wD (B k).sty 1)) i1) fl else fl.map λk=>Fe.clamp ((λk=>Fw.asI (B k).sty 1 (Fw.wr ((Fw.lay B f k i0 i1 (Fw.lJ B z i0 k) (-1)).s1-Fw.wD (B k).sty 1)) i1) k) ((λk=>Fw.asI (B k).sty 1 (Fw.wr ((Fw.lay B f k i0 i1 (Fw.lJ B z i0 k) (-1)).s1-Fw.wD (B k).sty 1)) i1) k).b)=sz:=e2.symm;simp only[]at e3 ⊢;rw[e3];have hlen:zs.length=fl.length:=by rw[<-hzs];simp[gH]
 have hget:∀i (h:i<zs.length) (h':i<fl.length),zs[i]=clB B f z i0 i1 sz i (Wq B f z i0 i1 (vN Y B i0 fl[i])):=λi h h'=>by
  subst hzs;simp[gH]
 have hlong:(fl.mapIdx λi k=>Fw.lay B f k i0 i1 (Fw.lJ B z i0 k) (Fw.wr (sz.getD i 0+Fw.wD (B k).sty 1))).map (Fw.Dv B i0 1)=nG zs:=by
  unfold nG
  exact jb5 (by simp[hlen]) λi h1 h2=>by
   have h3:i<fl.length:=by simpa using h1
   have h4:i<zs.length:=by rw[hlen];exact h3
   simp only[List.getElem_map,List.getElem_mapIdx];rw[hget i h4 h3];rfl
 rw[hlong,hh];congr 1
 exact jb5 (by simp[hlen]) λi h1 h2=>by
  have h3:i<fl.length:=by simpa using h1
  have h4:i<zs.length:=by rw[hlen];exact h3
  simp only[List.getElem_mapIdx];rw[hget i h4 h3];unfold clE;rw[Ju.Ji _ h4];rfl
theorem YC{B:Int->Fw.Bx}{f:Nat}{l l':List Im}(h:l.map (·.ld.id)=l'.map (·.ld.id))(k:Nat):iK B f l k=iK B f l' k:=by
 unfold iK;have e:∀m:List Im,(m.take k).map (λx=>Fw.cst B f x.ld.id)=((m.map (·.ld.id)).take k).map (Fw.cst B f):=λm=>by rw[<-List.map_take,List.map_map];rfl
 rw[e,e,h]
section
variable {Y:p9} {B:Int->Fw.Bx} {F:Int->Nat} {D:Int->Prop} {f:Nat}
theorem Sg{i0 k:Int}(hd:D k)(hf:F k=f):MQ Y B D F f i0 (vN Y B i0 k):=⟨hd,hf,rfl,rfl,rfl,rfl,rfl⟩
theorem abZ{z i0 i1:Int}{x:Im}(h:MQ Y B D F f i0 x):MQ Y B D F f i0 (Wq B f z i0 i1 x):=⟨h.d,h.f,h.bx,h.m0,h.m1,h.m2,h.m3⟩
theorem ab0{z i0 i1:Int}{sz:List Int}{x:Im}(i:Nat)(h:MQ Y B D F f i0 x):MQ Y B D F f i0 (clB B f z i0 i1 sz i x):=⟨h.d,h.f,h.bx,h.m0,h.m1,h.m2,h.m3⟩
end
end Go.Proofs.YtdnggaapcgomhaaGreat.Fix
namespace Go.Proofs.YtdnggaapcgomhaaGreat.Fe
variable {S T:Nat->St}{n:Nat}
theorem agu(h:∀i,i<n->S i=T i):∀k,k<=n->pl S k=pl T k:=by
 intro k
 induction k with
 | zero=>intro _;rfl
 | succ k ih=>intro hk;simp only[pl];rw[ih ak,h k ak]
theorem agv(gr:Bool)(h:∀i,i<n->S i=T i):∀k,k<=n->ws gr S k=ws gr T k:=by
 intro k
 induction k with
 | zero=>intro _;rfl
 | succ k ih=>intro hk;simp only[ws];rw[ih ak,h k ak]
theorem ab1(room:Int)(h:∀i,i<n->S i=T i):∀k,k<=n->left room S k=left room T k:=by
 intro k
 induction k with
 | zero=>intro _;rfl
 | succ k ih=>intro hk;simp only[left];rw[ih ak,h k ak]
theorem ab2(h:∀i,i<n->S i=T i):∀k,k<=n->made S k=made T k:=by
 intro k
 induction k with
 | zero=>intro _;rfl
 | succ k ih=>intro hk;simp only[made];rw[ih ak,h k ak]
theorem ab3{l l':Nat->It}(h:∀i,i<n->l i=l' i):∀k,k<=n->yA l k=yA l' k:=by
 intro k
 induction k with
 | zero=>intro _;rfl
 | succ k ih=>intro hk;simp only[yA];rw[ih ak,h k ak]
theorem YD(gr:Bool)(room:Int)(h:∀i,i<n->S i=T i):∀i,i<n->round gr room n S i=round gr room n T i:=by
 have h1:∀i,i<n->shared gr room n S i=shared gr room n T i:=by
  intro i hi;unfold shared gP parts free want;rw[ab1 room h n aC,agv gr h n aC,agu h i ak,h i hi]
 intro i hi;unfold round froze;rw[ab2 h1 n aC,h1 i hi]
theorem U9(gr:Bool)(room:Int)(h:∀i,i<n->S i=T i)(k:Nat):∀i,i<n->rounds gr room n S k i=rounds gr room n T k i:=by
 induction k with
 | zero=>exact h
 | succ k ih=>exact YD gr room ih
theorem aer{l l':Nat->It}(room:Int)(h:∀i,i<n->l i=l' i):∀i,i<n->fin l n room i=fin l' n room i:=by
 have hg:Dq l n room=Dq l' n room:=by unfold Dq;rw[ab3 h n (aH _)]
 intro i hi;unfold fin;rw[hg];exact U9 _ _ (λi hi=>by unfold begun;rw[h i hi]) n i hi
end Go.Proofs.YtdnggaapcgomhaaGreat.Fe
namespace Go.Proofs.YtdnggaapcgomhaaGreat.Fix
open Go.ChangeShapes Go.WideShapes Go.ChangeAt Go.RowKit
open Go.Proofs.Tryz renaming prog → ja0
open List renaming getElem?_eq_getElem → ja6,length_append → ja7,ext_getElem → jb5,length_map → jb7,getElem_mem → jc3,length_take → jc9
theorem Gl{l l':Nat->Fe.It}{n:Nat}(x:Int)(h:∀i,i<n->l i=l' i):kF l n x=kF l' n x:=by
 unfold kF;exact List.map_congr_left λi hi=>by rw[Fe.aer _ h i (by simpa using hi)]
def rwI(Y:p9)(B:Int->Fw.Bx)(i0 k:Int):Im:={ vN Y B i0 k with it:=Fw.uq B i0 k }
theorem Va(Y:p9)(B:Int->Fw.Bx)(i0 gap:Int)(ks:List Int):lnS B i0 gap (ks.map (rwI Y B i0))=Fw.uY B i0 i0 gap 0 (Fw.uq B i0) ks:=by
 unfold lnS Fw.uY Fw.left;rw[Ib,jb7];have hg:∀i,i<ks.length->(ks.map (rwI Y B i0)).getD i default=rwI Y B i0 (ks.getD i 0):=λi h=>by simp[List.getD,ja6 h]
 rw[Qm (e':=λi=>Fw.TI B i0 0 (ks.getD i 0)) λi h=>by rw[hg i h];rfl];exact Gl _ λi h=>by rw[hg i h];rfl
theorem Gm(Y:p9)(B:Int->Fw.Bx)(f:Nat)(z i0 i1 high:Int)(ks:List Int)(s:Re.St)(hs:(B z).sty=s)(xs1 xs2:List Im)(deep:Int)(h1:Ey B f s i0 i1 high (ks.map (rwI Y B i0))=xs1)(h2:JO high xs1=deep)(h3:tJ B f s i0 i1 deep xs1=xs2) :
  Fw.nY B (Fw.lay B f) z i0 i1 high ks=((tK s i0 deep xs2).map (·.ld),deep):=by
 unfold Fw.nY;simp only[hs];unfold Ey at h1;rw[Va]at h1;obtain⟨sz,hsz⟩:=aA (Fw.uY B i0 i0 (s.c 46) 0 (Fw.uq B i0) ks);rw[hsz]at h1 ⊢;have l1:xs1.length=ks.length:=by rw[<-h1];simp
 have g1:∀i (h:i<xs1.length) (h':i<ks.length),xs1[i]=lnF B f i0 i1 sz i (rwI Y B i0 ks[i]):=λi h h'=>by subst h1;simp
 have e1:(ks.mapIdx λi k=>Fw.lay B f k i0 i1 (Fw.wr (sz.getD i 0+Fw.wD (B k).sty 0)) (-1))=xs1.map (·.ld):=jb5 (by simp[l1]) λi a b=>by
  have a':i<ks.length:=by simpa using a
  simp only[List.getElem_mapIdx,List.getElem_map];rw[g1 i (by rw[l1];exact a') a'];rfl
 rw[e1]
 have m1:∀x∈xs1,x.m0=Fw.mg (B x.ld.id).sty 0 0 i0/\x.m1=Fw.mg (B x.ld.id).sty 0 1 i0/\x.m2=Fw.mg (B x.ld.id).sty 1 0 i0/\x.m3=Fw.mg (B x.ld.id).sty 1 1 i0:=λx hx=>by
  obtain⟨i,hi,rfl⟩:=List.getElem_of_mem hx;rw[g1 i hi ak];exact⟨rfl,rfl,rfl,rfl⟩
 have o1:∀x:Im,(x.m0=Fw.mg (B x.ld.id).sty 0 0 i0/\x.m1=Fw.mg (B x.ld.id).sty 0 1 i0/\x.m2=Fw.mg (B x.ld.id).sty 1 0 i0/\x.m3=Fw.mg (B x.ld.id).sty 1 1 i0)->Bd x=Fw.Dv B i0 0 x.ld/\Bf x=Fw.Dv B i0 1 x.ld/\ext1 x (B x.ld.id).sty=Fw.TI B i0 1 x.ld.id:=λx ⟨q0,q1,q2,q3⟩=>by
  unfold Bd Bf ext1 Fw.Dv Fw.TI Fw.mgs;rw[q0,q1,q2,q3];exact⟨rfl,rfl,rfl⟩
 have e2:(if high = -1 then ((xs1.map (·.ld)).map (Fw.Dv B i0 1)).foldl max 0 else high)=deep:=by
  rw[<-h2];unfold JO nG;congr 2;rw[List.map_map];exact List.map_congr_left λx hx=>((o1 x (m1 x hx)).2.1).symm
 rw[e2];have e3:(if s.c 44=0 then (xs1.map (·.ld)).map (λx=>if Fw.Kw (B x.id).sty 1 i1=true then x else Fw.lay B f x.id i0 i1 x.s0 (Fw.wr (Fw.lim (B x.id).sty 1 (max (Fw.wr (deep-Fw.TI B i0 1 x.id)) 0) i1+Fw.wD (B x.id).sty 1)))else xs1.map (·.ld))=xs2.map (·.ld):=by
  rw[<-h3];unfold tJ;split
  . rw[List.map_map,List.map_map]
    refine List.map_congr_left λx hx => ?_;simp only[Function.comp];unfold Ce;have q:=(o1 x (m1 x hx)).2.2;by_cases hfx:Fx.dD ((B x.ld.id).sty.c 5) i1=true
    . rw[if_pos hfx,if_pos (show Fw.Kw (B x.ld.id).sty 1 i1=true from hfx)]
    . rw[if_neg hfx,if_neg (show¬ Fw.Kw (B x.ld.id).sty 1 i1=true from hfx),q]
      rfl
  . rfl
 rw[e3]
 have m2:∀x∈xs2,x.m0=Fw.mg (B x.ld.id).sty 0 0 i0/\x.m1=Fw.mg (B x.ld.id).sty 0 1 i0/\x.m2=Fw.mg (B x.ld.id).sty 1 0 i0/\x.m3=Fw.mg (B x.ld.id).sty 1 1 i0:=λx hx=>by
  rw[<-h3]at hx;unfold tJ at hx;split at hx
  . obtain⟨y,hy,rfl⟩:=List.mem_map.1 hx
    have:=m1 y hy;unfold Ce;split
    . exact this
    . exact this
  . exact m1 x hx
 have e4:(xs2.map (·.ld)).map (Fw.Dv B i0 0)=uz xs2:=by
  unfold uz;rw[List.map_map];exact List.map_congr_left λx hx=>((o1 x (m2 x hx)).1).symm
 rw[e4];congr 1;unfold tK
 exact jb5 aW λi a b=>by
  have a':i<xs2.length:=by simpa using a
  simp only[List.getElem_mapIdx,List.getElem_map];have q:=m2 xs2[i] (jc3 _);have o:=o1 _ q;unfold lnB;simp only[];rw[Ju.Ji _ a',o.2.1,q.1,q.2.2.1]
theorem Gn{B:Int->Fw.Bx}{lay:Int->Int->Int->Int->Int->Fw.Ld}{z i0 i1 high:Int}{fl:List Int}{fst:Bool}{y:Int}{p:Nat×Nat}{ps:List (Nat×Nat)}{out:List Fw.Ld}{tot:List Fw.Ld×Int}(h:tot=(out++(Fw.dO B lay z i0 i1 high fl fst y (p::ps)).1,(Fw.dO B lay z i0 i1 high fl fst y (p::ps)).2))
  {y1:Int} (hy:(if fst=true then y else Fw.wr (y+(B z).sty.c 46))=y1) {l:List Fw.Ld} {d:Int} (hl:Fw.nY B lay z i0 i1 high ((fl.drop p.1).take (p.2-p.1))=(l,d)) :
  tot=((out++l.map (λx=>{ x with a1:=Fw.wr (x.a1+y1) }))++(Fw.dO B lay z i0 i1 high fl false (Fw.wr (y1+d)) ps).1,(Fw.dO B lay z i0 i1 high fl false (Fw.wr (y1+d)) ps).2):=by
 rw[h];simp only[Fw.dO,hy,hl,List.append_assoc]
theorem JW{B:Int->Fw.Bx}{lay:Int->Int->Int->Int->Int->Fw.Ld}{z i0 i1 high:Int}{fl:List Int}{fst:Bool}{y:Int}:Fw.dO B lay z i0 i1 high fl fst y []=([],y):=rfl
theorem fq.front{cs:Array Value}{q n:Nat}{l:List Im}(h:fq cs q l)(hn:n<=l.length):fq cs q (l.take n):=by
 refine⟨by have:=h.1;rw[jc9];omega,λi hi j hj => ?_⟩;have hi2:i<l.length:=by rw[jc9]at hi;omega
 rw[List.getElem_take];exact h.2 i hi2 j hj
theorem fq.rest{cs cs':Array Value}{q n:Nat}{l:List Im}(h:fq cs q l)(hs:jw q n cs cs')(hn:n<=l.length):fq cs' (q+n*17) (l.drop n):=by
 refine⟨by have:=h.1;have:=hs.1;rw[List.length_drop];omega,λi hi j hj => ?_⟩;have hi2:n+i<l.length:=by rw[List.length_drop]at hi;omega
 rw[List.getElem_drop,hs.2 _ (.inr ak),show q+n*17+i*17+j=q+(n+i)*17+j by omega];exact h.2 (n+i) hi2 j hj
theorem Qn{W:World}{base:Nat}{v:Value}{l:List Fw.Ld}(x:Fw.Ld)(hown:W.ownsRow base 101 7 v l.length (wU l))(hbase:base<=W.heap.size)(hk:l.length<=10000) :
  ∃g c w',(Builtin.append_ #[165,165] 165 #[v,.slice W 1 1]).run ja0 (W.alloc (.cells (dV x) 101))=.ok (.slice (some ⟨g,0,none⟩) (l.length+1) c) w'/\w'.ownsRow base 101 7 (.slice (some ⟨g,0,none⟩) (l.length+1) c) (l++[x]).length (wU (l++[x]))/\Out (λb=>v.ownBlock=some b) (W.alloc (.cells (dV x) 101)) w'/\(v.ownBlock=some g\/W.heap.size<=g):=by
 obtain⟨i0,hi0,hz0,hz1,hz2⟩:=info_parts P9;have hA:=At.new W (.cells (dV x) 101)
 obtain⟨v',w',hr,ho,hg,_,hblk⟩:=run_append_own_at (P:=ja0) (w:=W.alloc (.cells (dV x) 101)) base 165 165 101 i0 _ 7 56 Tryz.underlying165 hi0 hz0 hz1 hz2 rfl aG v l.length _ (hown.alloc _) ⟨W,0,none⟩ 1 1 (dV x).toList rfl
  (by intro j u hj
      rw[addr_add,Nat.zero_add,hA.cell,<-hj,Array.getElem?_toList])
  (ou x) Oi ak iJ
 obtain⟨g,c,rfl⟩:=ownsRow_succ ho;refine⟨g,c,w',hr,?_,Out.grown hg λb h=>h,?_⟩
 . rw[Ia,ja7]
   exact ho
 . rcases hblk with h|h
   . exact .inl h.symm
   . right
     have e:g=W.heap.size+1:=by simpa[Value.ownBlock]using h
     omega
end Go.Proofs.YtdnggaapcgomhaaGreat.Fix
namespace Go.Proofs.YtdnggaapcgomhaaGreat.aj
open Go Fix Go.RowKit
open List renaming mem_cons_of_mem → ja8,mem_cons_self → jb3,all_eq_true → jc0,foldl_cons → jc5,contains_iff_mem → jc6,reverse_reverse → jd0
variable {v:Nat->Value}{listed:Array Bool}{a:Act}{i fuel:Nat}{q:Nat->Bool}{I:List Nat}
section
variable {P:Program} {ops:Array Oper} {Q:Exit->Act->World->Prop} {md:Region.Mode} {S:World->Prop} {m:Nat}
def ko(ops:Array Oper)(i:Nat):Option Tmp:=(ops[i]?).bind (·.dst)
def jT(ops:Array Oper)(v:Nat->Value)(a:Act)(l:List Nat):Act:=l.foldl (λa i=>a.put (ko ops i) (v i)) a
def setOf(s:Array Bool)(l:List Nat):Array Bool:=l.foldl (λs i=>s.setIfInBounds i true) s
def subs:List Nat->List (List Nat)
 | []=>[[]]
 | x::l=>subs l++(subs l).map (x :: ·)
theorem M0(d:Nat->Bool):∀I:List Nat,I.filter d∈subs I
 | []=>by simp[subs]
 | x::l=>by
   rw[List.filter_cons,subs];have:=M0 d l;split
   . exact List.mem_append_right _ (List.mem_map.2 ⟨_,this,rfl⟩)
   . exact List.mem_append_left _ this
def CY(md:Region.Mode)(ops:Array Oper)(listed:Array Bool)(I:List Nat)(dep:Nat->List Nat):Bool :=
 ((subs I).all λD=>D==I || !(D.all λi=>(dep i).all D.contains) ||
   (!(Region.ready md ops (setOf listed D)).isEmpty&&(Region.ready md ops (setOf listed D)).all λi=>I.contains i&&(!D.contains i&&(dep i).all D.contains))) &&
 (I.all λi=>I.all λj=>i==j||((ko ops i).isNone||ko ops i != ko ops j)&&((dep i).contains j||((dep j).contains i||match ops[i]?,ops[j]? with
  | some x,some y=>y.apart ops x
  | _,_=>false)))
theorem Ez{β:Type}(f:β->Nat->β):∀(l:List Nat) (b:β),(∀j∈l,∀c,f (f c i) j=f (f c j) i)->l.foldl f (f b i)=f (l.foldl f b) i
 | [],_,_=>rfl
 | x::l,b,h=>by
   rw[jc5,jc5,h x jb3,Ez f l _ λj hj=>h j (ja8 _ hj)]
theorem xR{β:Type}(f:β->Nat->β){d:Nat->Bool}(hd:d i=false):∀(l:List Nat) (b:β),l.Nodup->i∈l->(∀j∈l,j≠i->∀c,f (f c i) j=f (f c j) i)->(l.filter λj=>j==i||d j).foldl f b=f ((l.filter d).foldl f b) i
 | [],_,_,h,_=>by cases h
 | x::l,b,hn,hi,hc=>by
   rw[List.nodup_cons]at hn;by_cases hx:x=i
   . subst hx
     have e:l.filter (λj=>j==x||d j)=l.filter d:=List.filter_congr λj hj=>by
      have:j≠x:=λh=>hn.1 (h▸hj);simp[this]
     rw[List.filter_cons,List.filter_cons,e];simp only[BEq.rfl,Bool.true_or,if_true,hd,Bool.false_eq_true,if_false,jc5];exact Ez f _ _ λj hj c=>hc j (ja8 _ (List.mem_filter.1 hj).1) (λh=>hn.1 (h▸(List.mem_filter.1 hj).1)) c
   . have hi':i∈l:=by simpa[Ne.symm hx]using hi
     have ih:=λb=>xR f hd l b hn.2 hi' λj hj=>hc j (ja8 _ hj);rw[List.filter_cons,List.filter_cons];have:(x==i||d x)=d x:=by simp[hx]
     rw[this];cases d x
     . exact ih b
     . exact ih _
theorem Bl{ops:Array Oper}{v v':Nat->Value}:∀(l:List Nat) (a:Act),(∀j∈l,v j=v' j)->jT ops v a l=jT ops v' a l
 | [],_,_=>rfl
 | x::l,a,h=>by
   unfold jT at *;rw[jc5,jc5,h x jb3];exact Bl l _ λj hj=>h j (ja8 _ hj)
theorem xS:∀(l:List Nat) (a:Act),(jT ops v a l).tmps.size=a.tmps.size
 | [],_=>rfl
 | x::l,a=>by
   show(jT ops v (a.put (ko ops x) (v x)) l).tmps.size=_;rw[xS l];unfold Act.put;split<;>simp
theorem YE{a a':Act}{d:Option Tmp}{v:Value}{x:Operand}(hs:a.tmps.size=a'.tmps.size)(h:a.eval x=a'.eval x):(a.put d v).eval x=(a'.put d v).eval x:=by
 cases d with
 | none=>exact h
 | some d =>
   by_cases hx:x=.tmp d
   . subst hx
     simp[Act.eval,Act.put,Array.getElem?_setIfInBounds,hs]
   . rw[Act.eval_put λe he h=>hx (by cases he;exact h),Act.eval_put λe he h=>hx (by cases he;exact h)];exact h
theorem EA(l:List Nat)(x:Nat)(a:Act):jT ops v a (l++[x])=(jT ops v a l).put (ko ops x) (v x):=by
 unfold jT;rw[List.foldl_append];rfl
theorem xU{x:Operand}:∀(l:List Nat),(∀j∈l.reverse,q j=true\/∀d,ko ops j=some d->x ≠ .tmp d)->(jT ops v a l.reverse).eval x=(jT ops v a (l.reverse.filter q)).eval x
 | [],_=>rfl
 | y::l,h=>by
   rw[List.reverse_cons,EA,List.filter_append];have ih:=xU l λj hj=>h j (by rw[List.reverse_cons];exact List.mem_append_left _ hj);cases hy:q y
   . rw[List.filter_cons,hy]
     simp only[Bool.false_eq_true,if_false,List.filter_nil,List.append_nil];rw[Act.eval_put,ih];exact λd hd=>(h y aW).resolve_left (by simp[hy]) d hd
   . rw[List.filter_cons,hy]
     simp only[if_true,List.filter_nil];rw[EA];exact YE (by rw[xS,xS]) ih
def YF(P:Program)(ops:Array Oper)(S:World->Prop)(m:Nat)(a:Act)(dep:Nat->List Nat)(I:List Nat)(Inv:(Nat->Bool)->(Nat->Value)->World->Prop)(i:Nat):Prop:=∃o,ops.toList[i]? = some o/\o.guard=none/\∀d v w,Inv d v w->(∀j∈dep i,d j=true)->d i=false->Step P (λu w'=>(i<m->S w')/\Inv (λj=>j==i||d j) (λj=>if j=i then u else v j) w') ((execOp (jT ops v a (I.filter (dep i).contains)).eval o).run P w)
def Each(p:Nat->Prop):List Nat->Prop
 | []=>True
 | i::l=>p i/\Each p l
theorem Each.at{p:Nat->Prop}:∀{l:List Nat},Each p l->i∈l->p i
 | [],_,h=>by cases h
 | x::l,hs,h=>by
   rcases List.mem_cons.1 h with rfl|h
   . exact hs.1
   . exact hs.2.at h
theorem Qo{d:Nat->Bool}{i n:Nat}(hd:d i=false):∀(l:List Nat),l.Nodup->i∈l->(l.filter λj => !d j).length=n+1->(l.filter λj => !(j==i||d j)).length=n
 | l,hn,hi,h=>by
   have e:(l.filter λj => !(j==i||d j))=(l.filter λj => !d j).erase i:=by
    rw[List.Nodup.erase_eq_filter (hn.filter _),List.filter_filter];exact List.filter_congr λj _=>by cases d j<;>simp[bne]
   rw[e,List.length_erase_of_mem (List.mem_filter.2 ⟨hi,by simp[hd]⟩),h];rfl
theorem Si(I:List Nat)(dep:Nat->List Nat)(Inv:(Nat->Bool)->(Nat->Value)->World->Prop)
  (hc:CY md ops listed I dep=true) (hns:Region.noSelect ops=true) (hn:I.Nodup) (hst:∀i∈I,YF P ops S m a dep I Inv i)
  (hend:∀d v w,(∀i∈I,d i=true)->Inv d v w->bq P md ops Q S m fuel (setOf listed I) (jT ops v a I) w) :
  ∀(n:Nat) (d:Nat->Bool) (v:Nat->Value) (w:World),(I.filter λi => !d i).length=n->Inv d v w->(∀i∈I,d i=true->∀j∈dep i,j∈I/\d j=true)->bq P md ops Q S m (fuel+n) (setOf listed (I.filter d)) (jT ops v a (I.filter d)) w:=by
 obtain⟨hc1,hc2⟩:_/\_:=by simpa only[CY,Bool.and_eq_true]using hc
 intro n
 induction n with
 | zero =>
   intro d v w hl hI _
   have hall:∀i∈I,d i=true:=λi hi=>by
    have h0:=List.eq_nil_of_length_eq_zero hl;rw[List.filter_eq_nil_iff]at h0;simpa using h0 i hi
   rw[List.filter_eq_self.2 hall];exact hend d v w hall hI
 | succ n ih =>
   intro d v w hl hI hcl
   have hne:I.filter d≠I:=λe=>by
    rw[List.filter_eq_self]at e;have:I.filter (λi => !d i)=[]:=List.filter_eq_nil_iff.2 λi hi=>by simp[e i hi]
    rw[this]at hl;cases hl
   have h1:=List.all_eq_true.1 hc1 _ (M0 d I);have ai2:((I.filter d).all λi=>(dep i).all (I.filter d).contains)=true:=by
    rw[jc0];intro i hi;rw[jc0];intro j hj;obtain⟨hi1,hi2⟩:=List.mem_filter.1 hi;rw[jc6];exact List.mem_filter.2 (hcl i hi1 hi2 j hj)
   rw[ai2,beq_false_of_ne hne]at h1;simp only[Bool.not_true,Bool.or_false,Bool.false_or,Bool.and_eq_true,Bool.not_eq_true',List.isEmpty_eq_false_iff,jc0,jc6]at h1;refine⟨h1.1,λi hi => ?_⟩;obtain⟨hiI,hiD,ai3⟩:=h1.2 i hi;have hd:d i=false:=by
    cases e:d i with
    | false=>rfl
    | true=>rw[show(I.filter d).contains i=true from List.contains_iff_mem.2 (List.mem_filter.2 ⟨hiI,e⟩)]at hiD;cases hiD
   have hdd:∀j∈dep i,j∈I/\d j=true:=λj hj=>List.mem_filter.1 (ai3 j hj);obtain⟨o,ho,hg,hstep⟩:=hst i hiI;have ho':=sQ ho;have hdst:ko ops i=o.dst:=by unfold ko;rw[ho'];rfl
   have pair:∀j∈I,j≠i->((ko ops j).isNone=true\/ko ops j≠ko ops i)/\(i∈dep j\/j∈dep i\/∃y,ops[j]? = some y/\o.apart ops y=true):=λj hj hji=>by
    have:=List.all_eq_true.1 (List.all_eq_true.1 hc2 j hj) i hiI;simp only[beq_false_of_ne hji,Bool.false_or,Bool.and_eq_true,Bool.or_eq_true,bne_iff_ne,jc6,ho']at this;refine⟨this.1,this.2.imp id λh=>h.imp id λh => ?_⟩;cases hy:ops[j]? with
    | none=>rw[hy]at h;cases h
    | some y=>rw[hy]at h;exact⟨y,rfl,h⟩
   refine⟨o,ho',.inl ⟨by unfold Region.wanted;rw[hg],?_⟩⟩;have heq:execOp (jT ops v a (I.filter d)).eval o=execOp (jT ops v a (I.filter (dep i).contains)).eval o:=by
    refine execOp_congr o (λcs b e => ?_) λx hx => ?_
    . exact Region.noSelect_spec hns i o cs b ho' e
    . have:=xU (ops:=ops) (v:=v) (a:=a) (x:=x) (q:=(dep i).contains) (I.filter d).reverse (λj hj=>by
       rw[jd0]at hj;obtain⟨hj1,hj2⟩:=List.mem_filter.1 hj;have hji:j≠i:=λe=>by rw[e,hd]at hj2;cases hj2
       rcases(pair j hj1 hji).2 with h|h|⟨y,hy,hap⟩
       . have:=(hcl j hj1 hj2 i h).2;rw[hd]at this;cases this
       . exact .inl (List.contains_iff_mem.2 h)
       . refine .inr λdd hdd hxe => ?_
         obtain⟨a1,a2,a3⟩:=Oper.apart_spec hap;have:y.dst=some dd:=by unfold ko at hdd;rw[hy]at hdd;exact hdd
         refine a3 dd this ?_;subst hxe
         exact List.mem_append_left _ (List.mem_filterMap.2 ⟨.tmp dd,by simpa using hx,rfl⟩))
      rw[jd0,List.filter_filter]at this;rw[this];congr 2
      exact List.filter_congr λj hj=>by
       cases hq:(dep i).contains j with
       | false=>rfl
       | true=>simp[(hdd j (List.contains_iff_mem.1 hq)).2]
   rw[heq];refine(hstep d v w hI (λj hj=>(hdd j hj).2) hd).mono λu w' ⟨hS,hI'⟩=>⟨hS,?_⟩
   have key:=ih (λj=>j==i||d j) (λj=>if j=i then u else v j) w' (Qo hd I hn hiI hl) hI' (λj hj hjd k hk=>by
    simp only[Bool.or_eq_true,beq_iff_eq]at hjd;rcases hjd with h|h
    . subst h
      exact⟨(hdd k hk).1,by simp[(hdd k hk).2]⟩
    . exact⟨(hcl j hj h k hk).1,by simp[(hcl j hj h k hk).2]⟩)
   have e1:setOf listed (I.filter λj=>j==i||d j)=(setOf listed (I.filter d)).setIfInBounds i true :=
    xR (λ(s:Array Bool) i=>s.setIfInBounds i true) hd I listed hn hiI λj _ hji c=>Array.setIfInBounds_comm _ _ (Ne.symm hji)
   have e2:jT ops (λj=>if j=i then u else v j) a (I.filter λj=>j==i||d j)=(jT ops v a (I.filter d)).put o.dst u:=by
    have:=xR (λa j=>a.put (ko ops j) (if j=i then u else v j)) hd I a hn hiI λj hj hji c =>
     (Act.put_comm c (x:=ko ops i) (y:=ko ops j) (if i=i then u else v i) (if j=i then u else v j) λdd h1 h2=>by
      rcases(pair j hj hji).1 with h|h
      . rw[h2]at h;cases h
      . exact h (h2.trans h1.symm))
    show(I.filter λj=>j==i||d j).foldl _ a=_;rw[this,hdst];simp only[if_true];congr 1
    exact Bl (ops:=ops) (I.filter d) a λj hj=>by
     have:j≠i:=λe=>by rw[e,List.mem_filter,hd]at hj;cases hj.2
     rw[if_neg this]
   rw[e1,e2]at key;exact key
def xV(a:Act):List Tmp->List Value->Act
 | t::ts,x::xs=>xV (a.put (some t) x) ts xs
 | _,_=>a
theorem mR(a:Act):xV a [] []=a:=rfl
theorem jC(a:Act)(t:Tmp)(ts:List Tmp)(x:Value)(xs:List Value):xV a (t::ts) (x::xs)=xV (a.put (some t) x) ts xs:=rfl
theorem oG(s:Array Bool):setOf s []=s:=rfl
theorem mU(s:Array Bool)(i:Nat)(l:List Nat):setOf s (i::l)=setOf (s.setIfInBounds i true) l:=rfl
theorem tL:∀(I:List Nat) (T:List Tmp) (a:Act),I.map (ko ops)=T.map some->jT ops v a I=xV a T (I.map v)
 | [],[],_,_=>rfl
 | [],_::_,_,h=>by cases h
 | _::_,[],_,h=>by cases h
 | i::l,t::ts,a,h=>by
   simp only[List.map_cons,List.cons.injEq]at h;rw[List.map_cons,jC,<-tL l ts _ h.2,<-h.1];rfl
theorem Sj{t:Tmp}{x:Value}(hI:I.filter q=[i])(hd:ko ops i=some t)(hv:v i=x):jT ops v a (I.filter q)=a.put (some t) x:=by
 rw[hI,<-hv];unfold jT;rw[jc5,hd];rfl
theorem YG{w:World}(n:Nat)(I:List Nat)(T:List Tmp)(dep:Nat->List Nat)(Inv:(Nat->Bool)->(Nat->Value)->World->Prop)
  (hst:Each (YF P ops S m a dep I Inv) I) (h0:Inv (λ_=>false) (λ_=>undef) w)
  (hend:∀d v w,(∀i∈I,d i=true)->Inv d v w->bq P md ops Q S m fuel (setOf listed I) (xV a T (I.map v)) w)
  (hc:CY md ops listed I dep=true:=by kernel_rfl) (hns:Region.noSelect ops=true:=by kernel_rfl) (hT:I.map (ko ops)=T.map some:=by kernel_rfl) (hn:I.Nodup:=by decide) (hl:I.length=n:=by rfl):bq P md ops Q S m (fuel+n) listed a w:=by
 have key:=Si (P:=P) (Q:=Q) (S:=S) (m:=m) (fuel:=fuel) (listed:=listed) (a:=a) I dep Inv hc hns hn (λi hi=>hst.at hi) (λd v w hd hI=>by rw[tL I T a hT];exact hend d v w hd hI) n (λ_=>false) (λ_=>undef) w (by rw[<-hl,List.filter_eq_self.2 aW]) h0 aW;have e:I.filter (λ_=>false)=[]:=by simp
 rw[e]at key;exact key
def Rv(x:Value):Value->Nat->Nat->World->Prop:=λv _ _ _=>v=x
def Ra(o:Obj):Value->Nat->Nat->World->Prop:=λv s e w=>v=.pointer (some ⟨s,0,none⟩)/\s<e/\At w s o
theorem Ra.keep{o:Obj}{v:Value}{s e:Nat}{w w':World}(h:Ra o v s e w)(hb:Below w w w'):Ra o v s e w':=⟨h.1,h.2.1,At.keep h.2.2 hb⟩
theorem Ra.made{o:Obj}{w:World}{r:Result Next}(hr:r=.ok (.value (.pointer w)) (w.alloc o)):Step P (λu w'=>Below w w w'/\Ra o u w.heap.size w'.heap.size w') r :=
 Step.value hr ⟨aB aD _,rfl,by simp,At.new _ _⟩
def YH(ops:Array Oper)(I:List Nat)(dep:Nat->List Nat):Bool:=I.all λi=>(I.filter (dep i).contains).all λj=>match ops[i]?,ops[j]? with
 | some x,some y=>x.apart ops y
 | _,_=>false
theorem oH(hI:I.filter q=[]):jT ops v a (I.filter q)=a:=by rw[hI];rfl
theorem zQ{dep:Nat->List Nat}(h:YH ops I dep=true)(hns:Region.noSelect ops=true)(hi:i∈I){o:Oper}(ho:ops[i]? = some o)(v:Nat->Value)(a:Act):execOp (jT ops v a (I.filter (dep i).contains)).eval o=execOp a.eval o:=by
 have h1:=List.all_eq_true.1 (List.all_eq_true.1 h i hi);refine execOp_congr o (λcs b e=>Region.noSelect_spec hns i o cs b ho e) λx hx => ?_
 have:=xU (ops:=ops) (v:=v) (a:=a) (x:=x) (q:=λ_=>false) (I.filter (dep i).contains).reverse (λj hj=>by
  rw[jd0]at hj;have h2:=h1 j hj;rw[ho]at h2;cases hy:ops[j]? with
  | none=>rw[hy]at h2;cases h2
  | some y =>
    rw[hy]at h2;refine .inr λdd hdd hxe => ?_;have:y.dst=some dd:=by unfold ko at hdd;rw[hy]at hdd;exact hdd
    refine(Oper.apart_spec h2).2.2 dd this ?_;subst hxe
    exact List.mem_append_left _ (List.mem_filterMap.2 ⟨.tmp dd,by simpa using hx,rfl⟩))
 rw[jd0,show(I.filter (dep i).contains).filter (λ_=>false)=[]by simp]at this;exact this
def ai4(P:Program)(ops:Array Oper)(a:Act)(w0:World)(R:Nat->Value->Nat->Nat->World->Prop)(i:Nat):Prop:=(∀v s e w w',R i v s e w->Below w.heap.size w w'->R i v s e w')/\∃o,ops.toList[i]? = some o/\o.guard=none/\∀w,Below w0 w0 w->Step P (λu w'=>Below w.heap.size w w'/\R i u w.heap.size w'.heap.size w') ((execOp a.eval o).run P w)
theorem tN{w0:World}(n:Nat)(I:List Nat)(T:List Tmp)(dep:Nat->List Nat)(R:Nat->Value->Nat->Nat->World->Prop)
  (hst:Each (ai4 P ops a w0 R) I) (hS:∀X,Below w0 w0 X->S X)
  (hend:∀(v:Nat->Value) (s e:Nat->Nat) (w:World),Below w0 w0 w->(∀i∈I,w0.heap.size<=s i/\s i<=e i/\R i (v i) (s i) (e i) w)->(∀i∈I,∀j∈I,i≠j->e i<=s j\/e j<=s i)->bq P md ops Q S m fuel (setOf listed I) (xV a T (I.map v)) w)
  (hc:CY md ops listed I dep=true:=by kernel_rfl) (hns:Region.noSelect ops=true:=by kernel_rfl) (hT:I.map (ko ops)=T.map some:=by kernel_rfl) (hn:I.Nodup:=by decide) (hl:I.length=n:=by rfl) (hlk:YH ops I dep=true:=by kernel_rfl):bq P md ops Q S m (fuel+n) listed a w0:=by
 have key:=Si (P:=P) (Q:=Q) (S:=S) (m:=m) (fuel:=fuel) (a:=a) I dep
  (λd v w=>Below w0 w0 w/\∃s e:Nat->Nat,(∀i∈I,d i=true->w0.heap.size<=s i/\s i<=e i/\e i<=w.heap.size/\R i (v i) (s i) (e i) w)/\(∀i∈I,∀j∈I,d i=true->d j=true->i≠j->e i<=s j\/e j<=s i))
  hc hns hn (λi hi=>by
   obtain⟨_,o,ho,hg,hstep⟩:=hst.at hi;refine⟨o,ho,hg,λd v w hI _ hd => ?_⟩;obtain⟨hB,s,e,h1,h2⟩:=hI;rw[zQ hlk hns hi (sQ ho)];refine(hstep w hB).mono ?_;rintro u w' ⟨hb,hr⟩;have hB':Below w0 w0 w':=hB.trans (hb.mono hB.size);have hsz:=hb.size;refine⟨λ_=>hS _ hB',hB',λj=>if j=i then w.heap.size else s j,λj=>if j=i then w'.heap.size else e j,λj hj hjd => ?_,λj hj k hk hjd hkd hne => ?_⟩
   . by_cases hji:j=i
     . subst hji
       simp only[if_true];exact⟨hB.size,hsz,aH _,hr⟩
     . simp only[if_neg hji]
       obtain⟨q1,q2,q3,q4⟩:=h1 j hj (by simpa[hji]using hjd);exact⟨q1,q2,aJ q3 hsz,(hst.at hj).1 _ _ _ _ _ q4 hb⟩
   . by_cases hji:j=i
     . have hki:k≠i:=λh=>hne (hji.trans h.symm)
       simp only[if_pos hji,if_neg hki];exact .inr (h1 k hk (by simpa[hki]using hkd)).2.2.1
     . have agw:d j=true:=by simpa[hji]using hjd
       by_cases hki:k=i
       . simp only[if_neg hji,if_pos hki]
         exact .inl (h1 j hj agw).2.2.1
       . simp only[if_neg hji,if_neg hki]
         exact h2 j hj k hk agw (by simpa[hki]using hkd) hne)
  (λd v w hd hI=>by
   obtain⟨hB,s,e,h1,h2⟩:=hI;rw[tL I T a hT]
   exact hend v s e w hB (λi hi=>⟨(h1 i hi (hd i hi)).1,(h1 i hi (hd i hi)).2.1,(h1 i hi (hd i hi)).2.2.2⟩) λi hi j hj hne=>h2 i hi j hj (hd i hi) (hd j hj) hne)
  n (λ_=>false) (λ_=>undef) w0 (by rw[<-hl,List.filter_eq_self.2 aW]) ⟨Below.refl _ _,λ_=>0,λ_=>0,by simp,by simp⟩ aW
 have e:I.filter (λ_=>false)=[]:=by simp
 rw[e]at key;exact key
end
end Go.Proofs.YtdnggaapcgomhaaGreat.aj
namespace Go.Proofs.YtdnggaapcgomhaaGreat.Fix
open Go.ChangeShapes Go.WideShapes Go.ChangeAt Go.RowKit
open Go.Proofs.Tryz renaming prog → ja0
def Rm(k:TypeId):Value->Nat->Nat->World->Prop:=λv s e w=>v=.map (some s)/\s<e/\GM k w s 0 (λ_=>none)
theorem Rm.keep{k:TypeId}{v:Value}{s e:Nat}{w w':World}(h:Rm k v s e w)(hb:Below w w w'):Rm k v s e w':=⟨h.1,h.2.1,h.2.2.keep hb⟩
theorem Rm.made{P:Program}{k:TypeId}{w:World}{r:Result Next}(hr:r=.ok (.value (.map (some w.heap.size))) (w.alloc (.map #[] 0))):aj.Step P (λu w'=>Below w w w'/\Rm k u w.heap.size w'.heap.size w') r :=
 aj.Step.value hr ⟨aB aD _,rfl,by simp,GM.made _ _⟩
theorem M4(ww wh:Int)(w:World):Calls ja0 41 #[.agg #[ww,wh]] w λe w'=>(∃lb bm km pm rm,e=.returned (.pointer (some ⟨lb,0,none⟩))/\(w.heap.size<=lb/\w.heap.size<=bm/\w.heap.size<=km/\w.heap.size<=pm/\w.heap.size<=rm)/\(lb≠bm/\lb≠km/\lb≠pm/\lb≠rm/\bm≠km/\bm≠pm/\bm≠rm/\km≠pm/\km≠rm/\pm≠rm) /\
  At w' lb (.cells #[ww,wh,.map (some bm),.map (some km),.map (some pm),.map (some rm)] 107)/\GM 3 w' bm 0 (λ_=>none)/\nP w' km/\GM 99 w' pm 0 (λ_=>none)/\GM 3 w' rm 0 (λ_=>none))/\Below w w w':=by
 have hmm:=@run_makeMap ja0;go_enter Tryz.func41,Tryz.ntmps41
 go_upto_region 1 with(fail)
 have A0:At (w.alloc (.cells #[ww,wh] 95)) w.heap.size (.cells #[ww,wh] 95):=At.new _ _;have hB1:Below w w (w.alloc (.cells #[ww,wh] 95)):=aB aD _;generalize w.alloc (.cells #[ww,wh] 95)=w1 at *;obtain⟨l0,c00,JI⟩:=At.two A0;have hBW:∀X,Below w1 w1 X->Below w w X:=λX h=>Below.ay hB1 aC h;have hws:=hB1.size
 refine aj.fQ (λa0 a W5=>∃(lb bm km pm rm:Nat) (u3 u4 u5 u6 u7 u8 u9:Value),a={ a0 with tmps:=(((((((a0.tmps.setIfInBounds 3 u3).setIfInBounds 4 u4).setIfInBounds 5 u5).setIfInBounds 6 u6).setIfInBounds 7 u7).setIfInBounds 8 u8).setIfInBounds 9 u9).setIfInBounds 2 (.pointer lb) } /\
  (w1.heap.size<=lb/\w1.heap.size<=bm/\w1.heap.size<=km/\w1.heap.size<=pm/\w1.heap.size<=rm)/\(lb≠bm/\lb≠km/\lb≠pm/\lb≠rm/\bm≠km/\bm≠pm/\bm≠rm/\km≠pm/\km≠rm/\pm≠rm) /\
  At W5 lb (.cells #[ww,wh,.map (some bm),.map (some km),.map (some pm),.map (some rm)] 107)/\GM 3 W5 bm 0 (λ_=>none)/\nP W5 km/\GM 99 W5 pm 0 (λ_=>none)/\GM 3 W5 rm 0 (λ_=>none)/\Below w1 w1 W5) ?_ ?_
 . refine iC (S:=Below w1 w1) 8 ?_ ?_
   . exact(Below.refl _ _).drew
   intro hx;refine aF 0 ?_;clear l0 c00 JI hBW hws hB1 A0;generalize w1.drew=W0 at *
   refine aj.tN 4 [1,2,3,4] [4,5,6,7] (λ_=>[]) (λi=>if i=1 then Rm 3 else if i=3 then Rm 99 else if i=4 then Rm 3 else λv s e W=>∃mk,v=.map (some mk)/\s<=mk/\mk<e/\nP W mk)
    ⟨⟨λ_ _ _ _ _ h hb=>Rm.keep h hb,_,rfl,rfl,λW hb=>Rm.made eD⟩,⟨λ_ _ _ _ _ ⟨mk,h1,h2,h3,h4⟩ hb=>⟨mk,h1,h2,h3,nP.keep _ _ _ h4 hb⟩,_,rfl,rfl,λW hb=>aj.Step.call eD (Qc _) λ_ _ ⟨⟨mk,h1,h2,h3⟩,h4⟩=>⟨_,h1,h4,mk,rfl,h2,by obtain⟨_,_,q,_⟩:=h3;exact q.lt,h3⟩⟩,⟨λ_ _ _ _ _ h hb=>Rm.keep h hb,_,rfl,rfl,λW hb=>Rm.made eD⟩,⟨λ_ _ _ _ _ h hb=>Rm.keep h hb,_,rfl,rfl,λW hb=>Rm.made eD⟩,trivial⟩ (λX h=>Below.ay hx aC h) ?_
   intro vs s0 e0 W hb hI hp;obtain⟨gb,-, e1,lb,Gb⟩:=hI 1 aW;obtain⟨gk,-, mk,e2,kk,lk,Gk⟩:=hI 2 aW;obtain⟨gp,-, e3,lp,Gp⟩:=hI 3 aW;obtain⟨gr,-, e4,lr,Gr⟩:=hI 4 aW;have n12:=hp 1 aW 2 aW aG;have n13:=hp 1 aW 3 aW aG;have n14:=hp 1 aW 4 aW aG;have n23:=hp 2 aW 3 aW aG;have n24:=hp 2 aW 4 aW aG;have n34:=hp 3 aW 4 aW aG
   (try simp only[aj.mU,aj.oG,aj.jC,aj.mR,List.map_cons,List.map_nil,e1,e2,e3,e4]);(try simp only[bM,bN,bO,tks])
   generalize s0 1=mb at *;generalize s0 3=mp at *;generalize s0 4=mr at *;have hxs:=hx.size;have lb':=Gb.lt;have lk':mk<W.heap.size:=by obtain⟨_,_,q,_⟩:=Gk;exact q.lt
   have lp':=Gp.lt;have lr':=Gr.lt;replace hx:=Below.ay hx aC hb;clear hI hp e1 e2 e3 e4;refine aF 5 ?_;refine tk1 6 ?_;refine aj.Step.value (u:=.pointer W) (w':=W.alloc (.cells #[ww,wh,.map (some mb),.map (some mk),.map (some mp),.map (some mr)] 107)) eD ?_;refine⟨λ_=>aB hx _,?_⟩
   (try simp only[bM,bN,bO,tks])
   refine tk1 7 ?_;refine uG ?_ (hS:=by first|(intro hlt;exact absurd hlt aG)|(intro _;exact aB hx _));refine gZ ?_;have fK:Below W W (W.alloc (.cells #[ww,wh,.map (some mb),.map (some mk),.map (some mp),.map (some mr)] 107)):=aB aD _;have hsw:=hx.size;exact⟨rfl,W.heap.size,mb,mk,mp,mr,_,_,_,_,_,_,_,rfl,⟨by omega,by omega,by omega,by omega,by omega⟩,⟨by omega,by omega,by omega,by omega,by omega,by omega,by omega,by omega,by omega,by omega⟩,At.new _ _,Gb.keep fK,nP.keep _ _ _ Gk fK,Gp.keep fK,Gr.keep fK,aB hx _⟩
 . rintro a W5 ⟨lb,bm,km,pm,rm,u3,u4,u5,u6,u7,u8,u9,rfl,hge,hne,hA,h1,h2,h3,h4,kr⟩
   simp only[List.setIfInBounds_toArray,List.set_cons_zero,List.set_cons_succ];have HF:=ah (show(w.heap.size<=lb/\w.heap.size<=bm/\w.heap.size<=km/\w.heap.size<=pm/\w.heap.size<=rm)from⟨by omega,by omega,by omega,by omega,by omega⟩);have HBW:=ah (hBW W5 kr);go_wp2
   go_ret
   exact⟨⟨lb,bm,km,pm,rm,rfl,HF.out,hne,hA,h1,h2,h3,h4⟩,HBW.out⟩
theorem Dh(b:Nat)(s:Re.St)(fl ap:Value)(ib:Bool)(w:World)(h:aL w b s fl ap ib):Calls ja0 144 #[b,()] w λx w'=>x=.returned (.bool (Fw.opn s ib 0))/\Below w w w':=by
 have d0:w.cell? ⟨b,69,none⟩=some (.int .i64 (Fw.ed s 0)):=h.ext 14;have d1:w.cell? ⟨b,73,none⟩=some (.bool ib):=h.ext 18;have l0:=h.lt;have yT:=ah h.style;clear h;go_enter Tryz.func144,Tryz.ntmps144
 go_upto_region 2 with(first|(refine aS aR rfl ?_)|(refine bE aR rfl ?_)|(refine aQ aR _ rfl rfl oC ?_)|(refine bF aR _ _ rfl rfl rfl oC ?_)|(refine aU aR _ _ rfl rfl rfl oC ?_)|(refine fD aR _ rfl rfl yT.out ?_))
 generalize hW:World.setRow _ _ _=W1;have A1:At W1 w (.cells (cells s) 68):=hW▸(At.new w (.cells (cells Re.zero) 68)).setRow _;have hB:Below w w W1:=hW▸below_setRow (aB aD _) aC _;clear hW;replace d0:=(Below.cell_ hB l0 _).trans d0;replace d1:=(Below.cell_ hB l0 _).trans d1;have l1:=A1.lt;have g0:=A1.st 0 aG rfl;have g2:=A1.st 2 aG rfl;have g5:=A1.st 5 aG rfl;have g9:=A1.st 9 aG rfl;replace l0:=aT l0 hB.size;clear yT;cases ib
 . exact Z1g
 cases h0:s.c 0==0
 . exact Z1g
 cases h2:s.c 2==0
 . exact Z1g
 cases he:Fw.ed s 0==0
 . exact Z1g
 exact Z1g
theorem Df(b:Nat)(s:Re.St)(fl ap:Value)(ib:Bool)(w:World)(h:aL w b s fl ap ib):Calls ja0 144 #[b,.int .i64 1] w λx w'=>x=.returned (.bool (Fw.opn s ib 1))/\Below w w w':=by
 have d0:w.cell? ⟨b,70,none⟩=some (.int .i64 (Fw.ed s 2)):=h.ext 15;have d1:w.cell? ⟨b,73,none⟩=some (.bool ib):=h.ext 18;have l0:=h.lt;have yT:=ah h.style;clear h;go_enter Tryz.func144,Tryz.ntmps144
 go_upto_region 2 with(first|(refine aS aR rfl ?_)|(refine bE aR rfl ?_)|(refine aQ aR _ rfl rfl oC ?_)|(refine bF aR _ _ rfl rfl rfl oC ?_)|(refine aU aR _ _ rfl rfl rfl oC ?_)|(refine fD aR _ rfl rfl yT.out ?_))
 generalize hW:World.setRow _ _ _=W1;have A1:At W1 w (.cells (cells s) 68):=hW▸(At.new w (.cells (cells Re.zero) 68)).setRow _;have hB:Below w w W1:=hW▸below_setRow (aB aD _) aC _;clear hW;replace d0:=(Below.cell_ hB l0 _).trans d0;replace d1:=(Below.cell_ hB l0 _).trans d1;have l1:=A1.lt;have g0:=A1.st 0 aG rfl;have g2:=A1.st 2 aG rfl;have g5:=A1.st 5 aG rfl;have g9:=A1.st 9 aG rfl;replace l0:=aT l0 hB.size;clear yT;cases ib
 . exact Z12
 cases h0:s.c 0==0
 . exact Z12
 cases h2:s.c 2==0
 . exact Z12
 cases he:Fw.ed s 2==0
 . exact Z12
 cases h5:s.c 5==0
 . exact Z12
 cases h9:s.c 9==0
 . exact Z12
 exact Z12
end Go.Proofs.YtdnggaapcgomhaaGreat.Fix
