/- Proved here: what functions of the program do, in plain numbers (part 24); no conditions but those in sight. -/
import Derived.Test.YtcbcfdihofclkaaGreatQK
import Derived.Test.YtcbcfdihofclkaaGreatQ22
import Derived.Test.YtcbcfdihofclkaaGreatQ23
set_option linter.unusedVariables false
set_option linter.unusedSimpArgs false
set_option linter.unusedSectionVars false
set_option maxRecDepth 100000
namespace Go.Proofs.YtcbcfdihofclkaaGreat.Fix
open Go.ChangeShapes Go.WideShapes Go.ChangeAt Go.RowKit
theorem vG{M:Nat->Prop}{W W':World}{b off:Nat}{l:List Int}(h:Ints W (some ⟨b,off,none⟩) l)(k:Out M W W')(hm:¬ M b):Ints W' (some ⟨b,off,none⟩) l:=by
 refine⟨h.1,λh0 => ?_⟩;obtain⟨b',off',e,hc⟩:=h.2 h0;obtain⟨rfl,rfl,-⟩:b=b'/\off=off'/\True:=by injection e with e;injection e with e1 e2;exact⟨e1,e2,trivial⟩
 exact⟨b,off,rfl,λi hi=>(Out.cell k (off+i) (World.block_lt_of_cell? _ _ (hc i hi)) hm).trans (hc i hi)⟩
theorem lints{w:World}{b:Nat}{l:List Int}(h:Ints w (some ⟨b,0,none⟩) l){k:Nat}(hk:k<l.length):b<w.heap.size/\w.cell? ⟨b,k,none⟩=some (.int .i64 (l.getD k 0)):=by
 obtain⟨b',off,e,hl,hc⟩:=h.at_ hk;injection e with e;injection e with e1 e2;subst e1 e2;rw[Nat.zero_add]at hc;exact⟨hl,hc⟩
def rY(g:Nat->Im->Im)(l:List Im)(k:Nat):List Im:=(l.take k).mapIdx g++l.drop k
theorem iL(g:Nat->Im->Im)(l:List Im)(k:Nat):(rY g l k).length=l.length:=by simp[rY];omega
theorem qg(g:Nat->Im->Im)(l:List Im){k:Nat}(hk:k<l.length):(rY g l k)[k]'(by rw[iL];exact hk)=l[k]:=by
 unfold rY;rw[List.getElem_append_right jH];simp;congr 1;omega
theorem zJ(g:Nat->Im->Im)(l:List Im){k:Nat}(hk:k<l.length):(rY g l k).set k (g k l[k])=rY g l (k+1):=by
 unfold rY;exact Z2b
theorem zK(g:Nat->Im->Im)(l:List Im):rY g l 0=l:=by simp[rY]
theorem DL(g:Nat->Im->Im)(l:List Im):rY g l l.length=l.mapIdx g:=by simp[rY]
instance:Inhabited Im:=⟨⟨⟨0,0,0,0,0⟩,⟨0,0,0,0,0,0,0⟩,0,0,0,0,0⟩⟩
theorem rZ(l:List Int):Ju.row (λi=>l.getD i 0) l.length=l:=by
 unfold Ju.row;exact List.ext_getElem eY λi h1 h2=>by simp[List.getD,List.getElem?_eq_getElem h2]
theorem yH(l:List Im):(uj l).length=l.length:=by simp[uj]
def XA(B:Int->Fw.Bx)(f:Nat)(i0 i1:Int)(sz:List Int)(i:Nat)(x:Im):Im:={ x with ld:=Fw.lay B f x.ld.id i0 i1 (Fw.wr (sz.getD i 0+Fw.nR (B x.ld.id).sty 0)) (-1) }
def lnB(al deep:Int)(st:List Int)(i:Nat)(x:Im):Im:={ x with ld:={ x.ld with a0:=Fw.wr (st.getD i 0+x.m0),a1:=Fw.wr (Ju.across al (Ai x) deep+x.m2) } }
def lnS(B:Int->Fw.Bx)(i0 gap:Int)(xs:List Im):List Int:=mD (λi=>(xs.getD i default).it) xs.length (pQ (Fw.wr (i0-Fw.wr (gap*Fw.wr ((xs.length:Int)-1)))) (λi=>UN (xs.getD i default) (B (xs.getD i default).ld.id).sty) xs.length)
def IB(high:Int)(xs:List Im):Int:=if high = -1 then (oK xs).foldl max 0 else high
def DN(B:Int->Fw.Bx)(f:Nat)(s:Re.St)(i0 i1 high:Int)(xs:List Im):List Im:=xs.mapIdx (XA B f i0 i1 (lnS B i0 (s.c 46) xs))
def tK(B:Int->Fw.Bx)(f:Nat)(s:Re.St)(i0 i1 deep:Int)(ys:List Im):List Im:=if s.c 44=0 then ys.map (Bu B f i0 i1 deep)else ys
def tL(s:Re.St)(i0 deep:Int)(ys:List Im):List Im:=ys.mapIdx (lnB (s.c 44) deep (Ju.row (Ju.starts (s.c 43) i0 (s.c 46) (uj ys)) ys.length))
theorem eO{o:Oper}{a:Act}{w:World}(ho:o.op=.alloc 51):(execOp a.eval o).run Tryz.prog w=.ok (.value (.pointer (some ⟨w.heap.size,0,none⟩))) (w.alloc (.cells (cells Re.zero) 51)):=by
 unfold execOp;simp only[ho,Sem.run_bind,z8,Result.andThen_ok,Sem.run_pure]
theorem mZ{o:Oper}{a:Act}{w:World}(x y:Operand)(ho:o.op=.store 51 x y){b:Nat}(hx:a.eval x=.pointer (some ⟨b,0,none⟩)){s t:Re.St}(hy:a.eval y=.agg (cells t))(hs:At w b (.cells (cells s) 51)):(execOp a.eval o).run Tryz.prog w=.ok .skip (w.setRow b (cells t)):=by
 unfold execOp;simp only[ho,hx,hy,Sem.run_bind,uU hs,Result.andThen_ok,Sem.run_pure]
section
variable {Y:rV} {B:Int->Fw.Bx} {F:Int->Nat} {D:Int->Prop} {KM:World->Nat->Prop} {f:Nat} {w0:World} {P0:Nat->Prop}
theorem Y7{i0 i1:Int}{sz:List Int}{x:Im}(i:Nat)(h:KQ Y B D F f i0 x):KQ Y B D F f i0 (XA B f i0 i1 sz i x):=⟨h.d,h.f,h.bx,h.m0,h.m1,h.m2,h.m3⟩
set_option maxHeartbeats 16000000 in
theorem adW(hL:vF Y B F D KM f)(hK:∀(X X':World) (b:Nat),KM X b->Below X.heap.size X X'->KM X' b)(qL:∀(X X':World) (b:Nat),KM X b->Out (λq=>q≠b) X X'->KM X' b)(hR0:RO w0 Y B D KM)(hkm:Y.km<w0.heap.size)
  (R q c:Nat) (z i0 i1 high:Int) (hz:D z) (xs:List Im) (cs:Array Value) (w:World) (n:Nat) (P:Nat->Prop) (hS:qV Y B F w0 P0 n P w) (hA:At w R (.cells cs 283)) (hI:fu cs q xs) (hok:∀x∈xs,KQ Y B D F f i0 x) (Vf:¬ P R) (pF:w0.heap.size<=R) (hn:n+2*jd B f xs xs.length<maxLen) (hl:xs.length<=64) (s:Re.St) (hs:(B z).sty=s) (xs1 xs2:List Im) (deep:Int) (hx1:DN B f s i0 i1 high xs=xs1) (hdp:IB high xs1=deep) (hx2:tK B f s i0 i1 deep xs1=xs2) :
  Calls Tryz.prog 231 #[.pointer (some ⟨Y.lb,0,none⟩),.agg #[.int .i64 z,.int .i64 i0,.int .i64 i1],.slice (some ⟨R,q,none⟩) xs.length c,.int .i64 high] w λe w'=>e=.returned (.int .i64 deep) /\
   ∃n' P' cs',n'<=n+2*jd B f xs xs.length/\qV Y B F w0 P0 n' P' w'/\¬ P' R/\(∀b,b<w.heap.size->P' b->P b)/\At w' R (.cells cs' 283)/\fu cs' q (tL s i0 deep xs2)/\jV q xs.length cs cs'/\Out (λb=>b=Y.pm\/b=R) w w':=by
 obtain⟨es0,Ra,pJ⟩:=hR0.Ey;have agq:Y.pm<R:=aR pJ.lt pF;obtain⟨m,hm⟩:∃m,xs.length=m:=⟨_,rfl⟩;have HM:=Lib.hid hm;have HN:=Lib.hid hn;have HOK:=Lib.hid hok;have sO:=Lib.hid hR0;have EF:=Lib.hid hx1;have HDP:=Lib.hid hdp;have EG:=Lib.hid hx2;have hRl:=hA.lt;have wF:=hS.ro qL hR0 hkm;have aa0:=wF.look hz;obtain⟨b0,hb0⟩:∃b0,Y.bl z=b0:=⟨_,rfl⟩;rw[hb0]at aa0;have hbx:=(wF.box z hz).1;rw[hb0,hs]at hbx;have xW:=Lib.hid hbx.style;have uy:=wF.lay;have Rs:=hbx.lt;obtain⟨lY,wV,wW,zf,zh,zi,zk⟩:=At.six uy;have b1:Below w.heap.size w (w.alloc (.cells #[.int .i64 z,.int .i64 i0,.int .i64 i1] 112)):=Below.alloc' (Below.refl _ _) _;have A0:At (w.alloc (.cells #[.int .i64 z,.int .i64 i0,.int .i64 i1] 112)) w.heap.size (.cells #[.int .i64 z,.int .i64 i0,.int .i64 i1] 112):=At.new _ _;have hS1:=hS.after b1;have hA1:=hA.keep b1;have EP:=wF.keep hK b1;rw[hm]at hl ⊢;clear hn hok hR0 hS hA hm pJ hx1 hdp hx2 hs hbx wV wW zf zh zi zk aa0 uy lY;go_enter Tryz.func231,Tryz.ntmps231
 go_upto_region 1 with(fail)
 generalize w.alloc (.cells #[.int .i64 z,.int .i64 i0,.int .i64 i1] 112)=w1 at *;have ags:w.heap.size<w1.heap.size:=A0.lt;have hsz:=b1.size;have hlk:=λX (h:Below w1.heap.size w1 X)=>(EP.keep hK h).look hz;simp only[hb0]at hlk;have Vk:=Lib.hid (λj hj=>(b1.cell (p:=⟨b0,0+j,none⟩) Rs).trans (xW.out j hj):uh w1 b0 0 s);have Ce:b0<w1.heap.size:=aR Rs hsz;obtain⟨lY,wV,wW,zf,zh,zi,zk⟩:=At.six EP.lay;obtain⟨l0,aA,aB,bB⟩:=At.three A0;have hSd:Below w1.heap.size w1 w1.drew:=Below.drew (Below.refl _ _);refine kQ (S:=λX=>Below w1.heap.size w1 X) 12 ?_ ?_
 . exact hSd
 intro hx;clear hSd;refine aH 0 ?_;refine aH 1 ?_;refine aH 2 ?_;refine aH 3 ?_;refine aH 4 ?_;refine aH 5 ?_;refine rD 6 rfl (dZ aU rfl rfl rfl (λX h=>hlk X h)) ?_;refine aH 7 ?_;refine aH 8 ?_;refine rD 9 rfl (iY aU (.tmp 26) rfl rfl (λX h=>λj hj=>(h.cell (p:=⟨b0,0+j,none⟩) Ce).trans (Vk.out j hj))) ?_;refine tk1 10 ?_;refine aj.Step.value (eO rfl) ?_;obtain⟨w2,hw2,AS,hb2,gT⟩:∃w2,w2=w1.drew.alloc (.cells (cells Re.zero) 51)/\At w2 w1.drew.heap.size (.cells (cells Re.zero) 51)/\Below w1.drew.heap.size w1.drew w2/\w1.heap.size<=w1.drew.heap.size:=⟨_,rfl,At.new _ _,Below.alloc' (Below.refl _ _) _,hx.size⟩;rw[<-hw2];clear hw2;replace hx:=Below.ay hx (ah _) hb2;generalize w1.drew.heap.size=T at *;refine⟨λ_=>hx,?_⟩
 (try simp only[bF,bG,bH,tks])
 refine tk1 11 ?_;refine aj.Step.skip (mZ (.tmp 9) (.tmp 27) rfl rfl rfl AS) ?_;replace AS:At (w2.setRow T (cells s)) T (.cells (cells s) 51):=At.setRow AS _;have hx2:Below w1.heap.size w1 (w2.setRow T (cells s)):=cO hx gT _;generalize w2.setRow T (cells s)=w3 at *;refine⟨λ_=>hx2,?_⟩
 (try simp only[bF,bG,bH,tks])
 refine jY ?_;have Y8:=hx2.size;have hO3:Out (λb=>b=Y.pm\/b=R) w w3:=Out.of_below (b1.trans (hx2.mono hsz));have uG:=hS1.after hx2;have hA3:=hA1.keep hx2;have B3:=A0.keep hx2;have BK:=uG.ro qL sO.out hkm;have hPw:=uG.lt;obtain⟨sz,hszz⟩:∃l,lnS B i0 (s.c 46) xs=l:=⟨_,rfl⟩;have Vl:Hid (xs.mapIdx (XA B f i0 i1 sz)=xs1):=Lib.hid (by rw[<-hszz];exact EF.out);have HI:=Lib.hid hI;have YL:Calls Tryz.prog 274 #[.slice (some ⟨R,q,none⟩) m c,.int .i64 0,.agg #[.int .i64 i0,.int .i64 i1],.int .i64 (s.c 46)] w3 λe w'=>(∃b,e=.returned (.slice (some ⟨b,0,none⟩) m m)/\w3.heap.size<=b/\Ints w' (some ⟨b,0,none⟩) sz)/\Below w3.heap.size w3 w':=by
  have e:=HM.out;subst e;have hg:∀i (h:i<xs.length),xs.getD i default=xs[i]:=λi h=>by rw[List.getD,List.getElem?_eq_getElem h];rfl
  have k:=U6 (some ⟨R,q,none⟩) xs c i0 i1 (s.c 46) (λi=>(xs.getD i default).it) (λi=>UN (xs.getD i default) (B (xs.getD i default).ld.id).sty) (λi=>(B (xs.getD i default).ld.id).sty) w3 (hI.ims hA3) hl (λi h=>by simp only[hg i h]) (λi h=>by simp only[hg i h]) (λi h=>by
   have ho:=HOK.out xs[i] (List.getElem_mem _);have hb:=(BK.box _ ho.d).1;rw[<-ho.bx]at hb;simp only[hg i h]
   exact⟨_,_,_,hb⟩)
  rw[<-hszz];exact k
 have Rt:sz.length=m:=by rw[<-hszz,<-HM.out];unfold lnS mD;simp
 have IC:w3.cell? ⟨T,46,none⟩=some (.int .i64 (s.c 46)):=(AS.cell 46).trans (bE s ak rfl);obtain⟨l0,aA,aB,bB⟩:=At.three B3;have lT:=AS.lt;clear hI b1 A0 hS1 hA1 EP Vk hlk wV wW zf zh zi zk lY xW wF hb2 hszz hx;have HRR:=Lib.hid BK;clear BK
 go_upto_region 3 with(go_at_call 274;(with_reducible refine YL.mono ?_);rintro e' w4 ⟨⟨bz,rfl,gbz,xS⟩,hb4⟩)
 clear YL;have Y9:=Lib.hid xS;have hO4:Out (λb=>b=Y.pm\/b=R) w w4:=Out.trans' hO3 (Out.of_below (M:=λ_=>False) hb4) λ_ _ q=>q.elim;have PS:=uG.after hb4;have XB:=hA3.keep hb4;have B4:=B3.keep hb4;have Vm:=Lib.hid (AS.keep hb4);have ab0:=hb4.size;have gT2:w.heap.size<T:=by have:=B3.lt;have h2:=ags;omega
 clear hb4 xS AS B3 hA3 uG hO3 hx2 HRR
 go_loopw [35] (λiv wr=>∃(k n':Nat) (P':Nat->Prop) (cs':Array Value),k<=m/\iv=.int .i64 k/\n'<=n+jd B f xs k/\qV Y B F w0 P0 n' P' wr/\¬ P' R/\(∀b,b<w.heap.size->P' b->P b)/\At wr R (.cells cs' 283)/\Hid (fu cs' q (rY (XA B f i0 i1 sz) xs k)/\jV q m cs cs')/\At wr w.heap.size (.cells #[.int .i64 z,.int .i64 i0,.int .i64 i1] 112)/\Hid (At wr T (.cells (cells s) 51))/\Hid (Ints wr (some ⟨bz,0,none⟩) sz)/\Out (λb=>b=Y.pm\/b=R) w wr) (λiv _=>m-(intOf iv).toNat)
 case atStart=>exact⟨0,n,P,cs,bJ _,rfl,by simp[jd],PS,Vf,λb hb h=>h,XB,Lib.hid ⟨by rw[zK];exact HI.out,jV.refl _ _ _⟩,B4,Vm,Y9,hO4⟩
 case round =>
  clear PS XB B4 Vm Y9 hO4 l0 aA aB bB lT IC;obtain⟨k,n',P',cs',hk,rfl,hn',hSr,wG,xD,hAr,hC,A0,hST,xS,hO⟩:=hrel;by_cases hlt:k<m
  . have hltz:(k:Int)<(m:Int):=by omega
    have hkx:k<xs.length:=by rw[HM.out];exact hlt
    have hkc:k<(rY (XA B f i0 i1 sz) xs k).length:=by rw[iL];exact hkx
    have qz:=hC.out.1.at_ hAr hkc;rw[qg _ _ hkx]at qz;obtain⟨x,hx⟩:∃x,xs[k]=x:=⟨_,rfl⟩;have lZ:=Lib.hid (HOK.out x (hx▸List.getElem_mem _));rw[hx]at qz;have HX:=Lib.hid hx;have hRr:=hSr.ro qL sO.out hkm;have hbx:=(hRr.box x.ld.id lZ.out.d).1;rw[<-lZ.out.bx]at hbx;obtain⟨sx,hsx⟩:∃s,(B x.ld.id).sty=s:=⟨_,rfl⟩;rw[hsx]at hbx;generalize Y.vf x.ld.id=vf at hbx;generalize Y.va x.ld.id=va at hbx;generalize (B x.ld.id).ib=ib at hbx;have HSX:=Lib.hid hsx;have Xy:=Lib.hid qz;have qd:=Lib.hid hSr;obtain⟨l2,aN,aO,aP,aQ,aZ,bq,aX,aY⟩:=At.bx0 hbx;clear aN aO aP aQ aZ bq;have Bt:=hAr.lt;have KR:wr.cell? ⟨R,q+k*17+12,none⟩=some (.pointer (some ⟨x.bx,0,none⟩)):=(qz 12 ak).trans rfl;have PU:wr.cell? ⟨R,q+k*17+5,none⟩=some (.int .i64 x.ld.id):=(qz 5 ak).trans rfl;obtain⟨lz,cz⟩:=lints xS.out (by rw[Rt];exact hlt);obtain⟨v,hv⟩:∃v,sz.getD k 0=v:=⟨_,rfl⟩;rw[hv]at cz;obtain⟨l0,aA,aB,bB⟩:=At.three A0;clear hRr hbx qz hsx hx
    go_upto_region 6 with(fail)
    have Y':=Lib.hid (qd.out.after ((Below.refl wr.heap.size wr).drew));have hcs1:=rX B f xs hkx;rw[HX.out]at hcs1;have hcs2:=wm B f xs (k+1);have hnn:=HN.out;have uz:=λX=>dV (Fw.ed sx 3) (Fw.ed sx 1) X;obtain⟨e31,ab1⟩:∃v,Fw.wr (Fw.ed sx 3+Fw.ed sx 1)=v:=⟨_,rfl⟩;simp only[ab1]at uz;have adX:Fw.nR sx 0=e31:=ab1;clear ab1;obtain⟨t0,ht0⟩:∃t,IntKind.i64.wrap (v+e31)=t:=⟨_,rfl⟩;have abV:(Fw.lay B f x.ld.id i0 i1 t0 (-1)).id=x.ld.id:=rfl;obtain⟨ly,uy⟩:∃y,Fw.lay B f x.ld.id i0 i1 t0 (-1)=y:=⟨_,rfl⟩;have HLF:=Lib.hid (show XA B f i0 i1 sz k x={ x with ld:=ly }by unfold XA;rw[HSX.out,hv,adX,<-qZ (v+e31),ht0,uy]);have Jt:ly.id=x.ld.id:=by rw[<-uy];rfl
    clear abV adX hv;have MI:=Lib.hid (show q+k*17+5+7<=cs'.size by have:=hC.out.1.1;rw[iL]at this;have h2:k*17+17<=xs.length*17:=ak;omega);have n1:w.heap.size≠Y.pm:=by omega
    have n2:w.heap.size≠R:=by omega
    have n34:=sO.out.box x.ld.id lZ.out.d;rw[<-lZ.out.bx]at n34
    have n3:x.bx≠Y.pm:=λe=>by
     obtain⟨es1,ck1,hp1⟩:=sO.out.Ey;have h1:=n34.1;rw[e]at h1;exact absurd (h1.symm.trans hp1) eY
    have n4:x.bx≠R:=by have:=n34.1.lt;omega
    clear n34;have n5:bz≠Y.pm:=by omega
    have n6:bz≠R:=by omega
    have hSd:Out (λb=>b=Y.pm\/b=R) wr wr.drew/\wr.drew.cell? ⟨R,q+k*17+5,none⟩=some (.int .i64 x.ld.id)/\wr.drew.cell? ⟨R,q+k*17+12,none⟩=some (.pointer (some ⟨x.bx,0,none⟩)):=⟨(Out.refl _ _).drew,PU,KR⟩;refine kQ (S:=λX=>Out (λb=>b=Y.pm\/b=R) wr X/\X.cell? ⟨R,q+k*17+5,none⟩=some (.int .i64 x.ld.id)/\X.cell? ⟨R,q+k*17+12,none⟩=some (.pointer (some ⟨x.bx,0,none⟩))) 26 ?_ ?_
    . exact hSd
    intro hx;clear hSd;refine gG 0 ?_;refine gG 1 ?_;refine gG 2 ?_;refine gG 3 ?_;refine gG 4 ?_;refine gG 5 ?_;refine gG 6 ?_;refine gG 7 ?_;refine gG 8 ?_;refine gG 9 ?_;refine gG 10 ?_;refine gG 11 ?_;refine gG 12 ?_;refine gG 13 ?_;refine gG 14 ?_;refine gG 15 ?_;refine gG 16 ?_;refine gG 17 ?_;refine gG 18 ?_;refine tk1 19 ?_;refine aj.Step.call dQ (uz _) ?_;rintro e' w6 ⟨rfl,hb6⟩;have mG:Out (λb=>b=Y.pm\/b=R) wr w6:=Out.trans' ((Out.refl _ wr).drew) (Out.of_below (M:=λ_=>False) hb6) λ_ _ q=>q.elim;have yX:=Y'.out.after hb6;have xA:=hAr.keep ((Below.drew (Below.refl _ wr)).trans hb6);have B6:=A0.keep ((Below.drew (Below.refl _ wr)).trans hb6);have NV:w6.cell? ⟨R,q+k*17+5,none⟩=some (.int .i64 x.ld.id):=(hb6.cell (p:=⟨R,_,none⟩) Bt).trans PU;have zL:w6.cell? ⟨R,q+k*17+12,none⟩=some (.pointer (some ⟨x.bx,0,none⟩)):=(hb6.cell (p:=⟨R,_,none⟩) Bt).trans KR;have hx6:Out (λb=>b=Y.pm\/b=R) wr w6/\w6.cell? ⟨R,q+k*17+5,none⟩=some (.int .i64 x.ld.id)/\w6.cell? ⟨R,q+k*17+12,none⟩=some (.pointer (some ⟨x.bx,0,none⟩)):=⟨mG,NV,zL⟩;refine⟨_,rfl,λ_=>hx6,?_⟩
    (try simp only[bF,bG,bH,tks])
    refine gG 20 ?_;refine gG 21 ?_;have jZ:=ni hL qL sO.out hkm yX x.ld.id i0 i1 t0 (-1) lZ.out.d lZ.out.f ak;rw[uy]at jZ;refine tk1 22 ?_;refine aj.Step.call dQ jZ ?_;rintro e' jg ⟨rfl,n2',P2,hn2,nM,Cj,kJ⟩;have nX:=xA.out (M:=λb=>b=Y.pm) ak kJ;have SL:=xA.lt;have um:jg.cell? ⟨R,q+k*17+5,none⟩=some (.int .i64 x.ld.id):=(Out.cell kJ (q+k*17+5) SL ak).trans NV;have FN:jg.cell? ⟨R,q+k*17+12,none⟩=some (.pointer (some ⟨x.bx,0,none⟩)):=(Out.cell kJ (q+k*17+12) SL ak).trans zL;have B10:=B6.out (M:=λb=>b=Y.pm) n1 kJ;have qh:Out (λb=>b=Y.pm\/b=R) wr jg:=mG.trans (kJ.mono λb _ h => .inl h);have Iz:Out (λb=>b=Y.pm\/b=R) wr jg/\jg.cell? ⟨R,q+k*17+5,none⟩=some (.int .i64 x.ld.id)/\jg.cell? ⟨R,q+k*17+12,none⟩=some (.pointer (some ⟨x.bx,0,none⟩)):=⟨qh,um,FN⟩;refine⟨_,rfl,λ_=>Iz,?_⟩
    (try simp only[bF,bG,bH,tks])
    refine gG 23 ?_;refine gG 24 ?_;refine tk1 25 ?_;refine aj.Step.skip (eZ nU (.tmp 67) (.tmp 65) rfl rfl rfl nX (dw ly) MI.out (o8 ly)) ?_;have oU:At (jg.setRow R (splice cs' (q+k*17+5) (eF ly))) R (.cells (splice cs' (q+k*17+5) (eF ly)) 283):=At.setRow nX _;have jF:Out (λb=>b=R) jg (jg.setRow R (splice cs' (q+k*17+5) (eF ly))):=Out.setRow (M:=λb=>b=R) (Out.refl _ _) rfl _;have Al:(jg.setRow R (splice cs' (q+k*17+5) (eF ly))).cell? ⟨R,q+k*17+5,none⟩=some (.int .i64 x.ld.id):=by
     exact Z22
    have Gd:(jg.setRow R (splice cs' (q+k*17+5) (eF ly))).cell? ⟨R,q+k*17+12,none⟩=some (.pointer (some ⟨x.bx,0,none⟩)):=by
     exact Z3a
    refine⟨λ_=>⟨qh.trans (jF.mono λb _ h => .inr h),Al,Gd⟩,?_⟩
    (try simp only[bF,bG,bH,tks])
    refine jY ?_;have qW:¬ P2 R:=λh=>wG (Cj R SL h);have hput:=hC.out.1.PK hkc ly;rw[qg _ _ hkx,HX.out]at hput
    have Vj:Hid (fu (splice cs' (q+k*17+5) (eF ly)) q (rY (XA B f i0 i1 sz) xs (k+1))/\jV q m cs (splice cs' (q+k*17+5) (eF ly))):=Lib.hid ⟨by
     rw[<-zJ _ _ hkx,HX.out,HLF.out]
     exact hput.1,hC.out.2.trans (by have:=hput.2;rw[iL,HM.out]at this;exact this)⟩
    have qX:=nM.own (M:=λb=>b=R) jF λb hb h=>by subst h;exact⟨qW,pF⟩
    have oV:Out (λb=>b=Y.pm\/b=R) w (jg.setRow R (splice cs' (q+k*17+5) (eF ly))):=(hO.trans qh).trans (jF.mono λb _ h => .inr h);have B11:=B10.out (M:=λb=>b=R) n2 jF;have hOr:Out (λb=>b=Y.pm\/b=R) wr (jg.setRow R (splice cs' (q+k*17+5) (eF ly))):=qh.trans (jF.mono λb _ h => .inr h);have uo:=Lib.hid (hST.out.out (M:=λb=>b=Y.pm\/b=R) ak hOr);have Gf:=Lib.hid (vG xS.out hOr ak);have abW:∀b,b<w.heap.size->P2 b->P b:=λb hb h=>xD b hb (Cj b (aR hb (aC hO.size mG.size)) h);generalize jg.setRow R (splice cs' (q+k*17+5) (eF ly))=cZ at *;generalize splice cs' (q+k*17+5) (eF ly)=cs2 at *;clear hx hx6 Iz hput nX jF Al um FN Gd B10 B6 A0 xA yX mG kJ qh NV zL l0 aA aB bB l2 aX aY cz lz KR PU hOr Cj nM;go_wp2
    go_roundw
    case rel=>exact⟨k+1,n2',P2,cs2,by omega,by go_num,by omega,qX,qW,abW,oU,Vj,B11,uo,Gf,oV⟩
    case measure=>simp[intOf];omega
  . obtain rfl:k=m:=by omega
    have hlen1:xs1.length=k:=by rw[<-Vl.out,List.length_mapIdx,HM.out]
    have Ru:Hid (fu cs' q xs1/\jV q k cs cs'):=Lib.hid (by
     have:=hC.out;rw[<-HM.out,DL,Vl.out]at this;rw[<-HM.out]
     exact this)
    have IE:Hid (∀x∈xs1,KQ Y B D F f i0 x):=Lib.hid (by
     rw[<-Vl.out];intro x hx;obtain⟨i,hi,e⟩:=List.mem_mapIdx.1 hx;rw[<-e]
     exact Y7 i (HOK.out _ (List.getElem_mem _)))
    have ab2:Hid (jd B f xs1 xs1.length=jd B f xs xs.length):=Lib.hid (by
     rw[<-Vl.out];unfold jd;rw[List.take_length,List.take_length];congr 1
     exact List.ext_getElem eY λi h1 h2=>by simp[XA];rfl)
    have hn1:n'<=n+jd B f xs xs.length:=by have:=hn';rw[HM.out];exact this
    have zM:=Lib.hid hlen1;have adY:Hid (deep=if high = -1 then (oK xs1).foldl max 0 else high):=Lib.hid HDP.out.symm;have Bb:=U5 (some ⟨R,q,none⟩) xs1 c wr (Ru.out.1.ims hAr) ak;rw[hlen1]at Bb;clear hlen1 hC hn' hlt EF Vl HDP HI;have qd:=Lib.hid hSr
    go_upto_if 70 with(fail)
    go_cut [3]from 69 to 73 (λv w2=>v=.int .i64 deep/\Below wr.heap.size wr w2)
    case first =>
     by_cases hh:high = -1
     . have e1:=adY.out
       rw[if_pos hh]at e1;have E1:=Lib.hid e1;clear e1
       go_wp2_with (go_at_call 275;(with_reducible refine Bb.mono ?_);rintro e' w5 ⟨rfl,hb⟩)
       go_meet
       case rel=>exact⟨by rw[E1.out],hb⟩
     . have e1:=adY.out
       rw[if_neg hh]at e1;exact Z46
    case rest =>
     obtain⟨rfl,hb5⟩:=hcut;have hs5:=hb5.size;have hwr:=hO.size;have hS5:=qd.out.after hb5;have xw:=hAr.keep hb5;have B5:=A0.keep hb5;have NW:=Lib.hid (hST.out.keep hb5);have Jp:Out (λb=>b=Y.pm\/b=R) w wc:=Out.trans' hO (Out.of_below (M:=λ_=>False) hb5) λ_ _ q=>q.elim;have Vn:wc.cell? ⟨T,44,none⟩=some (.int .i64 (s.c 44)):=(NW.out.cell 44).trans (bE s ak rfl);have lT:=NW.out.lt;obtain⟨l0,aA,aB,bB⟩:=At.three B5;have wH:=Vh hL hK qL sO.out hkm R q c i0 i0 i1 deep xs1 cs' wc n' P' hS5 xw Ru.out.1 IE.out wG pF (by rw[ab2.out];have:=HN.out;omega) (by rw[zM.out];omega);rw[ab2.out,zM.out]at wH;have hPc:∀b,b<w.heap.size->b<wc.heap.size:=λb h=>by omega
     have HPC:=Lib.hid hPc;clear Bb hPc
     go_upto_if 75 with(fail)
     go_cut []from 73 to 82 (λw2=>∃(n2:Nat) (P2:Nat->Prop) (cs2:Array Value),n2<=n+2*jd B f xs xs.length/\qV Y B F w0 P0 n2 P2 w2/\¬ P2 R/\(∀b,b<w.heap.size->P2 b->P b)/\At w2 R (.cells cs2 283)/\Hid (fu cs2 q xs2/\jV q k cs cs2)/\Out (λb=>b=Y.pm\/b=R) wc w2)
     case first =>
      by_cases hh:s.c 44=0
      . have e1:=EG.out
        unfold tK at e1;rw[if_pos hh]at e1;have E1:=Lib.hid e1;clear e1
        go_wp2_with (go_at_call 276;(with_reducible refine wH.mono ?_);rintro e' w6 ⟨rfl,n2,P2,cs2,hn2,yX,qW,hP2,xA,hI6,hM6,mG⟩)
        go_meet
        case rel=>exact⟨n2,P2,cs2,by omega,yX,qW,λb hb h=>xD b hb (hP2 b (HPC.out b hb) h),xA,Lib.hid ⟨by rw[<-E1.out];exact hI6,Ru.out.2.trans hM6⟩,mG⟩
      . have e1:=EG.out
        unfold tK at e1;rw[if_neg hh]at e1;have E1:=Lib.hid e1;clear e1;go_wp2
        go_meet
        case rel=>exact⟨n',P',cs',by omega,hS5,wG,xD,xw,Lib.hid (by rw[<-E1.out];exact Ru.out),Out.refl _ _⟩
     case rest =>
      obtain⟨n2,P2,cs2,hn2,yX,qW,hP2,xA,hC6,mG⟩:=hcut
      have HL2:Hid (xs2.length=k):=Lib.hid (by
       rw[<-EG.out];unfold tK;split
       . rw[List.length_map,zM.out]
       . exact zM.out)
      have hs6:=mG.size;have B6:=B5.out (M:=λb=>b=Y.pm\/b=R) ak mG;have Vo:=Lib.hid (NW.out.out (M:=λb=>b=Y.pm\/b=R) ak mG);have adZ:Out (λb=>b=Y.pm\/b=R) w wc:=Jp.trans mG;clear wH mG Jp NW B5 xw hS5 hn1 EG IE ab2 wG xD Vn l0 aA aB bB hO hST xS A0 hAr qd hSr Ru hb5;have ab3:wc.cell? ⟨T,43,none⟩=some (.int .i64 (s.c 43)):=(Vo.out.cell 43).trans (bE s ak rfl);have IC:wc.cell? ⟨T,46,none⟩=some (.int .i64 (s.c 46)):=(Vo.out.cell 46).trans (bE s ak rfl);have lT6:=Vo.out.lt;have SL:=xA.lt;obtain⟨l0,aA,aB,bB⟩:=At.three B6;have hSd:Below wc.heap.size wc wc.drew:=Below.drew (Below.refl _ _)
      go_upto_region 12 with(fail)
      refine kQ (S:=λX=>Below wc.heap.size wc X) 12 ?_ ?_
      . exact hSd
      intro hx;clear hSd;refine aH 0 ?_;refine aH 1 ?_;refine aH 2 ?_;refine aH 5 ?_;refine aH 6 ?_;refine aH 7 ?_;refine aH 8 ?_;refine aH 9 ?_;refine tk1 3 ?_;refine aj.Step.call dQ (oJ 0 _) ?_;rintro e' w7 ⟨rfl,hw7⟩;have xR:Below wc.drew.heap.size wc.drew w7:=hw7▸Below.alloc' (Below.refl _ _) _;have AQ:At w7 wc.drew.heap.size (.cells #[.int .i64 0] 3):=hw7▸At.new _ _;clear hw7;replace hx:=Below.ay hx (ah _) xR;generalize wc.drew.heap.size=Bq at *;refine⟨_,rfl,λ_=>hx,?_⟩
      (try simp only[bF,bG,bH,tks])
      have oo:=abO (some ⟨R,q,none⟩) xs2 c Bq w7 (hC6.out.1.ims (xA.keep hx)) (by rw[HL2.out];omega) (AQ.cell 0) AQ.lt;rw[HL2.out]at oo;refine tk1 4 ?_;refine aj.Step.call dQ oo ?_;rintro e' w8 ⟨⟨bt,rfl,gbt,hT⟩,xQ⟩;replace hx:=Below.ay hx (ah _) xQ;refine⟨_,rfl,λ_=>hx,?_⟩
      (try simp only[bF,bG,bH,tks])
      have Rv:=DK (some ⟨bt,0,none⟩) (uj xs2) k k (s.c 43) i0 (s.c 46) w8 (by
       have h1:=gH _ _ Jv hT;have h2:=rZ (uj xs2);rw[yH,HL2.out]at h2;rw[h2]at h1
       exact h1) (by rw[yH,HL2.out]) (ah _) ak
      refine tk1 10 ?_;refine aj.Step.call dQ Rv ?_;rintro e' w9 ⟨⟨bst,rfl,gst,NY⟩,fT⟩;replace hx:=Below.ay hx (ah _) fT;refine⟨_,rfl,λ_=>hx,?_⟩
      (try simp only[bF,bG,bH,tks])
      refine aH 11 ?_;refine jY ?_;have UK:=hx.size;have ahC:wc.heap.size<=bst:=by
       have h1:=xR.size;have h2:=xQ.size;simp only[World.size_drew]at h1;omega
      have qx:=xA.keep hx;have Mk:=yX.after hx;have Vp:=Lib.hid (Vo.out.keep hx);have Jl:Out (λb=>b=Y.pm\/b=R) w w9:=Out.trans' adZ (Out.of_below (M:=λ_=>False) hx) λ_ _ q=>q.elim;obtain⟨stl,ZA⟩:∃l,Ju.row (Ju.starts (s.c 43) i0 (s.c 46) (uj xs2)) k=l:=⟨_,rfl⟩;rw[ZA]at NY;have ad1:stl.length=k:=by rw[<-ZA,Ju.pU]
      have HBG:Hid (tL s i0 deep xs2=xs2.mapIdx (lnB (s.c 44) deep stl)):=Lib.hid (by unfold tL;rw[HL2.out,ZA]);have agt:=Lib.hid ad1;have ad2:=Lib.hid NY;have hgT:T<w9.heap.size:=aR lT6 UK;clear ZA ad1 NY hx xA yX Vo adZ B6 oo Rv hT gbt gst xR xQ fT AQ ab3 IC l0 aA aB bB lT6 SL
      go_upto_region 14 with(fail)
      go_loopw [95] (λiv wr=>∃(j:Nat) (yV:Array Value),j<=k/\iv=.int .i64 j/\qV Y B F w0 P0 n2 P2 wr/\At wr R (.cells yV 283)/\Hid (fu yV q (rY (lnB (s.c 44) deep stl) xs2 j)/\jV q k cs yV)/\Hid (At wr T (.cells (cells s) 51))/\Hid (Ints wr (some ⟨bst,0,none⟩) stl)/\Out (λb=>b=Y.pm\/b=R) w wr) (λiv _=>k-(intOf iv).toNat)
      case atStart=>exact⟨0,cs2,bJ _,rfl,Mk,qx,Lib.hid ⟨by rw[zK];exact hC6.out.1,hC6.out.2⟩,Vp,ad2,Jl⟩
      case round =>
       clear Mk qx Vp ad2 Jl hC6;obtain⟨j,yV,hj,rfl,hSr,hAr,hC,hST,xS,hO⟩:=hrel;by_cases hlt:j<k
       . have hltz:(j:Int)<(k:Int):=by omega
         have hkx:j<xs2.length:=by rw[HL2.out];exact hlt
         have hkc:j<(rY (lnB (s.c 44) deep stl) xs2 j).length:=by rw[iL];exact hkx
         have qz:=hC.out.1.at_ hAr hkc;rw[qg _ _ hkx]at qz;obtain⟨x,hx⟩:∃x,xs2[j]=x:=⟨_,rfl⟩;rw[hx]at qz;have HX:=Lib.hid hx;have Xy:=Lib.hid qz;have qd:=Lib.hid hSr;have Bt:=hAr.lt;obtain⟨lz,cz⟩:=lints xS.out (by rw[agt.out];exact hlt);obtain⟨v,hv⟩:∃v,stl.getD j 0=v:=⟨_,rfl⟩;rw[hv]at cz;have HV:=Lib.hid hv;have Vn:wr.cell? ⟨T,44,none⟩=some (.int .i64 (s.c 44)):=(hST.out.cell 44).trans (bE s ak rfl);have lTr:=hST.out.lt;clear qz hx hv hSr
         go_upto_region 17 with(fail)
         have hSd:Below wr.heap.size wr wr.drew:=Below.drew (Below.refl _ _);refine kQ (S:=λX=>Below wr.heap.size wr X) 10 ?_ ?_
         . exact hSd
         intro hx;clear hSd;refine aH 0 ?_;refine aH 1 ?_;refine aH 3 ?_;refine aH 4 ?_;refine rD 5 rfl (DC (.tmp 107) aU rfl rfl (λX h=>qU.keep Xy.out h Bt)) ?_;refine aH 7 ?_;refine tk1 2 ?_;refine aj.Step.call dQ (oJ 1 _) ?_;rintro e' w7 ⟨rfl,hw7⟩;have xR:Below wr.drew.heap.size wr.drew w7:=hw7▸Below.alloc' (Below.refl _ _) _;have AQ:At w7 wr.drew.heap.size (.cells #[.int .i64 1] 3):=hw7▸At.new _ _;clear hw7;replace hx:=Below.ay hx (ah _) xR;generalize wr.drew.heap.size=Bq at *;refine⟨_,rfl,λ_=>hx,?_⟩
         (try simp only[bF,bG,bH,tks])
         refine tk1 6 ?_;refine aj.Step.call dQ (PG x Bq w7 (AQ.cell 0)) ?_;rintro e' w8 ⟨rfl,xQ⟩;replace hx:=Below.ay hx (ah _) xQ;refine⟨_,rfl,λ_=>hx,?_⟩
         (try simp only[bF,bG,bH,tks])
         refine tk1 8 ?_;refine aj.Step.call dQ (Ao (s.c 44) (Ai x) deep w8) ?_;rintro e' w9 ⟨rfl,rfl⟩;refine⟨_,rfl,λ_=>hx,?_⟩
         (try simp only[bF,bG,bH,tks])
         refine aH 9 ?_;refine jY ?_;have hs8:=hx.size;have Nt:=hAr.keep hx;have hS8:=qd.out.after hx;have ad3:=Lib.hid (hST.out.keep hx);have ad4:=Lib.hid (xS.out.keep hx λ_ a ha=>by injection ha with ha;rw[<-ha];exact lz);have hO8:Out (λb=>b=Y.pm\/b=R) w w8:=Out.trans' hO (Out.of_below (M:=λ_=>False) hx) λ_ _ q=>q.elim;have ab4:=Lib.hid (qU.keep (x:=x) Xy.out hx Bt);have c13:w8.cell? ⟨R,q+j*17+13,none⟩=some (.int .i64 x.m0):=(ab4.out 13 ak).trans rfl;have c15:w8.cell? ⟨R,q+j*17+15,none⟩=some (.int .i64 x.m2):=(ab4.out 15 ak).trans rfl;obtain⟨la,hla⟩:∃v,Ju.across (s.c 44) (Ai x) deep=v:=⟨_,rfl⟩;rw[hla];obtain⟨p0,hp0⟩:∃v2,IntKind.i64.wrap (v+x.m0)=v2:=⟨_,rfl⟩;obtain⟨p1,hp1⟩:∃v2,IntKind.i64.wrap (la+x.m2)=v2:=⟨_,rfl⟩;have HLB:=Lib.hid (show lnB (s.c 44) deep stl j x={ x with ld:={ x.ld with a0:=p0,a1:=p1 } }by unfold lnB;rw[HV.out,hla,<-qZ (v+x.m0),<-qZ (la+x.m2),hp0,hp1]);have hFI:q+j*17+10+2<=yV.size:=by
          have:=hC.out.1.1;rw[iL]at this;have h2:j*17+17<=xs2.length*17:=by omega
          omega
         have MI:=Lib.hid hFI;clear hla xR xQ AQ hx hAr hST xS hO Xy qd cz lz Vn lTr hFI HV Bt;have lR8:=Nt.lt
         go_upto_region 18 with(fail)
         have hSd:Out (λb=>b=R) w8 w8.drew/\w8.drew.cell? ⟨R,q+j*17+13,none⟩=some (.int .i64 x.m0)/\w8.drew.cell? ⟨R,q+j*17+15,none⟩=some (.int .i64 x.m2):=⟨(Out.refl _ _).drew,c13,c15⟩;refine kQ (S:=λX=>Out (λb=>b=R) w8 X/\X.cell? ⟨R,q+j*17+13,none⟩=some (.int .i64 x.m0)/\X.cell? ⟨R,q+j*17+15,none⟩=some (.int .i64 x.m2)) 22 ?_ ?_
         . exact hSd
         intro hx;clear hSd;refine aT 0 ?_;refine aT 1 ?_;refine aT 2 ?_;refine aT 3 ?_;refine aT 4 ?_;refine aT 5 ?_;refine aT 6 ?_;refine aT 7 ?_;refine aT 8 ?_;refine aT 9 ?_;refine aT 10 ?_;refine aT 11 ?_;refine aT 12 ?_;refine aT 13 ?_;refine aT 14 ?_;refine aT 15 ?_;refine aT 16 ?_;refine aT 17 ?_;refine aT 18 ?_;refine aT 19 ?_;refine aT 20 ?_;refine tk1 21 ?_;have Vq:At w8.drew R (.cells yV 283):=Nt;refine aj.Step.skip (eZ abJ (.tmp 132) (.tmp 129) rfl rfl rfl Vq rfl MI.out Jk) ?_;have oU:=At.setRow Vq (splice yV (q+j*17+10) #[.int .i64 p0,.int .i64 p1]);have jF:Out (λb=>b=R) w8.drew (w8.drew.setRow R (splice yV (q+j*17+10) #[.int .i64 p0,.int .i64 p1])):=Out.setRow (M:=λb=>b=R) (Out.refl _ _) rfl _;have ad5:(w8.drew.setRow R (splice yV (q+j*17+10) #[.int .i64 p0,.int .i64 p1])).cell? ⟨R,q+j*17+13,none⟩=some (.int .i64 x.m0):=by
          have h1:=iP (cs:=yV) (vs:=#[.int .i64 p0,.int .i64 p1]) (q:=q+j*17+10) (k:=q+j*17+13) MI.out (.inr eY);rw[oU.cell,h1,<-Vq.cell];exact c13
         have ad6:(w8.drew.setRow R (splice yV (q+j*17+10) #[.int .i64 p0,.int .i64 p1])).cell? ⟨R,q+j*17+15,none⟩=some (.int .i64 x.m2):=by
          have h1:=iP (cs:=yV) (vs:=#[.int .i64 p0,.int .i64 p1]) (q:=q+j*17+10) (k:=q+j*17+15) MI.out (.inr eY);rw[oU.cell,h1,<-Vq.cell];exact c15
         refine⟨λ_=>⟨((Out.refl _ w8).drew).trans jF,ad5,ad6⟩,?_⟩
         (try simp only[bF,bG,bH,tks])
         refine jY ?_;have Jm:Out (λb=>b=R) w8 (w8.drew.setRow R (splice yV (q+j*17+10) #[.int .i64 p0,.int .i64 p1])):=((Out.refl _ w8).drew).trans jF;have hput:=hC.out.1.putAt hkc p0 p1;rw[qg _ _ hkx,HX.out]at hput
         have Vj:Hid (fu (splice yV (q+j*17+10) #[.int .i64 p0,.int .i64 p1]) q (rY (lnB (s.c 44) deep stl) xs2 (j+1))/\jV q k cs (splice yV (q+j*17+10) #[.int .i64 p0,.int .i64 p1])):=Lib.hid ⟨by
          rw[<-zJ _ _ hkx,HX.out,HLB.out]
          exact hput.1,hC.out.2.trans (by have:=hput.2;rw[iL,HL2.out]at this;exact this)⟩
         have qX:=hS8.own (M:=λb=>b=R) Jm λb hb h=>by subst h;exact⟨qW,pF⟩
         have oV:Out (λb=>b=Y.pm\/b=R) w (w8.drew.setRow R (splice yV (q+j*17+10) #[.int .i64 p0,.int .i64 p1])):=hO8.trans (Jm.mono λb _ h => .inr h);have uo:=Lib.hid (ad3.out.out (M:=λb=>b=R) ak Jm);have Gf:=Lib.hid (vG ad4.out Jm ak);generalize w8.drew.setRow R (splice yV (q+j*17+10) #[.int .i64 p0,.int .i64 p1])=cZ at *;generalize splice yV (q+j*17+10) #[.int .i64 p0,.int .i64 p1]=cs4 at *;clear hx hput Nt Vq jF Jm c13 c15 ad5 ad6 hS8 ad3 ad4 hO8 ab4 hp0 hp1;go_wp2
         go_roundw
         case rel=>exact⟨j+1,cs4,by omega,by go_num,qX,oU,Vj,uo,Gf,oV⟩
         case measure=>simp[intOf];omega
       . obtain rfl:j=k:=by omega
         go_wp2
         go_ret
         refine⟨rfl,n2,P2,yV,by rw[HM.out]at hn2;exact hn2,hSr,qW,hP2,hAr,?_,hC.out.2,hO⟩;have:=hC.out.1;rw[<-HL2.out,DL,<-HBG.out]at this;exact this
end
def yI(it:Nat->Fe.It)(ex:Nat->Int)(n:Nat)(r1 gap:Int):List Int :=
 if r1 ≠ -1/\n<=64 then mD it n (pQ (Fw.wr (r1-Fw.wr (gap*Fw.wr ((n:Int)-1)))) ex n)else Ju.row (λi=>Fe.clamp (it i) (it i).b) n
theorem IG(it:Nat->Fe.It)(ex:Nat->Int)(n:Nat)(r1 gap:Int):(yI it ex n r1 gap).length=n:=by
 unfold yI;split
 . simp[mD]
 . exact Ju.pU _ _
set_option maxHeartbeats 4000000 in
theorem ZB(A:Option Addr)(xs:List Im)(c:Nat)(r0 r1 gap:Int)(it:Nat->Fe.It)(ex:Nat->Int)(st:Nat->Re.St)(w:World)(hx:Iq w A xs)(hl:xs.length<=10000)(hit:∀i (h:i<xs.length),it i=xs[i].it)(hex:∀i (h:i<xs.length),ex i=ext1 xs[i] (st i))(hbx:∀i (h:i<xs.length),∃fl ap ib,aF w xs[i].bx (st i) fl ap ib) :
  Calls Tryz.prog 233 #[.slice A xs.length c,.agg #[.int .i64 r0,.int .i64 r1],.int .i64 gap] w λe w' =>
   (∃b,e=.returned (.slice (some ⟨b,0,none⟩) xs.length xs.length)/\w.heap.size<=b/\Ints w' (some ⟨b,0,none⟩) (yI it ex xs.length r1 gap))/\Below w.heap.size w w':=by
 have b1:Below w.heap.size w (w.alloc (.cells #[.int .i64 r0,.int .i64 r1] 108)):=Below.alloc' (Below.refl _ _) _;have A0:At (w.alloc (.cells #[.int .i64 r0,.int .i64 r1] 108)) w.heap.size (.cells #[.int .i64 r0,.int .i64 r1] 108):=At.new _ _;obtain⟨w1,hw1⟩:∃W,w.alloc (.cells #[.int .i64 r0,.int .i64 r1] 108)=W:=⟨_,rfl⟩;rw[hw1]at b1 A0;have hx1:Iq w1 A xs:=hx.after b1
 have key1:=λh64=>U9 A xs c r0 r1 gap it ex st w1 hx1 h64 hit hex (λi h=>by
  obtain⟨fl,ap,ib,q⟩:=hbx i h
  exact⟨fl,ap,ib,aF.keep q b1⟩)
 have key2:=abN #[] (λi=>Fe.clamp (it i) (it i).b) A xs c w1 hx1 hl (λi h X hb=>by
  simp only[hit i h]
  exact abI xs[i] X)
 obtain⟨m,hm⟩:∃m,xs.length=m:=⟨_,rfl⟩;rw[hm]at hl key1 key2 ⊢;have HW1:=Lib.hid hw1;have HB1:=Lib.hid b1;have hsz:=b1.size;clear hx hx1 hit hex hbx hm hw1 b1;obtain⟨l0,aA,aB⟩:=At.two A0;obtain⟨ans,iK⟩:∃l,yI it ex m r1 gap=l:=⟨_,rfl⟩;rw[iK];unfold yI at iK;go_enter Tryz.func233,Tryz.ntmps233
 go_upto_region 1 with(fail)
 rw[HW1.out];by_cases hc:r1 = -1
 . rw[if_neg ak]at iK
   have gX:=Lib.hid iK;clear iK key1;exact Z2q
 . by_cases h64:m<=64
   . rw[if_pos ⟨hc,h64⟩]at iK
     replace key1:=key1 h64;rw[iK]at key1;clear key2 iK;have agu:(m:Int)<=64:=by omega
     go_wp2_with (go_at_call 274;(with_reducible refine key1.mono ?_);rintro e' w4 ⟨⟨b,rfl,gb,hT⟩,hb4⟩)
     go_ret
     exact⟨⟨b,rfl,aC hsz gb,hT⟩,HB1.out.trans (hb4.mono hsz)⟩
   . rw[if_neg ak]at iK
     have gX:=Lib.hid iK;clear iK key1;have agu:¬ (m:Int)<=64:=by omega
     exact Z2q
end Go.Proofs.YtcbcfdihofclkaaGreat.Fix
