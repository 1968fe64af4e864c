/- What functions of the program do, in plain numbers, part 14; no conditions. -/
import Derived.Test.YtmidaiklolmkcaaGreatM13
set_option linter.unusedVariables false
set_option linter.unusedSimpArgs false
set_option linter.unusedSectionVars false
set_option maxRecDepth 100000
set_option maxHeartbeats 16000000
namespace Go.Proofs.YtmidaiklolmkcaaGreat.Fix
open Go.ChangeShapes Go.WideShapes Go.ChangeAt Go.RowKit
theorem vK{M:Nat->Prop}{W W':World}{b off:Nat}{l:List Int}(h:Ints W (some ⟨b,off,none⟩) l)(k:Out M W W')(hm:¬ M b):Ints W' (some ⟨b,off,none⟩) l:=by
 refine⟨h.1,λh0 => ?_⟩;obtain⟨b',off',e,hc⟩:=h.2 h0;obtain⟨rfl,rfl,-⟩:b=b'/\off=off'/\True:=by injection e with e;injection e with e1 e2;exact⟨e1,e2,trivial⟩
 exact⟨b,off,rfl,λi hi=>(Out.cell k (off+i) (World.block_lt_of_cell? _ _ (hc i hi)) hm).trans (hc i hi)⟩
theorem lints{w:World}{b:Nat}{l:List Int}(h:Ints w (some ⟨b,0,none⟩) l){k:Nat}(hk:k<l.length):b<w.heap.size/\w.cell? ⟨b,k,none⟩=some (.int .i64 (l.getD k 0)):=by
 obtain⟨b',off,e,hl,hc⟩:=h.at_ hk;injection e with e;injection e with e1 e2;subst e1 e2;rw[Nat.zero_add]at hc;exact⟨hl,hc⟩
def sD(g:Nat->Im->Im)(l:List Im)(k:Nat):List Im:=(l.take k).mapIdx g++l.drop k
theorem iN(g:Nat->Im->Im)(l:List Im)(k:Nat):(sD g l k).length=l.length:=by simp[sD];omega
theorem qy(g:Nat->Im->Im)(l:List Im){k:Nat}(hk:k<l.length):(sD g l k)[k]'(by rw[iN];exact hk)=l[k]:=by
 unfold sD;rw[List.getElem_append_right jM];simp;congr 1;omega
theorem zW(g:Nat->Im->Im)(l:List Im){k:Nat}(hk:k<l.length):(sD g l k).set k (g k l[k])=sD g l (k+1):=by
 unfold sD;exact Z2c
theorem zX(g:Nat->Im->Im)(l:List Im):sD g l 0=l:=by simp[sD]
theorem D9(g:Nat->Im->Im)(l:List Im):sD g l l.length=l.mapIdx g:=by simp[sD]
instance:Inhabited Im:=⟨⟨⟨0,0,0,0,0⟩,⟨0,0,0,0,0,0,0⟩,0,0,0,0,0⟩⟩
theorem sF(l:List Int):Ju.row (λi=>l.getD i 0) l.length=l:=by
 unfold Ju.row;exact List.ext_getElem eZ λi h1 h2=>by simp[List.getD,List.getElem?_eq_getElem h2]
theorem yT(l:List Im):(uD l).length=l.length:=by simp[uD]
def Yo(B:Int->Fw.Bx)(f:Nat)(i0 i1:Int)(sz:List Int)(i:Nat)(x:Im):Im:={ x with ld:=Fw.lay B f x.ld.id i0 i1 (Fw.wr (sz.getD i 0+Fw.iB (B x.ld.id).sty 0)) (-1) }
def lnB(al deep:Int)(st:List Int)(i:Nat)(x:Im):Im:={ x with ld:={ x.ld with a0:=Fw.wr (st.getD i 0+x.m0),a1:=Fw.wr (Ju.across al (AZ x) deep+x.m2) } }
def lnS(B:Int->Fw.Bx)(i0 gap:Int)(xs:List Im):List Int:=mM (λi=>(xs.getD i default).it) xs.length (qb (Fw.wr (i0-Fw.wr (gap*Fw.wr ((xs.length:Int)-1)))) (λi=>Vn (xs.getD i default) (B (xs.getD i default).ld.id).sty) xs.length)
def I4(high:Int)(xs:List Im):Int:=if high = -1 then (oU xs).foldl max 0 else high
def Ea(B:Int->Fw.Bx)(f:Nat)(s:Re.St)(i0 i1 high:Int)(xs:List Im):List Im:=xs.mapIdx (Yo B f i0 i1 (lnS B i0 (s.c 46) xs))
def tX(B:Int->Fw.Bx)(f:Nat)(s:Re.St)(i0 i1 deep:Int)(ys:List Im):List Im:=if s.c 44=0 then ys.map (BL B f i0 i1 deep)else ys
def tY(s:Re.St)(i0 deep:Int)(ys:List Im):List Im:=ys.mapIdx (lnB (s.c 44) deep (Ju.row (Ju.starts (s.c 43) i0 (s.c 46) (uD ys)) ys.length))
theorem eU{o:Oper}{a:Act}{w:World}(ho:o.op=.alloc 46):(execOp a.eval o).run Tryz.prog w=.ok (.value (.pointer (some ⟨w.heap.size,0,none⟩))) (w.alloc (.cells (cells Re.zero) 46)):=by
 unfold execOp;simp only[ho,Sem.run_bind,Ar,Result.andThen_ok,Sem.run_pure]
theorem nH{o:Oper}{a:Act}{w:World}(x y:Operand)(ho:o.op=.store 46 x y){b:Nat}(hx:a.eval x=.pointer (some ⟨b,0,none⟩)){s t:Re.St}(hy:a.eval y=.agg (cells t))(hs:At w b (.cells (cells s) 46)):(execOp a.eval o).run Tryz.prog w=.ok .skip (w.setRow b (cells t)):=by
 unfold execOp;simp only[ho,hx,hy,Sem.run_bind,uZ hs,Result.andThen_ok,Sem.run_pure]
section
variable {Y:sj} {B:Int->Fw.Bx} {F:Int->Nat} {D:Int->Prop} {KM:World->Nat->Prop} {f:Nat} {w0:World} {P0:Nat->Prop}
theorem aaq{i0 i1:Int}{sz:List Int}{x:Im}(i:Nat)(h:Ll Y B D F f i0 x):Ll Y B D F f i0 (Yo B f i0 i1 sz i x):=⟨h.d,h.f,h.bx,h.m0,h.m1,h.m2,h.m3⟩
theorem aeG(hL:vJ Y B F D KM f)(hK:∀(X X':World) (b:Nat),KM X b->Below X.heap.size X X'->KM X' b)(qR:∀(X X':World) (b:Nat),KM X b->Out (λq=>q≠b) X X'->KM X' b)(hR0:RO w0 Y B D KM)(hkm:Y.km<w0.heap.size)
  (R q c:Nat) (z i0 i1 high:Int) (hz:D z) (xs:List Im) (cs:Array Value) (w:World) (n:Nat) (P:Nat->Prop) (hS:rA Y B F w0 P0 n P w) (hA:At w R (.cells cs 168)) (hI:fE cs q xs) (hok:∀x∈xs,Ll Y B D F f i0 x) (VI:¬ P R) (ru:w0.heap.size<=R) (hn:n+2*jh B f xs xs.length<maxLen) (hl:xs.length<=64) (s:Re.St) (hs:(B z).sty=s) (xs1 xs2:List Im) (deep:Int) (hx1:Ea B f s i0 i1 high xs=xs1) (hdp:I4 high xs1=deep) (hx2:tX B f s i0 i1 deep xs1=xs2) :
  Calls Tryz.prog 97 #[.pointer (some ⟨Y.lb,0,none⟩),.agg #[.int .i64 z,.int .i64 i0,.int .i64 i1],.slice (some ⟨R,q,none⟩) xs.length c,.int .i64 high] w λe w'=>e=.returned (.int .i64 deep) /\
   ∃n' P' cs',n'<=n+2*jh B f xs xs.length/\rA Y B F w0 P0 n' P' w'/\¬ P' R/\(∀b,b<w.heap.size->P' b->P b)/\At w' R (.cells cs' 168)/\fE cs' q (tY s i0 deep xs2)/\j5 q xs.length cs cs'/\Out (λb=>b=Y.pm\/b=R) w w':=by
 obtain⟨es0,RG,pU⟩:=hR0.EO;have ahi:Y.pm<R:=aV pU.lt ru;obtain⟨m,hm⟩:=aA xs.length;have HM:=ah hm;have HN:=ah hn;have HOK:=ah hok;have sV:=ah hR0;have QO:=ah hx1;have HDP:=ah hdp;have HX2:=ah hx2;have hRl:=hA.lt;have wL:=hS.ro qR hR0 hkm;have abI:=wL.look hz;obtain⟨b0,hb0⟩:=aA (Y.bl z);rw[hb0]at abI;have hbx:=(wL.box z hz).1;rw[hb0,hs]at hbx;have yc:=ah hbx.style;have qI:=wL.lay;have R4:=hbx.lt;obtain⟨lY,xw,xA,zu,zw,zy,zA⟩:=At.six qI;have b1:Below w.heap.size w (w.alloc (.cells #[.int .i64 z,.int .i64 i0,.int .i64 i1] 75)):=Below.alloc' aF _;have A0:At (w.alloc (.cells #[.int .i64 z,.int .i64 i0,.int .i64 i1] 75)) w.heap.size (.cells #[.int .i64 z,.int .i64 i0,.int .i64 i1] 75):=At.new _ _;have hS1:=hS.after b1;have hA1:=hA.keep b1;have Fh:=wL.keep hK b1;rw[hm]at hl ⊢;clear hn hok hR0 hS hA hm pU hx1 hdp hx2 hs hbx xw xA zu zw zy zA abI qI lY;go_enter Tryz.func97,Tryz.ntmps97
 go_upto_region 1 with(fail)
 generalize w.alloc (.cells #[.int .i64 z,.int .i64 i0,.int .i64 i1] 75)=w1 at *;have ahk:w.heap.size<w1.heap.size:=A0.lt;have hsz:=b1.size;have hlk:=λX (h:Below w1.heap.size w1 X)=>(Fh.keep hK h).look hz;simp only[hb0]at hlk;have VO:=ah (λj hj=>(b1.cell (p:=⟨b0,0+j,none⟩) R4).trans (yc.out j hj):uz w1 b0 0 s);have TH:b0<w1.heap.size:=aV R4 hsz;obtain⟨lY,xw,xA,zu,zw,zy,zA⟩:=At.six Fh.lay;obtain⟨l0,aB,aC,bH⟩:=At.three A0;have hSd:Below w1.heap.size w1 w1.drew:=Below.drew aF;refine lF (S:=λX=>Below w1.heap.size w1 X) 12 ?_ ?_
 . exact hSd
 intro hx;clear hSd;refine aM 0 ?_;refine aM 1 ?_;refine aM 2 ?_;refine aM 3 ?_;refine aM 4 ?_;refine aM 5 ?_;refine rO 6 rfl (eB aX rfl rfl rfl (λX h=>hlk X h)) ?_;refine aM 7 ?_;refine aM 8 ?_;refine rO 9 rfl (jd aX (.tmp 26) rfl rfl (λX h=>λj hj=>(h.cell (p:=⟨b0,0+j,none⟩) TH).trans (VO.out j hj))) ?_;refine tk1 10 ?_;refine ak.Step.value (eU rfl) ?_;obtain⟨w2,hw2,AS,hb2,gT⟩:∃w2,w2=w1.drew.alloc (.cells (cells Re.zero) 46)/\At w2 w1.drew.heap.size (.cells (cells Re.zero) 46)/\Below w1.drew.heap.size w1.drew w2/\w1.heap.size<=w1.drew.heap.size:=⟨_,rfl,At.new _ _,Below.alloc' aF _,hx.size⟩;rw[<-hw2];clear hw2;replace hx:=Below.ay hx aD hb2;generalize w1.drew.heap.size=T at *;refine⟨λ_=>hx,?_⟩
 (try simp only[bL,bM,bN,tks])
 refine tk1 11 ?_;refine ak.Step.skip (nH (.tmp 9) (.tmp 27) rfl rfl rfl AS) ?_;replace AS:At (w2.setRow T (cells s)) T (.cells (cells s) 46):=At.setRow AS _;have hx2:Below w1.heap.size w1 (w2.setRow T (cells s)):=bW hx gT _;generalize w2.setRow T (cells s)=w3 at *;refine⟨λ_=>hx2,?_⟩
 (try simp only[bL,bM,bN,tks])
 refine ko ?_;have aar:=hx2.size;have hO3:Out (λb=>b=Y.pm\/b=R) w w3:=Out.of_below (b1.trans (hx2.mono hsz));have uN:=hS1.after hx2;have hA3:=hA1.keep hx2;have B3:=A0.keep hx2;have EW:=uN.ro qR sV.out hkm;have hPw:=uN.lt;obtain⟨sz,hszz⟩:=aA (lnS B i0 (s.c 46) xs);have VP:Hid (xs.mapIdx (Yo B f i0 i1 sz)=xs1):=ah (by rw[<-hszz];exact QO.out);have HI:=ah hI;have ZY:Calls Tryz.prog 133 #[.slice (some ⟨R,q,none⟩) m c,.int .i64 0,.agg #[.int .i64 i0,.int .i64 i1],.int .i64 (s.c 46)] w3 λe w'=>(∃b,e=.returned (.slice (some ⟨b,0,none⟩) m m)/\w3.heap.size<=b/\Ints w' (some ⟨b,0,none⟩) sz)/\Below w3.heap.size w3 w':=by
  have e:=HM.out;subst e;have hg:∀i (h:i<xs.length),xs.getD i default=xs[i]:=λi h=>by rw[List.getD,List.getElem?_eq_getElem h];rfl
  have k:=Vz (some ⟨R,q,none⟩) xs c i0 i1 (s.c 46) (λi=>(xs.getD i default).it) (λi=>Vn (xs.getD i default) (B (xs.getD i default).ld.id).sty) (λi=>(B (xs.getD i default).ld.id).sty) w3 (hI.ims hA3) hl (λi h=>by simp only[hg i h]) (λi h=>by simp only[hg i h]) (λi h=>by
   have ho:=HOK.out xs[i] (List.getElem_mem _);have hb:=(EW.box _ ho.d).1;rw[<-ho.bx]at hb;simp only[hg i h]
   exact⟨_,_,_,hb⟩)
  rw[<-hszz];exact k
 have R5:sz.length=m:=by rw[<-hszz,<-HM.out];unfold lnS mM;simp
 have I5:w3.cell? ⟨T,46,none⟩=some (.int .i64 (s.c 46)):=(AS.cell 46).trans (bG s aj rfl);obtain⟨l0,aB,aC,bH⟩:=At.three B3;have lT:=AS.lt;clear hI b1 A0 hS1 hA1 Fh VO hlk xw xA zu zw zy zA lY yc wL hb2 hszz hx;have HRR:=ah EW;clear EW
 go_upto_region 3 with(go_at_call 133;(with_reducible refine ZY.mono ?_);rintro e' w4 ⟨⟨bz,rfl,gbz,xY⟩,hb4⟩)
 clear ZY;have aas:=ah xY;have hO4:Out (λb=>b=Y.pm\/b=R) w w4:=Out.trans' hO3 (Out.of_below (M:=λ_=>False) hb4) λ_ _ q=>q.elim;have Qk:=uN.after hb4;have Yp:=hA3.keep hb4;have B4:=B3.keep hb4;have VQ:=ah (AS.keep hb4);have acN:=hb4.size;have gT2:w.heap.size<T:=by have:=B3.lt;have h2:=ahk;omega
 clear hb4 xY AS B3 hA3 uN hO3 hx2 HRR
 go_loopw [35] (λiv wr=>∃(k n':Nat) (P':Nat->Prop) (cs':Array Value),k<=m/\iv=.int .i64 k/\n'<=n+jh B f xs k/\rA Y B F w0 P0 n' P' wr/\¬ P' R/\(∀b,b<w.heap.size->P' b->P b)/\At wr R (.cells cs' 168)/\Hid (fE cs' q (sD (Yo B f i0 i1 sz) xs k)/\j5 q m cs cs')/\At wr w.heap.size (.cells #[.int .i64 z,.int .i64 i0,.int .i64 i1] 75)/\Hid (At wr T (.cells (cells s) 46))/\Hid (Ints wr (some ⟨bz,0,none⟩) sz)/\Out (λb=>b=Y.pm\/b=R) w wr) (λiv _=>m-(intOf iv).toNat)
 case atStart=>exact⟨0,n,P,cs,fC _,rfl,by simp[jh],Qk,VI,λb hb h=>h,Yp,ah ⟨by rw[zX];exact HI.out,j5.refl _ _ _⟩,B4,VQ,aas,hO4⟩
 case round =>
  clear Qk Yp B4 VQ aas hO4 l0 aB aC bH lT I5;obtain⟨k,n',P',cs',hk,rfl,hn',hSr,wM,xP,hAr,hC,A0,hST,xY,hO⟩:=hrel;by_cases hlt:k<m
  . have hltz:(k:Int)<(m:Int):=by omega
    have hkx:k<xs.length:=by rw[HM.out];exact hlt
    have hkc:k<(sD (Yo B f i0 i1 sz) xs k).length:=by rw[iN];exact hkx
    have qG:=hC.out.1.at_ hAr hkc;rw[qy _ _ hkx]at qG;obtain⟨x,hx⟩:=aA (xs[k]);have mI:=ah (HOK.out x (hx▸List.getElem_mem _));rw[hx]at qG;have HX:=ah hx;have hRr:=hSr.ro qR sV.out hkm;have hbx:=(hRr.box x.ld.id mI.out.d).1;rw[<-mI.out.bx]at hbx;obtain⟨sx,hsx⟩:=aA ((B x.ld.id).sty);rw[hsx]at hbx;generalize Y.vf x.ld.id=vf at hbx;generalize Y.va x.ld.id=va at hbx;generalize (B x.ld.id).ib=ib at hbx;have HSX:=ah hsx;have Ym:=ah qG;have qx:=ah hSr;obtain⟨l2,aR,aS,aT,aU,bC,bD,bA,bB⟩:=At.bx0 hbx;clear aR aS aT aU bC bD;have BK:=hAr.lt;have Lm:wr.cell? ⟨R,q+k*17+12,none⟩=some (.pointer (some ⟨x.bx,0,none⟩)):=(qG 12 aj).trans rfl;have Ql:wr.cell? ⟨R,q+k*17+5,none⟩=some (.int .i64 x.ld.id):=(qG 5 aj).trans rfl;obtain⟨lz,cz⟩:=lints xY.out (by rw[R5];exact hlt);obtain⟨v,hv⟩:=aA (sz.getD k 0);rw[hv]at cz;obtain⟨l0,aB,aC,bH⟩:=At.three A0;clear hRr hbx qG hsx hx
    go_upto_region 6 with(fail)
    have aat:=ah (qx.out.after ((Below.refl wr.heap.size wr).drew));have hcs1:=sw B f xs hkx;rw[HX.out]at hcs1;have hcs2:=wC B f xs (k+1);have hnn:=HN.out;have uI:=λX=>dX (Fw.ed sx 3) (Fw.ed sx 1) X;obtain⟨e31,acO⟩:=aA (Fw.wr (Fw.ed sx 3+Fw.ed sx 1));simp only[acO]at uI;have aeH:Fw.iB sx 0=e31:=acO;clear acO;obtain⟨t0,ht0⟩:=aA (IntKind.i64.wrap (v+e31));have acI:(Fw.lay B f x.ld.id i0 i1 t0 (-1)).id=x.ld.id:=rfl;obtain⟨ly,qI⟩:=aA (Fw.lay B f x.ld.id i0 i1 t0 (-1));have HLF:=ah (show Yo B f i0 i1 sz k x={ x with ld:=ly }by unfold Yo;rw[HSX.out,hv,aeH,<-rH (v+e31),ht0,qI]);have JJ:ly.id=x.ld.id:=by rw[<-qI];rfl
    clear acI aeH hv;have M9:=ah (show q+k*17+5+7<=cs'.size by have:=hC.out.1.1;rw[iN]at this;have h2:k*17+17<=xs.length*17:=aj;omega);have n1:w.heap.size≠Y.pm:=by omega
    have n2:w.heap.size≠R:=by omega
    have n34:=sV.out.box x.ld.id mI.out.d;rw[<-mI.out.bx]at n34
    have n3:x.bx≠Y.pm:=λe=>by
     obtain⟨es1,ck1,hp1⟩:=sV.out.EO;have h1:=n34.1;rw[e]at h1;exact absurd (h1.symm.trans hp1) eZ
    have n4:x.bx≠R:=by have:=n34.1.lt;omega
    clear n34;have n5:bz≠Y.pm:=by omega
    have n6:bz≠R:=by omega
    have hSd:Out (λb=>b=Y.pm\/b=R) wr wr.drew/\wr.drew.cell? ⟨R,q+k*17+5,none⟩=some (.int .i64 x.ld.id)/\wr.drew.cell? ⟨R,q+k*17+12,none⟩=some (.pointer (some ⟨x.bx,0,none⟩)):=⟨(Out.refl _ _).drew,Ql,Lm⟩;refine lF (S:=λX=>Out (λb=>b=Y.pm\/b=R) wr X/\X.cell? ⟨R,q+k*17+5,none⟩=some (.int .i64 x.ld.id)/\X.cell? ⟨R,q+k*17+12,none⟩=some (.pointer (some ⟨x.bx,0,none⟩))) 26 ?_ ?_
    . exact hSd
    intro hx;clear hSd;refine gJ 0 ?_;refine gJ 1 ?_;refine gJ 2 ?_;refine gJ 3 ?_;refine gJ 4 ?_;refine gJ 5 ?_;refine gJ 6 ?_;refine gJ 7 ?_;refine gJ 8 ?_;refine gJ 9 ?_;refine gJ 10 ?_;refine gJ 11 ?_;refine gJ 12 ?_;refine gJ 13 ?_;refine gJ 14 ?_;refine gJ 15 ?_;refine gJ 16 ?_;refine gJ 17 ?_;refine gJ 18 ?_;refine tk1 19 ?_;refine ak.Step.call dV (uI _) ?_;rintro e' w6 ⟨rfl,hb6⟩;have mP:Out (λb=>b=Y.pm\/b=R) wr w6:=Out.trans' ((Out.refl _ wr).drew) (Out.of_below (M:=λ_=>False) hb6) λ_ _ q=>q.elim;have zo:=aat.out.after hb6;have xL:=hAr.keep ((Below.drew (Below.refl _ wr)).trans hb6);have B6:=A0.keep ((Below.drew (Below.refl _ wr)).trans hb6);have Ot:w6.cell? ⟨R,q+k*17+5,none⟩=some (.int .i64 x.ld.id):=(hb6.cell (p:=⟨R,_,none⟩) BK).trans Ql;have zY:w6.cell? ⟨R,q+k*17+12,none⟩=some (.pointer (some ⟨x.bx,0,none⟩)):=(hb6.cell (p:=⟨R,_,none⟩) BK).trans Lm;have hx6:Out (λb=>b=Y.pm\/b=R) wr w6/\w6.cell? ⟨R,q+k*17+5,none⟩=some (.int .i64 x.ld.id)/\w6.cell? ⟨R,q+k*17+12,none⟩=some (.pointer (some ⟨x.bx,0,none⟩)):=⟨mP,Ot,zY⟩;refine⟨_,rfl,λ_=>hx6,?_⟩
    (try simp only[bL,bM,bN,tks])
    refine gJ 20 ?_;refine gJ 21 ?_;have kr:=nJ hL qR sV.out hkm zo x.ld.id i0 i1 t0 (-1) mI.out.d mI.out.f aj;rw[qI]at kr;refine tk1 22 ?_;refine ak.Step.call dV kr ?_;rintro e' je ⟨rfl,n2',P2,hn2,nV,Cz,kV⟩;have oo:=xL.out (M:=λb=>b=Y.pm) aj kV;have TJ:=xL.lt;have uE:je.cell? ⟨R,q+k*17+5,none⟩=some (.int .i64 x.ld.id):=(Out.cell kV (q+k*17+5) TJ aj).trans Ot;have F8:je.cell? ⟨R,q+k*17+12,none⟩=some (.pointer (some ⟨x.bx,0,none⟩)):=(Out.cell kV (q+k*17+12) TJ aj).trans zY;have B10:=B6.out (M:=λb=>b=Y.pm) n1 kV;have qz:Out (λb=>b=Y.pm\/b=R) wr je:=mP.trans (kV.mono λb _ h => .inl h);have IZ:Out (λb=>b=Y.pm\/b=R) wr je/\je.cell? ⟨R,q+k*17+5,none⟩=some (.int .i64 x.ld.id)/\je.cell? ⟨R,q+k*17+12,none⟩=some (.pointer (some ⟨x.bx,0,none⟩)):=⟨qz,uE,F8⟩;refine⟨_,rfl,λ_=>IZ,?_⟩
    (try simp only[bL,bM,bN,tks])
    refine gJ 23 ?_;refine gJ 24 ?_;refine tk1 25 ?_;refine ak.Step.skip (fB og (.tmp 67) (.tmp 65) rfl rfl rfl oo (dG ly) M9.out (pJ ly)) ?_;have pz:At (je.setRow R (splice cs' (q+k*17+5) (eH ly))) R (.cells (splice cs' (q+k*17+5) (eH ly)) 168):=At.setRow oo _;have jL:Out (λb=>b=R) je (je.setRow R (splice cs' (q+k*17+5) (eH ly))):=Out.setRow (M:=λb=>b=R) (Out.refl _ _) rfl _;have Bb:(je.setRow R (splice cs' (q+k*17+5) (eH ly))).cell? ⟨R,q+k*17+5,none⟩=some (.int .i64 x.ld.id):=by
     exact Z22
    have Gx:(je.setRow R (splice cs' (q+k*17+5) (eH ly))).cell? ⟨R,q+k*17+12,none⟩=some (.pointer (some ⟨x.bx,0,none⟩)):=by
     exact Z38
    refine⟨λ_=>⟨qz.trans (jL.mono λb _ h => .inr h),Bb,Gx⟩,?_⟩
    (try simp only[bL,bM,bN,tks])
    refine ko ?_;have rC:¬ P2 R:=λh=>wM (Cz R TJ h);have hput:=hC.out.1.Qg hkc ly;rw[qy _ _ hkx,HX.out]at hput
    have VN:Hid (fE (splice cs' (q+k*17+5) (eH ly)) q (sD (Yo B f i0 i1 sz) xs (k+1))/\j5 q m cs (splice cs' (q+k*17+5) (eH ly))):=ah ⟨by
     rw[<-zW _ _ hkx,HX.out,HLF.out]
     exact hput.1,hC.out.2.trans (by have:=hput.2;rw[iN,HM.out]at this;exact this)⟩
    have rD:=nV.own (M:=λb=>b=R) jL λb hb h=>by subst h;exact⟨rC,ru⟩
    have pE:Out (λb=>b=Y.pm\/b=R) w (je.setRow R (splice cs' (q+k*17+5) (eH ly))):=(hO.trans qz).trans (jL.mono λb _ h => .inr h);have B11:=B10.out (M:=λb=>b=R) n2 jL;have hOr:Out (λb=>b=Y.pm\/b=R) wr (je.setRow R (splice cs' (q+k*17+5) (eH ly))):=qz.trans (jL.mono λb _ h => .inr h);have uF:=ah (hST.out.out (M:=λb=>b=Y.pm\/b=R) aj hOr);have Gy:=ah (vK xY.out hOr aj);have acJ:∀b,b<w.heap.size->P2 b->P b:=λb hb h=>xP b hb (Cz b (aV hb (aJ hO.size mP.size)) h);generalize je.setRow R (splice cs' (q+k*17+5) (eH ly))=cZ at *;generalize splice cs' (q+k*17+5) (eH ly)=cs2 at *;clear hx hx6 IZ hput oo jL Bb uE F8 Gx B10 B6 A0 xL zo mP kV qz Ot zY l0 aB aC bH l2 bA bB cz lz Lm Ql hOr Cz nV;go_wp2
    go_roundw
    case rel=>exact⟨k+1,n2',P2,cs2,by omega,by go_num,by omega,rD,rC,acJ,pz,VN,B11,uF,Gy,pE⟩
    case measure=>simp[intOf];omega
  . obtain rfl:k=m:=by omega
    have hlen1:xs1.length=k:=by rw[<-VP.out,List.length_mapIdx,HM.out]
    have R6:Hid (fE cs' q xs1/\j5 q k cs cs'):=ah (by
     have:=hC.out;rw[<-HM.out,D9,VP.out]at this;rw[<-HM.out]
     exact this)
    have I6:Hid (∀x∈xs1,Ll Y B D F f i0 x):=ah (by
     rw[<-VP.out];intro x hx;obtain⟨i,hi,e⟩:=List.mem_mapIdx.1 hx;rw[<-e]
     exact aaq i (HOK.out _ (List.getElem_mem _)))
    have acP:Hid (jh B f xs1 xs1.length=jh B f xs xs.length):=ah (by
     rw[<-VP.out];unfold jh;rw[List.take_length,List.take_length];congr 1
     exact List.ext_getElem eZ λi h1 h2=>by simp[Yo];rfl)
    have hn1:n'<=n+jh B f xs xs.length:=by have:=hn';rw[HM.out];exact this
    have zZ:=ah hlen1;have aeI:Hid (deep=if high = -1 then (oU xs1).foldl max 0 else high):=ah HDP.out.symm;have Bt:=Vy (some ⟨R,q,none⟩) xs1 c wr (R6.out.1.ims hAr) aj;rw[hlen1]at Bt;clear hlen1 hC hn' hlt QO VP HDP HI;have qx:=ah hSr
    go_upto_if 70 with(fail)
    go_cut [3]from 69 to 73 (λv w2=>v=.int .i64 deep/\Below wr.heap.size wr w2)
    case first =>
     by_cases hh:high = -1
     . have e1:=aeI.out
       rw[if_pos hh]at e1;have E1:=ah e1;clear e1
       go_wp2_with (go_at_call 134;(with_reducible refine Bt.mono ?_);rintro e' w5 ⟨rfl,hb⟩)
       go_meet
       case rel=>exact⟨by rw[E1.out],hb⟩
     . have e1:=aeI.out
       rw[if_neg hh]at e1;exact Z41
    case rest =>
     obtain⟨rfl,hb5⟩:=hcut;have hs5:=hb5.size;have hwr:=hO.size;have hS5:=qx.out.after hb5;have xK:=hAr.keep hb5;have B5:=A0.keep hb5;have Ou:=ah (hST.out.keep hb5);have JF:Out (λb=>b=Y.pm\/b=R) w wc:=Out.trans' hO (Out.of_below (M:=λ_=>False) hb5) λ_ _ q=>q.elim;have VR:wc.cell? ⟨T,44,none⟩=some (.int .i64 (s.c 44)):=(Ou.out.cell 44).trans (bG s aj rfl);have lT:=Ou.out.lt;obtain⟨l0,aB,aC,bH⟩:=At.three B5;have wN:=VK hL hK qR sV.out hkm R q c i0 i0 i1 deep xs1 cs' wc n' P' hS5 xK R6.out.1 I6.out wM ru (by rw[acP.out];have:=HN.out;omega) (by rw[zZ.out];omega);rw[acP.out,zZ.out]at wN;have hPc:∀b,b<w.heap.size->b<wc.heap.size:=λb h=>by omega
     have HPC:=ah hPc;clear Bt hPc
     go_upto_if 75 with(fail)
     go_cut []from 73 to 82 (λw2=>∃(n2:Nat) (P2:Nat->Prop) (cs2:Array Value),n2<=n+2*jh B f xs xs.length/\rA Y B F w0 P0 n2 P2 w2/\¬ P2 R/\(∀b,b<w.heap.size->P2 b->P b)/\At w2 R (.cells cs2 168)/\Hid (fE cs2 q xs2/\j5 q k cs cs2)/\Out (λb=>b=Y.pm\/b=R) wc w2)
     case first =>
      by_cases hh:s.c 44=0
      . have e1:=HX2.out
        unfold tX at e1;rw[if_pos hh]at e1;have E1:=ah e1;clear e1
        go_wp2_with (go_at_call 135;(with_reducible refine wN.mono ?_);rintro e' w6 ⟨rfl,n2,P2,cs2,hn2,zo,rC,hP2,xL,hI6,hM6,mP⟩)
        go_meet
        case rel=>exact⟨n2,P2,cs2,by omega,zo,rC,λb hb h=>xP b hb (hP2 b (HPC.out b hb) h),xL,ah ⟨by rw[<-E1.out];exact hI6,R6.out.2.trans hM6⟩,mP⟩
      . have e1:=HX2.out
        unfold tX at e1;rw[if_neg hh]at e1;have E1:=ah e1;clear e1;go_wp2
        go_meet
        case rel=>exact⟨n',P',cs',by omega,hS5,wM,xP,xK,ah (by rw[<-E1.out];exact R6.out),Out.refl _ _⟩
     case rest =>
      obtain⟨n2,P2,cs2,hn2,zo,rC,hP2,xL,hC6,mP⟩:=hcut
      have HL2:Hid (xs2.length=k):=ah (by
       rw[<-HX2.out];unfold tX;split
       . rw[List.length_map,zZ.out]
       . exact zZ.out)
      have hs6:=mP.size;have B6:=B5.out (M:=λb=>b=Y.pm\/b=R) aj mP;have VU:=ah (Ou.out.out (M:=λb=>b=Y.pm\/b=R) aj mP);have aeJ:Out (λb=>b=Y.pm\/b=R) w wc:=JF.trans mP;clear wN mP JF Ou B5 xK hS5 hn1 HX2 I6 acP wM xP VR l0 aB aC bH hO hST xY A0 hAr qx hSr R6 hb5;have acQ:wc.cell? ⟨T,43,none⟩=some (.int .i64 (s.c 43)):=(VU.out.cell 43).trans (bG s aj rfl);have I5:wc.cell? ⟨T,46,none⟩=some (.int .i64 (s.c 46)):=(VU.out.cell 46).trans (bG s aj rfl);have lT6:=VU.out.lt;have TJ:=xL.lt;obtain⟨l0,aB,aC,bH⟩:=At.three B6;have hSd:Below wc.heap.size wc wc.drew:=Below.drew aF
      go_upto_region 12 with(fail)
      refine lF (S:=λX=>Below wc.heap.size wc X) 12 ?_ ?_
      . exact hSd
      intro hx;clear hSd;refine aM 0 ?_;refine aM 1 ?_;refine aM 2 ?_;refine aM 5 ?_;refine aM 6 ?_;refine aM 7 ?_;refine aM 8 ?_;refine aM 9 ?_;refine tk1 3 ?_;refine ak.Step.call dV (oQ 0 _) ?_;rintro e' w7 ⟨rfl,hw7⟩;have wX:Below wc.drew.heap.size wc.drew w7:=hw7▸Below.alloc' aF _;have AQ:At w7 wc.drew.heap.size (.cells #[.int .i64 0] 3):=hw7▸At.new _ _;clear hw7;replace hx:=Below.ay hx aD wX;generalize wc.drew.heap.size=Bq at *;refine⟨_,rfl,λ_=>hx,?_⟩
      (try simp only[bL,bM,bN,tks])
      have oD:=acB (some ⟨R,q,none⟩) xs2 c Bq w7 (hC6.out.1.ims (xL.keep hx)) (by rw[HL2.out];omega) (AQ.cell 0) AQ.lt;rw[HL2.out]at oD;refine tk1 4 ?_;refine ak.Step.call dV oD ?_;rintro e' w8 ⟨⟨bt,rfl,gbt,hT⟩,wW⟩;replace hx:=Below.ay hx aD wW;refine⟨_,rfl,λ_=>hx,?_⟩
      (try simp only[bL,bM,bN,tks])
      have R7:=D8 (some ⟨bt,0,none⟩) (uD xs2) k k (s.c 43) i0 (s.c 46) w8 (by
       have h1:=gM _ _ JK hT;have h2:=sF (uD xs2);rw[yT,HL2.out]at h2;rw[h2]at h1
       exact h1) (by rw[yT,HL2.out]) aD aj
      refine tk1 10 ?_;refine ak.Step.call dV R7 ?_;rintro e' w9 ⟨⟨bst,rfl,gst,Ov⟩,gV⟩;replace hx:=Below.ay hx aD gV;refine⟨_,rfl,λ_=>hx,?_⟩
      (try simp only[bL,bM,bN,tks])
      refine aM 11 ?_;refine ko ?_;have Yk:=hx.size;have ai3:wc.heap.size<=bst:=by
       have h1:=wX.size;have h2:=wW.size;simp only[World.size_drew]at h1;omega
      have qF:=xL.keep hx;have MQ:=zo.after hx;have VW:=ah (VU.out.keep hx);have JC:Out (λb=>b=Y.pm\/b=R) w w9:=Out.trans' aeJ (Out.of_below (M:=λ_=>False) hx) λ_ _ q=>q.elim;obtain⟨stl,aau⟩:=aA (Ju.row (Ju.starts (s.c 43) i0 (s.c 46) (uD xs2)) k);rw[aau]at Ov;have aeK:stl.length=k:=by rw[<-aau,Ju.qd]
      have HBG:Hid (tY s i0 deep xs2=xs2.mapIdx (lnB (s.c 44) deep stl)):=ah (by unfold tY;rw[HL2.out,aau]);have ahl:=ah aeK;have aeL:=ah Ov;have hgT:T<w9.heap.size:=aV lT6 Yk;clear aau aeK Ov hx xL zo VU aeJ B6 oD R7 hT gbt gst wX wW gV AQ acQ I5 l0 aB aC bH lT6 TJ
      go_upto_region 14 with(fail)
      go_loopw [95] (λiv wr=>∃(j:Nat) (z8:Array Value),j<=k/\iv=.int .i64 j/\rA Y B F w0 P0 n2 P2 wr/\At wr R (.cells z8 168)/\Hid (fE z8 q (sD (lnB (s.c 44) deep stl) xs2 j)/\j5 q k cs z8)/\Hid (At wr T (.cells (cells s) 46))/\Hid (Ints wr (some ⟨bst,0,none⟩) stl)/\Out (λb=>b=Y.pm\/b=R) w wr) (λiv _=>k-(intOf iv).toNat)
      case atStart=>exact⟨0,cs2,fC _,rfl,MQ,qF,ah ⟨by rw[zX];exact hC6.out.1,hC6.out.2⟩,VW,aeL,JC⟩
      case round =>
       clear MQ qF VW aeL JC hC6;obtain⟨j,z8,hj,rfl,hSr,hAr,hC,hST,xY,hO⟩:=hrel;by_cases hlt:j<k
       . have hltz:(j:Int)<(k:Int):=by omega
         have hkx:j<xs2.length:=by rw[HL2.out];exact hlt
         have hkc:j<(sD (lnB (s.c 44) deep stl) xs2 j).length:=by rw[iN];exact hkx
         have qG:=hC.out.1.at_ hAr hkc;rw[qy _ _ hkx]at qG;obtain⟨x,hx⟩:=aA (xs2[j]);rw[hx]at qG;have HX:=ah hx;have Ym:=ah qG;have qx:=ah hSr;have BK:=hAr.lt;obtain⟨lz,cz⟩:=lints xY.out (by rw[ahl.out];exact hlt);obtain⟨v,hv⟩:=aA (stl.getD j 0);rw[hv]at cz;have HV:=ah hv;have VR:wr.cell? ⟨T,44,none⟩=some (.int .i64 (s.c 44)):=(hST.out.cell 44).trans (bG s aj rfl);have lTr:=hST.out.lt;clear qG hx hv hSr
         go_upto_region 17 with(fail)
         have hSd:Below wr.heap.size wr wr.drew:=Below.drew aF;refine lF (S:=λX=>Below wr.heap.size wr X) 10 ?_ ?_
         . exact hSd
         intro hx;clear hSd;refine aM 0 ?_;refine aM 1 ?_;refine aM 3 ?_;refine aM 4 ?_;refine rO 5 rfl (DY (.tmp 107) aX rfl rfl (λX h=>rz.keep Ym.out h BK)) ?_;refine aM 7 ?_;refine tk1 2 ?_;refine ak.Step.call dV (oQ 1 _) ?_;rintro e' w7 ⟨rfl,hw7⟩;have wX:Below wr.drew.heap.size wr.drew w7:=hw7▸Below.alloc' aF _;have AQ:At w7 wr.drew.heap.size (.cells #[.int .i64 1] 3):=hw7▸At.new _ _;clear hw7;replace hx:=Below.ay hx aD wX;generalize wr.drew.heap.size=Bq at *;refine⟨_,rfl,λ_=>hx,?_⟩
         (try simp only[bL,bM,bN,tks])
         refine tk1 6 ?_;refine ak.Step.call dV (Qe x Bq w7 (AQ.cell 0)) ?_;rintro e' w8 ⟨rfl,wW⟩;replace hx:=Below.ay hx aD wW;refine⟨_,rfl,λ_=>hx,?_⟩
         (try simp only[bL,bM,bN,tks])
         refine tk1 8 ?_;refine ak.Step.call dV (Bc (s.c 44) (AZ x) deep w8) ?_;rintro e' w9 ⟨rfl,rfl⟩;refine⟨_,rfl,λ_=>hx,?_⟩
         (try simp only[bL,bM,bN,tks])
         refine aM 9 ?_;refine ko ?_;have hs8:=hx.size;have NV:=hAr.keep hx;have hS8:=qx.out.after hx;have aeM:=ah (hST.out.keep hx);have aeN:=ah (xY.out.keep hx λ_ a ha=>by injection ha with ha;rw[<-ha];exact lz);have hO8:Out (λb=>b=Y.pm\/b=R) w w8:=Out.trans' hO (Out.of_below (M:=λ_=>False) hx) λ_ _ q=>q.elim;have acR:=ah (rz.keep (x:=x) Ym.out hx BK);have c13:w8.cell? ⟨R,q+j*17+13,none⟩=some (.int .i64 x.m0):=(acR.out 13 aj).trans rfl;have c15:w8.cell? ⟨R,q+j*17+15,none⟩=some (.int .i64 x.m2):=(acR.out 15 aj).trans rfl;obtain⟨la,hla⟩:=aA (Ju.across (s.c 44) (AZ x) deep);rw[hla];obtain⟨p0,hp0⟩:=aA (IntKind.i64.wrap (v+x.m0));obtain⟨p1,hp1⟩:=aA (IntKind.i64.wrap (la+x.m2));have HLB:=ah (show lnB (s.c 44) deep stl j x={ x with ld:={ x.ld with a0:=p0,a1:=p1 } }by unfold lnB;rw[HV.out,hla,<-rH (v+x.m0),<-rH (la+x.m2),hp0,hp1]);have hFI:q+j*17+10+2<=z8.size:=by
          have:=hC.out.1.1;rw[iN]at this;have h2:j*17+17<=xs2.length*17:=by omega
          omega
         have M9:=ah hFI;clear hla wX wW AQ hx hAr hST xY hO Ym qx cz lz VR lTr hFI HV BK;have lR8:=NV.lt
         go_upto_region 18 with(fail)
         have hSd:Out (λb=>b=R) w8 w8.drew/\w8.drew.cell? ⟨R,q+j*17+13,none⟩=some (.int .i64 x.m0)/\w8.drew.cell? ⟨R,q+j*17+15,none⟩=some (.int .i64 x.m2):=⟨(Out.refl _ _).drew,c13,c15⟩;refine lF (S:=λX=>Out (λb=>b=R) w8 X/\X.cell? ⟨R,q+j*17+13,none⟩=some (.int .i64 x.m0)/\X.cell? ⟨R,q+j*17+15,none⟩=some (.int .i64 x.m2)) 22 ?_ ?_
         . exact hSd
         intro hx;clear hSd;refine aW 0 ?_;refine aW 1 ?_;refine aW 2 ?_;refine aW 3 ?_;refine aW 4 ?_;refine aW 5 ?_;refine aW 6 ?_;refine aW 7 ?_;refine aW 8 ?_;refine aW 9 ?_;refine aW 10 ?_;refine aW 11 ?_;refine aW 12 ?_;refine aW 13 ?_;refine aW 14 ?_;refine aW 15 ?_;refine aW 16 ?_;refine aW 17 ?_;refine aW 18 ?_;refine aW 19 ?_;refine aW 20 ?_;refine tk1 21 ?_;have VX:At w8.drew R (.cells z8 168):=NV;refine ak.Step.skip (fB acv (.tmp 132) (.tmp 129) rfl rfl rfl VX rfl M9.out JB) ?_;have pz:=At.setRow VX (splice z8 (q+j*17+10) #[.int .i64 p0,.int .i64 p1]);have jL:Out (λb=>b=R) w8.drew (w8.drew.setRow R (splice z8 (q+j*17+10) #[.int .i64 p0,.int .i64 p1])):=Out.setRow (M:=λb=>b=R) (Out.refl _ _) rfl _;have aeO:(w8.drew.setRow R (splice z8 (q+j*17+10) #[.int .i64 p0,.int .i64 p1])).cell? ⟨R,q+j*17+13,none⟩=some (.int .i64 x.m0):=by
          have h1:=iP (cs:=z8) (vs:=#[.int .i64 p0,.int .i64 p1]) (q:=q+j*17+10) (k:=q+j*17+13) M9.out (.inr eZ);rw[pz.cell,h1,<-VX.cell];exact c13
         have aeP:(w8.drew.setRow R (splice z8 (q+j*17+10) #[.int .i64 p0,.int .i64 p1])).cell? ⟨R,q+j*17+15,none⟩=some (.int .i64 x.m2):=by
          have h1:=iP (cs:=z8) (vs:=#[.int .i64 p0,.int .i64 p1]) (q:=q+j*17+10) (k:=q+j*17+15) M9.out (.inr eZ);rw[pz.cell,h1,<-VX.cell];exact c15
         refine⟨λ_=>⟨((Out.refl _ w8).drew).trans jL,aeO,aeP⟩,?_⟩
         (try simp only[bL,bM,bN,tks])
         refine ko ?_;have JD:Out (λb=>b=R) w8 (w8.drew.setRow R (splice z8 (q+j*17+10) #[.int .i64 p0,.int .i64 p1])):=((Out.refl _ w8).drew).trans jL;have hput:=hC.out.1.putAt hkc p0 p1;rw[qy _ _ hkx,HX.out]at hput
         have VN:Hid (fE (splice z8 (q+j*17+10) #[.int .i64 p0,.int .i64 p1]) q (sD (lnB (s.c 44) deep stl) xs2 (j+1))/\j5 q k cs (splice z8 (q+j*17+10) #[.int .i64 p0,.int .i64 p1])):=ah ⟨by
          rw[<-zW _ _ hkx,HX.out,HLB.out]
          exact hput.1,hC.out.2.trans (by have:=hput.2;rw[iN,HL2.out]at this;exact this)⟩
         have rD:=hS8.own (M:=λb=>b=R) JD λb hb h=>by subst h;exact⟨rC,ru⟩
         have pE:Out (λb=>b=Y.pm\/b=R) w (w8.drew.setRow R (splice z8 (q+j*17+10) #[.int .i64 p0,.int .i64 p1])):=hO8.trans (JD.mono λb _ h => .inr h);have uF:=ah (aeM.out.out (M:=λb=>b=R) aj JD);have Gy:=ah (vK aeN.out JD aj);generalize w8.drew.setRow R (splice z8 (q+j*17+10) #[.int .i64 p0,.int .i64 p1])=cZ at *;generalize splice z8 (q+j*17+10) #[.int .i64 p0,.int .i64 p1]=cs4 at *;clear hx hput NV VX jL JD c13 c15 aeO aeP hS8 aeM aeN hO8 acR hp0 hp1;go_wp2
         go_roundw
         case rel=>exact⟨j+1,cs4,by omega,by go_num,rD,pz,VN,uF,Gy,pE⟩
         case measure=>simp[intOf];omega
       . obtain rfl:j=k:=by omega
         go_wp2
         go_ret
         refine⟨rfl,n2,P2,z8,by rw[HM.out]at hn2;exact hn2,hSr,rC,hP2,hAr,?_,hC.out.2,hO⟩;have:=hC.out.1;rw[<-HL2.out,D9,<-HBG.out]at this;exact this
end
def yU(it:Nat->Fe.It)(ex:Nat->Int)(n:Nat)(r1 gap:Int):List Int :=
 if r1 ≠ -1/\n<=64 then mM it n (qb (Fw.wr (r1-Fw.wr (gap*Fw.wr ((n:Int)-1)))) ex n)else Ju.row (λi=>Fe.clamp (it i) (it i).b) n
theorem I7(it:Nat->Fe.It)(ex:Nat->Int)(n:Nat)(r1 gap:Int):(yU it ex n r1 gap).length=n:=by
 unfold yU;split
 . simp[mM]
 . exact Ju.qd _ _
theorem aav(A:Option Addr)(xs:List Im)(c:Nat)(r0 r1 gap:Int)(it:Nat->Fe.It)(ex:Nat->Int)(st:Nat->Re.St)(w:World)(hx:IU w A xs)(hl:xs.length<=10000)(hit:∀i (h:i<xs.length),it i=xs[i].it)(hex:∀i (h:i<xs.length),ex i=ext1 xs[i] (st i))(hbx:∀i (h:i<xs.length),∃fl ap ib,aL w xs[i].bx (st i) fl ap ib) :
  Calls Tryz.prog 99 #[.slice A xs.length c,.agg #[.int .i64 r0,.int .i64 r1],.int .i64 gap] w λe w' =>
   (∃b,e=.returned (.slice (some ⟨b,0,none⟩) xs.length xs.length)/\w.heap.size<=b/\Ints w' (some ⟨b,0,none⟩) (yU it ex xs.length r1 gap))/\Below w.heap.size w w':=by
 have b1:Below w.heap.size w (w.alloc (.cells #[.int .i64 r0,.int .i64 r1] 71)):=Below.alloc' aF _;have A0:At (w.alloc (.cells #[.int .i64 r0,.int .i64 r1] 71)) w.heap.size (.cells #[.int .i64 r0,.int .i64 r1] 71):=At.new _ _;obtain⟨w1,hw1⟩:=aA (w.alloc (.cells #[.int .i64 r0,.int .i64 r1] 71));rw[hw1]at b1 A0;have hx1:IU w1 A xs:=hx.after b1
 have key1:=λh64=>VD A xs c r0 r1 gap it ex st w1 hx1 h64 hit hex (λi h=>by
  obtain⟨fl,ap,ib,q⟩:=hbx i h
  exact⟨fl,ap,ib,aL.keep q b1⟩)
 have key2:=acA #[] (λi=>Fe.clamp (it i) (it i).b) A xs c w1 hx1 hl (λi h X hb=>by
  simp only[hit i h]
  exact acu xs[i] X)
 obtain⟨m,hm⟩:=aA xs.length;rw[hm]at hl key1 key2 ⊢;have HW1:=ah hw1;have HB1:=ah b1;have hsz:=b1.size;clear hx hx1 hit hex hbx hm hw1 b1;obtain⟨l0,aB,aC⟩:=At.two A0;obtain⟨ans,iM⟩:=aA (yU it ex m r1 gap);rw[iM];unfold yU at iM;go_enter Tryz.func99,Tryz.ntmps99
 go_upto_region 1 with(fail)
 rw[HW1.out];by_cases hc:r1 = -1
 . rw[if_neg aj]at iM
   have gY:=ah iM;clear iM key1;exact Z2q
 . by_cases h64:m<=64
   . rw[if_pos ⟨hc,h64⟩]at iM
     replace key1:=key1 h64;rw[iM]at key1;clear key2 iM;have ahm:(m:Int)<=64:=by omega
     go_wp2_with (go_at_call 133;(with_reducible refine key1.mono ?_);rintro e' w4 ⟨⟨b,rfl,gb,hT⟩,hb4⟩)
     go_ret
     exact⟨⟨b,rfl,aJ hsz gb,hT⟩,HB1.out.trans (hb4.mono hsz)⟩
   . rw[if_neg aj]at iM
     have gY:=ah iM;clear iM key1;have ahm:¬ (m:Int)<=64:=by omega
     exact Z2q
theorem VY(W:World):(isAgg 112).run Tryz.prog W=.ok true W:=by kernel_rfl
theorem VZ(W:World):(sizeOf 112).run Tryz.prog W=.ok 6 W:=by kernel_rfl
theorem p8{ops:Array Oper}{S:World->Prop}{o:Oper}{a:Act}(p:Operand){b:Nat}{s:Re.St}{fl ap:Value}{ib:Bool}(hw:Region.wanted o (yielded ops a.tmps)=true)(ho:o.op=.load 112 p)(hp:a.eval p=.pointer (some ⟨b,55,none⟩))(h:∀X,S X->aL X b s fl ap ib):ak.Reads Tryz.prog ops S o (.agg #[.int .i64 (s.c 3),.int .i64 (s.c 4),.int .i64 (s.c 7),.int .i64 (s.c 8),.int .i64 (s.c 11),.int .i64 (s.c 12)]) a :=
 .inl ⟨hw,λX hX=>nM VY VZ p ho hp rfl λj hj=>by
  obtain⟨l2,c0,c1,c2,c3,c4,c5,_⟩:=At.bx0 (h X hX)
  match j,hj with
  | 0,_=>exact c0
  | 1,_=>exact c1
  | 2,_=>exact c2
  | 3,_=>exact c3
  | 4,_=>exact c4
  | 5,_=>exact c5⟩
theorem Ow{ops:Array Oper}{S:World->Prop}{o:Oper}{a:Act}(p:Operand){b:Nat}{s:Re.St}{fl ap:Value}{ib:Bool}(hw:Region.wanted o (yielded ops a.tmps)=true)(ho:o.op=.load 112 p)(hp:a.eval p=.pointer (some ⟨b,61,none⟩))(h:∀X,S X->aL X b s fl ap ib):ak.Reads Tryz.prog ops S o (.agg #[.int .i64 (s.c 5),.int .i64 (s.c 6),.int .i64 (s.c 9),.int .i64 (s.c 10),.int .i64 (s.c 13),.int .i64 (s.c 14)]) a :=
 .inl ⟨hw,λX hX=>nM VY VZ p ho hp rfl λj hj=>by
  obtain⟨l2,c0,c1,c2,c3,c4,c5,_⟩:=At.bx1 (h X hX)
  match j,hj with
  | 0,_=>exact c0
  | 1,_=>exact c1
  | 2,_=>exact c2
  | 3,_=>exact c3
  | 4,_=>exact c4
  | 5,_=>exact c5⟩
section
variable {Y:sj} {B:Int->Fw.Bx} {D:Int->Prop} {KM:World->Nat->Prop}
theorem Qm(hK:∀(X X':World) (b:Nat),KM X b->Below X.heap.size X X'->KM X' b)(z k i0 i1:Int)(hz:D z)(hk:D k)(bk:Nat)(hbk:bk=Y.bl k)(w:World)(hR:RO w Y B D KM) :
  Calls Tryz.prog 98 #[.pointer (some ⟨Y.lb,0,none⟩),.agg #[.int .i64 z,.int .i64 i0,.int .i64 i1],.pointer (some ⟨bk,0,none⟩)] w λe w'=>e=.returned (.agg #[.int .i64 (Fw.fq B z i0 k),.int .i64 (-1)])/\Below w.heap.size w w':=by
 obtain⟨ans,iM⟩:=aA (Fw.fq B z i0 k);rw[iM];unfold Fw.fq Fw.zJ at iM;obtain⟨sk,hsk⟩:=aA ((B k).sty);obtain⟨sz,hsz⟩:=aA ((B z).sty);rw[hsk,hsz]at iM;simp only[Nat.mul_zero,Nat.add_zero]at iM;have gY:=ah iM;have HBK:=ah hbk;have HSK:=ah hsk;have HSZ:=ah hsz;clear iM hbk hsk hsz;go_enter Tryz.func98,Tryz.ntmps98
 go_upto_region 1 with(fail)
 generalize hW:World.alloc _ _=W0;have A0:At W0 w.heap.size (.cells #[.int .i64 z,.int .i64 i0,.int .i64 i1] 75):=hW▸At.alloc (At.new _ _) _;have A1:At W0 (w.heap.size+1) (.cells #[.int .i64 0,.int .i64 0] 71):=hW▸At.new' _ eZ;have hB0:Below w.heap.size w W0:=hW▸Below.alloc' (Below.alloc' aF _) _;clear hW
 go_upto_region 2 with(go_at_call 26;(with_reducible refine(iT _).mono ?_);rintro e' w4 ⟨rfl,hb4⟩)
 generalize hW:World.alloc _ _=W1;have A2:At W1 w4.heap.size (.cells #[.int .i64 (-1),.int .i64 (-1)] 71):=hW▸At.new _ _;have hb5:Below W0.heap.size W0 W1:=hW▸(hb4.trans (Below.mono (Below.alloc' aF _) hb4.size));clear hW;have gS:W0.heap.size<=w4.heap.size:=hb4.size;generalize w4.heap.size=T at *;clear hb4;have l1':=A1.lt;have hnT:w.heap.size+1≠T:=by omega
 have ai4:w.heap.size≠T:=by omega
 have hgT:w.heap.size<=T:=by omega
 replace A0:=A0.keep hb5;replace A1:=A1.keep hb5;have hB1:Below w.heap.size w W1:=Below.ay hB0 aD hb5;have ru:=hR.keep hK hB1;have hbx:=(ru.box k hk).1;rw[<-HBK.out,HSK.out]at hbx;have hbz:=(ru.box z hz).1;obtain⟨bz,acS⟩:=aA (Y.bl z);rw[acS,HSZ.out]at hbz;have hlk:=λX (h:Below W1.heap.size W1 X)=>(ru.keep hK h).look hz;simp only[acS]at hlk;have c44:W1.cell? ⟨bz,44,none⟩=some (.int .i64 (sz.c 44)):=aL.int hbz 44 aj rfl;have JA:=aL.lt hbz;have I8:=ru.lay;generalize Y.vf k=vf at hbx;generalize Y.va k=va at hbx;generalize (B k).ib=ib at hbx;have qE:=ah hbx;obtain⟨l2,aR,aS,aT,aU,bC,bD,bA,bB⟩:=At.bx0 hbx;obtain⟨lY,xw,xA,zu,zw,zy,zA⟩:=At.six I8;obtain⟨l0,aB,aC,bH⟩:=At.three A0;clear hbx hbz I8 ru hR hB0 acS hb5;have hSd:Below W1.heap.size W1 W1.drew:=Below.drew aF;cases hfx:Fx.jg (sk.c 3) i0 with
 | true =>
   have E:Hid (-1=ans):=ah (by rw[<-gY.out,hfx];simp);have Tk:=ah hfx;clear hfx gY;refine lF (S:=λX=>Below W1.heap.size W1 X) 24 ?_ ?_
   . exact hSd
   intro hx;clear hSd;refine aM 0 ?_;refine aM 1 ?_;refine aM 2 ?_;refine aM 3 ?_;refine rO 4 rfl (p8 (.tmp 12) aX rfl rfl (λX h=>qE.out.keep h)) ?_;refine aM 5 ?_;refine aM 6 ?_;refine aM 7 ?_;refine tk1 8 ?_;refine ak.Step.call Z4p (jq _ _ _ _ _ _ _ _) ?_;rintro e' w6 ⟨rfl,hb⟩;rw[Tk.out];replace hx:=Below.ay hx aD hb;clear hb;refine⟨_,rfl,λ_=>hx,?_⟩
   (try simp only[bL,bM,bN,tks])
   refine aM 9 ?_;refine aM 10 ?_;refine aM 11 ?_;refine aM 12 ?_;refine aM 13 ?_;refine aM 14 ?_;refine aM 15 ?_;refine aM 16 ?_;refine aM 17 ?_;exact Zz
 | false =>
   have Tk:=ah hfx;by_cases h44:sz.c 44=0
   . have E:Hid (-1=ans):=ah (by rw[<-gY.out,hfx,h44];simp)
     clear hfx gY;refine lF (S:=λX=>Below W1.heap.size W1 X) 24 ?_ ?_
     . exact hSd
     intro hx;clear hSd;refine aM 0 ?_;refine aM 1 ?_;refine aM 2 ?_;refine aM 3 ?_;refine rO 4 rfl (p8 (.tmp 12) aX rfl rfl (λX h=>qE.out.keep h)) ?_;refine aM 5 ?_;refine aM 6 ?_;refine aM 7 ?_;refine tk1 8 ?_;refine ak.Step.call Z4p (jq _ _ _ _ _ _ _ _) ?_;rintro e' w6 ⟨rfl,hb⟩;rw[Tk.out];replace hx:=Below.ay hx aD hb;clear hb;refine⟨_,rfl,λ_=>hx,?_⟩
     (try simp only[bL,bM,bN,tks])
     refine aM 9 ?_;refine aM 10 ?_;refine aM 11 ?_;refine aM 12 ?_;refine aM 13 ?_;refine aM 14 ?_;refine aM 15 ?_;refine aM 16 ?_;refine rO 17 rfl (eB aX rfl rfl rfl (λX h=>hlk X h)) ?_;exact Zz
   . have E:Hid (Fw.JR sk i0=ans):=ah (by rw[<-gY.out,hfx,if_pos ⟨rfl,h44⟩])
     clear hfx gY;refine lF (S:=λX=>Below W1.heap.size W1 X) 24 ?_ ?_
     . exact hSd
     intro hx;clear hSd;refine aM 0 ?_;refine aM 1 ?_;refine aM 2 ?_;refine aM 3 ?_;refine rO 4 rfl (p8 (.tmp 12) aX rfl rfl (λX h=>qE.out.keep h)) ?_;refine aM 5 ?_;refine aM 6 ?_;refine aM 7 ?_;refine tk1 8 ?_;refine ak.Step.call Z4p (jq _ _ _ _ _ _ _ _) ?_;rintro e' w6 ⟨rfl,hb⟩;rw[Tk.out];replace hx:=Below.ay hx aD hb;clear hb;refine⟨_,rfl,λ_=>hx,?_⟩
     (try simp only[bL,bM,bN,tks])
     refine aM 9 ?_;refine aM 10 ?_;refine aM 11 ?_;refine aM 12 ?_;refine aM 13 ?_;refine aM 14 ?_;refine aM 15 ?_;refine aM 16 ?_;refine rO 17 rfl (eB aX rfl rfl rfl (λX h=>hlk X h)) ?_;refine aM 18 ?_;refine aM 19 ?_;refine aM 20 ?_;refine aM 21 ?_;refine aM 22 ?_;refine aM 23 ?_;refine ko ?_;replace A0:=A0.keep hx;replace A1:=A1.keep hx;replace A2:=A2.keep hx;have hBx:Below w.heap.size w _:=Below.ay hB1 aD hx;clear l0 aB aC bH lY xw xA zu zw zy zA l2 aR aS aT aU bC bD bA bB c44 JA hlk;have ahn:=ah (qE.out.keep hx);obtain⟨l0,aB,aC,bH⟩:=At.three A0
     go_upto_region 4 with(go_at_call 74;(with_reducible refine(KT bk sk vf va ib i0 i1 _ ahn.out).mono ?_);rintro e' w7 ⟨rfl,hb⟩;replace A1:=A1.keep hb;replace A2:=A2.keep hb;obtain⟨l3,bP,bQ⟩:=At.two A2;have zT:=A2.thaw 0)
     generalize hW:World.setCell _ _ _=W8;replace A2:At W8 T (.cells #[.int .i64 (Fw.JR sk i0),.int .i64 (-1)] 71):=hW▸At.set A2 0 _;replace A1:At W8 (w.heap.size+1) (.cells #[.int .i64 0,.int .i64 0] 71):=hW▸At.off A1 hnT _ _;have hB9:Below w.heap.size w W8:=by
      rw[<-hW];exact Below.setCell (Below.ay hBx aD hb) hgT _
     clear hW zT l3 bP bQ l0 aB aC bH hb;obtain⟨l3,bP,bQ⟩:=At.two A2;obtain⟨l4,fF,fG⟩:=At.two A1;have iQ:=A1.thaw 0;have iR:=A1.thaw 1;have lw:w.heap.size+1<w.heap.size+1+1:=by omega
     go_wp2;generalize hW:World.setCell _ _ _=W6;replace A1:At W6 (w.heap.size+1) (.cells #[.int .i64 (Fw.JR sk i0),.int .i64 (-1)] 71):=hW▸At.set (At.set A1 0 _) 1 _;have EU:Below w.heap.size w W6:=by
      rw[<-hW];exact Below.setCell (Below.setCell hB9 xZ _) xZ _
     exact Z2u
end
def wO(l:List Fw.Ld):List Value:=l.flatMap λx=>(eH x).toList
theorem Gz(l:List Fw.Ld)(x:Fw.Ld):wO (l++[x])=wO l++(eH x).toList:=by simp[wO]
theorem V4(l:List Fw.Ld):∀i (h:i<l.length) j,j<7->(wO l)[i*7+j]? = (eH l[i])[j]? := by
 induction l with
 | nil=>intro i h;simp at h
 | cons x l ih =>
   intro i h j hj;have e:wO (x::l)=(eH x).toList++wO l:=rfl;rw[e];cases i with
   | zero =>
     rw[List.getElem?_append_left (by simp[eH];omega),Array.getElem?_toList];simp
   | succ i =>
     rw[List.getElem?_append_right (by simp[eH];omega)];have e2:(i+1)*7+j-(eH x).toList.length=i*7+j:=by simp[eH];omega
     rw[e2,ih i (by simpa using h) j hj];rfl
theorem R8{W:World}{base:Nat}{v:Value}{l:List Fw.Ld}(x:Fw.Ld)(hown:W.ownsRow base 77 7 v l.length (wO l))(hbase:base<=W.heap.size)(hk:l.length<=10000) :
  ∃g c w',(Builtin.append_ #[118,118] 118 #[v,.slice (some ⟨W.heap.size,0,none⟩) 1 1]).run Tryz.prog (W.alloc (.cells (eH x) 77))=.ok (.slice (some ⟨g,0,none⟩) (l.length+1) c) w'/\w'.ownsRow base 77 7 (.slice (some ⟨g,0,none⟩) (l.length+1) c) (l++[x]).length (wO (l++[x]))/\Out (λb=>v.ownBlock=some b) (W.alloc (.cells (eH x) 77)) w':=by
 obtain⟨i0,hi0,hz0,hz1,hz2⟩:=info_parts Og;have hA:=At.new W (.cells (eH x) 77)
 obtain⟨v',w',hr,ho,hg,_,_⟩:=run_append_own_at (P:=Tryz.prog) (w:=W.alloc (.cells (eH x) 77)) base 118 118 77 i0 _ 7 56 Tryz.underlying118 hi0 hz0 hz1 hz2 rfl aH v l.length _ (hown.alloc _) ⟨W.heap.size,0,none⟩ 1 1 (eH x).toList rfl
  (by intro j u hj
      rw[addr_add,Nat.zero_add,hA.cell,<-hj,Array.getElem?_toList])
  (pJ x) Py aj jM
 obtain⟨g,c,rfl⟩:=ownsRow_succ ho;refine⟨g,c,w',hr,?_,Out.grown hg λb h=>h⟩;rw[Gz,List.length_append];exact ho
theorem LC{w:World}{base:Nat}{v:Value}{l:List Fw.Ld}(h:w.ownsRow base 77 7 v l.length (wO l))(hl:l≠[]):∃R cap cs,v=.slice (some ⟨R,0,none⟩) l.length cap/\v.ownBlock=some R/\base<=R/\At w R (.cells cs 77)/\oV cs l:=by
 rcases h.2 with⟨rfl,h0⟩|⟨g,cap,cur,rfl,hb,hgb,hnc,hcm,hsz,htk⟩
 . exact absurd (List.length_eq_zero_iff.1 h0) hl
 . refine⟨g,cap,cur,rfl,rfl,hb,hgb,?_,λi hi j hj => ?_⟩
   . rw[hsz];exact Nat.mul_le_mul_right 7 hnc
   . have e:=V4 l i hi j hj
     rw[<-htk,List.getElem?_take,if_pos aj,Array.getElem?_toList]at e;exact e
theorem uG{ops:Array Oper}{rest:List Oper}{o:Oper}{a:Act}{Q:Exit->Act->World->Prop}{w:World}(hw:Region.wanted o (yielded ops a.tmps)=true)(x:Operand)(ho:o.op=.buildSlice 118 1 #[(0,x)]){y:Fw.Ld}(hx:a.eval x=.agg (eH y))
  (h:wpList Tryz.prog ops Q rest (a.put o.dst (.slice (some ⟨w.heap.size,0,none⟩) 1 1)) (w.alloc (.cells (eH y) 77))):wpList Tryz.prog ops Q (o::rest) a w:=by
 have hrun:(execOp a.eval o).run Tryz.prog w=.ok (.value (.slice (some ⟨w.heap.size,0,none⟩) 1 1)) (w.alloc (.cells (eH y) 77)):=by
  unfold execOp;simp only[ho];generalize a.eval=ev at *;unfold eH at hx ⊢;go_simp
 exact Z39
theorem Ox{r:Int}{e e':Nat->Int}{n:Nat}(h:∀i,i<n->e i=e' i):qb r e n=qb r e' n:=by
 induction n with
 | zero=>rfl
 | succ n ih=>simp only[qb];rw[ih λi hi=>h i aj,h n aj]
theorem GA(h:Int->Int)(r:Int)(l:List Int):l.foldl (λa k=>Fw.wr (a-h k)) r=qb r (λi=>h (l.getD i 0)) l.length:=by
 have key:∀n,n<=l.length->(l.take n).foldl (λa k=>Fw.wr (a-h k)) r=qb r (λi=>h (l.getD i 0)) n:=by
  intro n
  induction n with
  | zero=>intro _;rfl
  | succ n ih =>
    intro hn;have hn':n<l.length:=hn;rw[List.take_succ_eq_append_getElem hn',List.foldl_append,ih aj];simp[qb,List.getD,List.getElem?_eq_getElem hn']
 have:=key l.length aD
 rwa [List.take_length]at this
def GD(B:Int->Fw.Bx)(f:Nat)(z i0 i1 k:Int):Fe.It:=Fw.EX (B k).sty 1 (Fw.wr ((Fw.lay B f k i0 i1 (Fw.fq B z i0 k) (-1)).s1-Fw.iB (B k).sty 1)) i1
def TK(B:Int->Fw.Bx)(f:Nat)(z i0 i1:Int)(x:Im):Im:={ x with it:=GD B f z i0 i1 x.ld.id,ld:=Fw.lay B f x.ld.id i0 i1 (Fw.fq B z i0 x.ld.id) (-1) }
def Yq(B:Int->Fw.Bx)(f:Nat)(z i0 i1:Int)(sz:List Int)(i:Nat)(x:Im):Im:={ x with ld:=Fw.lay B f x.ld.id i0 i1 (Fw.fq B z i0 x.ld.id) (Fw.wr (sz.getD i 0+Fw.iB (B x.ld.id).sty 1)) }
def clE(al i0:Int)(st:List Int)(i:Nat)(x:Im):Fw.Ld:={ x.ld with a0:=Fw.wr (Ju.across al (AV x) i0+x.m0),a1:=Fw.wr (st.getD i 0+x.m2) }
def clS(B:Int->Fw.Bx)(f:Nat)(z i0 i1:Int)(fl:List Int):List Int:=yU (λi=>GD B f z i0 i1 (fl.getD i 0)) (λi=>Fw.wJ B i0 1 (fl.getD i 0)) fl.length i1 ((B z).sty.c 46)
theorem LD(B:Int->Fw.Bx)(i0 r gap:Int)(it:Int->Fe.It)(fl:List Int):yU (λi=>it (fl.getD i 0)) (λi=>Fw.wJ B i0 1 (fl.getD i 0)) fl.length r gap=if r ≠ -1/\fl.length<=64 then Fw.iY B i0 r gap 1 it fl else fl.map λk=>Fe.clamp (it k) (it k).b:=by
 unfold yU Fw.iY Fw.left;split
 . rw[GA];rfl
 . unfold Ju.row
   exact List.ext_getElem eZ λi h1 h2=>by
    have h3:i<fl.length:=by simpa using h2
    simp[List.getD,List.getElem?_eq_getElem h3]
theorem FB(Y:sj)(B:Int->Fw.Bx)(f:Nat)(z i0 i1:Int)(fl:List Int)(hfl:(B z).fl=fl)(sz:List Int)(hsz:clS B f z i0 i1 fl=sz)(zs:List Im)(hzs:((iw Y B i0 fl).map (TK B f z i0 i1)).mapIdx (Yq B f z i0 i1 sz)=zs)(high:Int)(hh:Li.long ((B z).sty.c 46) (oU zs)=high) :
  Fw.iE B (Fw.lay B f) z i0 i1=(zs.mapIdx (clE ((B z).sty.c 44) i0 (Ju.row (Ju.starts ((B z).sty.c 43) (if i1 = -1 then high else i1) ((B z).sty.c 46) (oU zs)) zs.length)),high):=by
 unfold Fw.iE;simp only[hfl];have e1:=LD B i0 i1 ((B z).sty.c 46) (GD B f z i0 i1) fl;have e2:clS B f z i0 i1 fl=_:=e1;rw[hsz]at e2;have e3:(if i1 ≠ -1/\fl.length<=64 then Fw.iY B i0 i1 ((B z).sty.c 46) 1 (λk=>Fw.EX (B k).sty 1 (Fw.wr ((Fw.lay B f k i0 i1 (Fw.fq B z i0 k) (-1)).s1-Fw.iB (B k).sty 1)) i1) fl else fl.map λk=>Fe.clamp ((λk=>Fw.EX (B k).sty 1 (Fw.wr ((Fw.lay B f k i0 i1 (Fw.fq B z i0 k) (-1)).s1-Fw.iB (B k).sty 1)) i1) k) ((λk=>Fw.EX (B k).sty 1 (Fw.wr ((Fw.lay B f k i0 i1 (Fw.fq B z i0 k) (-1)).s1-Fw.iB (B k).sty 1)) i1) k).b)=sz:=e2.symm;simp only[]at e3 ⊢;rw[e3];have hlen:zs.length=fl.length:=by rw[<-hzs];simp[iw]
 have hget:∀i (h:i<zs.length) (h':i<fl.length),zs[i]=Yq B f z i0 i1 sz i (TK B f z i0 i1 (vI Y B i0 fl[i])):=λi h h'=>by
  subst hzs;simp[iw]
 have hlong:(fl.mapIdx λi k=>Fw.lay B f k i0 i1 (Fw.fq B z i0 k) (Fw.wr (sz.getD i 0+Fw.iB (B k).sty 1))).map (Fw.jr B i0 1)=oU zs:=by
  unfold oU
  exact List.ext_getElem (by simp[hlen]) λi h1 h2=>by
   have h3:i<fl.length:=by simpa using h1
   have h4:i<zs.length:=by rw[hlen];exact h3
   simp only[List.getElem_map,List.getElem_mapIdx];rw[hget i h4 h3];rfl
 rw[hlong,hh];congr 1
 exact List.ext_getElem (by simp[hlen]) λi h1 h2=>by
  have h3:i<fl.length:=by simpa using h1
  have h4:i<zs.length:=by rw[hlen];exact h3
  simp only[List.getElem_mapIdx];rw[hget i h4 h3];unfold clE;rw[Ju.Ig _ h4];rfl
theorem V6{B:Int->Fw.Bx}{f:Nat}{l l':List Im}(h:l.map (·.ld.id)=l'.map (·.ld.id))(k:Nat):jh B f l k=jh B f l' k:=by
 unfold jh;have e:∀m:List Im,(m.take k).map (λx=>Fw.cst B f x.ld.id)=((m.map (·.ld.id)).take k).map (Fw.cst B f):=λm=>by rw[<-List.map_take,List.map_map];rfl
 rw[e,e,h]
section
variable {Y:sj} {B:Int->Fw.Bx} {F:Int->Nat} {D:Int->Prop} {f:Nat}
theorem Qn{i0 k:Int}(hd:D k)(hf:F k=f):Ll Y B D F f i0 (vI Y B i0 k):=⟨hd,hf,rfl,rfl,rfl,rfl,rfl⟩
theorem aaw{z i0 i1:Int}{x:Im}(h:Ll Y B D F f i0 x):Ll Y B D F f i0 (TK B f z i0 i1 x):=⟨h.d,h.f,h.bx,h.m0,h.m1,h.m2,h.m3⟩
theorem aax{z i0 i1:Int}{sz:List Int}{x:Im}(i:Nat)(h:Ll Y B D F f i0 x):Ll Y B D F f i0 (Yq B f z i0 i1 sz i x):=⟨h.d,h.f,h.bx,h.m0,h.m1,h.m2,h.m3⟩
end
end Go.Proofs.YtmidaiklolmkcaaGreat.Fix
namespace Go.Proofs.YtmidaiklolmkcaaGreat.Fe
theorem aeQ{S T:Nat->St}{n:Nat}(h:∀i,i<n->S i=T i):∀k,k<=n->pl S k=pl T k:=by
 intro k
 induction k with
 | zero=>intro _;rfl
 | succ k ih=>intro hk;simp only[pl];rw[ih aj,h k aj]
theorem aeR{S T:Nat->St}{n:Nat}(gr:Bool)(h:∀i,i<n->S i=T i):∀k,k<=n->ws gr S k=ws gr T k:=by
 intro k
 induction k with
 | zero=>intro _;rfl
 | succ k ih=>intro hk;simp only[ws];rw[ih aj,h k aj]
theorem aay{S T:Nat->St}{n:Nat}(room:Int)(h:∀i,i<n->S i=T i):∀k,k<=n->left room S k=left room T k:=by
 intro k
 induction k with
 | zero=>intro _;rfl
 | succ k ih=>intro hk;simp only[left];rw[ih aj,h k aj]
theorem aaz{S T:Nat->St}{n:Nat}(h:∀i,i<n->S i=T i):∀k,k<=n->made S k=made T k:=by
 intro k
 induction k with
 | zero=>intro _;rfl
 | succ k ih=>intro hk;simp only[made];rw[ih aj,h k aj]
theorem aaA{l l':Nat->It}{n:Nat}(h:∀i,i<n->l i=l' i):∀k,k<=n->yA l k=yA l' k:=by
 intro k
 induction k with
 | zero=>intro _;rfl
 | succ k ih=>intro hk;simp only[yA];rw[ih aj,h k aj]
theorem V7{S T:Nat->St}{n:Nat}(gr:Bool)(room:Int)(h:∀i,i<n->S i=T i):∀i,i<n->round gr room n S i=round gr room n T i:=by
 have h1:∀i,i<n->shared gr room n S i=shared gr room n T i:=by
  intro i hi;unfold shared fU parts free want;rw[aay room h n aD,aeR gr h n aD,aeQ h i aj,h i hi]
 intro i hi;unfold round froze;rw[aaz h1 n aD,h1 i hi]
theorem R9{S T:Nat->St}{n:Nat}(gr:Bool)(room:Int)(h:∀i,i<n->S i=T i)(k:Nat):∀i,i<n->rounds gr room n S k i=rounds gr room n T k i:=by
 induction k with
 | zero=>exact h
 | succ k ih=>exact V7 gr room ih
theorem acT{l l':Nat->It}{n:Nat}(room:Int)(h:∀i,i<n->l i=l' i):∀i,i<n->fin l n room i=fin l' n room i:=by
 have hg:yB l n room=yB l' n room:=by unfold yB;rw[aaA h n (aG _)]
 intro i hi;unfold fin;rw[hg];exact R9 _ _ (λi hi=>by unfold begun;rw[h i hi]) n i hi
end Go.Proofs.YtmidaiklolmkcaaGreat.Fe
namespace Go.Proofs.YtmidaiklolmkcaaGreat.Fix
open Go.ChangeShapes Go.WideShapes Go.ChangeAt Go.RowKit
theorem FC{l l':Nat->Fe.It}{n:Nat}(x:Int)(h:∀i,i<n->l i=l' i):mM l n x=mM l' n x:=by
 unfold mM;exact List.map_congr_left λi hi=>by rw[Fe.acT _ h i (by simpa using hi)]
def rwI(Y:sj)(B:Int->Fw.Bx)(i0 k:Int):Im:={ vI Y B i0 k with it:=Fw.jG B i0 k }
theorem Sb(Y:sj)(B:Int->Fw.Bx)(i0 gap:Int)(ks:List Int):lnS B i0 gap (ks.map (rwI Y B i0))=Fw.iY B i0 i0 gap 0 (Fw.jG B i0) ks:=by
 unfold lnS Fw.iY Fw.left;rw[GA,List.length_map];have hg:∀i,i<ks.length->(ks.map (rwI Y B i0)).getD i default=rwI Y B i0 (ks.getD i 0):=λi h=>by simp[List.getD,List.getElem?_eq_getElem h]
 rw[Ox (e':=λi=>Fw.wJ B i0 0 (ks.getD i 0)) λi h=>by rw[hg i h];rfl];exact FC _ λi h=>by rw[hg i h];rfl
theorem FD(Y:sj)(B:Int->Fw.Bx)(f:Nat)(z i0 i1 high:Int)(ks:List Int)(s:Re.St)(hs:(B z).sty=s)(xs1 xs2:List Im)(deep:Int)(h1:Ea B f s i0 i1 high (ks.map (rwI Y B i0))=xs1)(h2:I4 high xs1=deep)(h3:tX B f s i0 i1 deep xs1=xs2) :
  Fw.eX B (Fw.lay B f) z i0 i1 high ks=((tY s i0 deep xs2).map (·.ld),deep):=by
 unfold Fw.eX;simp only[hs];unfold Ea at h1;rw[Sb]at h1;obtain⟨sz,hsz⟩:=aA (Fw.iY B i0 i0 (s.c 46) 0 (Fw.jG B i0) ks);rw[hsz]at h1 ⊢;have l1:xs1.length=ks.length:=by rw[<-h1];simp
 have g1:∀i (h:i<xs1.length) (h':i<ks.length),xs1[i]=Yo B f i0 i1 sz i (rwI Y B i0 ks[i]):=λi h h'=>by subst h1;simp
 have e1:(ks.mapIdx λi k=>Fw.lay B f k i0 i1 (Fw.wr (sz.getD i 0+Fw.iB (B k).sty 0)) (-1))=xs1.map (·.ld):=List.ext_getElem (by simp[l1]) λi a b=>by
  have a':i<ks.length:=by simpa using a
  simp only[List.getElem_mapIdx,List.getElem_map];rw[g1 i (by rw[l1];exact a') a'];rfl
 rw[e1]
 have m1:∀x∈xs1,x.m0=Fw.mg (B x.ld.id).sty 0 0 i0/\x.m1=Fw.mg (B x.ld.id).sty 0 1 i0/\x.m2=Fw.mg (B x.ld.id).sty 1 0 i0/\x.m3=Fw.mg (B x.ld.id).sty 1 1 i0:=λx hx=>by
  obtain⟨i,hi,rfl⟩:=List.getElem_of_mem hx;rw[g1 i hi aj];exact⟨rfl,rfl,rfl,rfl⟩
 have o1:∀x:Im,(x.m0=Fw.mg (B x.ld.id).sty 0 0 i0/\x.m1=Fw.mg (B x.ld.id).sty 0 1 i0/\x.m2=Fw.mg (B x.ld.id).sty 1 0 i0/\x.m3=Fw.mg (B x.ld.id).sty 1 1 i0)->AV x=Fw.jr B i0 0 x.ld/\AZ x=Fw.jr B i0 1 x.ld/\ext1 x (B x.ld.id).sty=Fw.wJ B i0 1 x.ld.id:=λx ⟨q0,q1,q2,q3⟩=>by
  unfold AV AZ ext1 Fw.jr Fw.wJ Fw.Cc;rw[q0,q1,q2,q3];exact⟨rfl,rfl,rfl⟩
 have e2:(if high = -1 then ((xs1.map (·.ld)).map (Fw.jr B i0 1)).foldl max 0 else high)=deep:=by
  rw[<-h2];unfold I4 oU;congr 2;rw[List.map_map];exact List.map_congr_left λx hx=>((o1 x (m1 x hx)).2.1).symm
 rw[e2];have e3:(if s.c 44=0 then (xs1.map (·.ld)).map (λx=>if Fw.zJ (B x.id).sty 1 i1=true then x else Fw.lay B f x.id i0 i1 x.s0 (Fw.wr (Fw.lim (B x.id).sty 1 (max (Fw.wr (deep-Fw.wJ B i0 1 x.id)) 0) i1+Fw.iB (B x.id).sty 1)))else xs1.map (·.ld))=xs2.map (·.ld):=by
  rw[<-h3];unfold tX;split
  . rw[List.map_map,List.map_map]
    refine List.map_congr_left λx hx => ?_;simp only[Function.comp];unfold BL;have q:=(o1 x (m1 x hx)).2.2;by_cases hfx:Fx.jg ((B x.ld.id).sty.c 5) i1=true
    . rw[if_pos hfx,if_pos (show Fw.zJ (B x.ld.id).sty 1 i1=true from hfx)]
    . rw[if_neg hfx,if_neg (show¬ Fw.zJ (B x.ld.id).sty 1 i1=true from hfx),q]
      rfl
  . rfl
 rw[e3]
 have m2:∀x∈xs2,x.m0=Fw.mg (B x.ld.id).sty 0 0 i0/\x.m1=Fw.mg (B x.ld.id).sty 0 1 i0/\x.m2=Fw.mg (B x.ld.id).sty 1 0 i0/\x.m3=Fw.mg (B x.ld.id).sty 1 1 i0:=λx hx=>by
  rw[<-h3]at hx;unfold tX at hx;split at hx
  . obtain⟨y,hy,rfl⟩:=List.mem_map.1 hx
    have:=m1 y hy;unfold BL;split
    . exact this
    . exact this
  . exact m1 x hx
 have e4:(xs2.map (·.ld)).map (Fw.jr B i0 0)=uD xs2:=by
  unfold uD;rw[List.map_map];exact List.map_congr_left λx hx=>((o1 x (m2 x hx)).1).symm
 rw[e4];congr 1;unfold tY
 exact List.ext_getElem eZ λi a b=>by
  have a':i<xs2.length:=by simpa using a
  simp only[List.getElem_mapIdx,List.getElem_map];have q:=m2 xs2[i] (List.getElem_mem _);have o:=o1 _ q;unfold lnB;simp only[];rw[Ju.Ig _ a',o.2.1,q.1,q.2.2.1]
theorem FE{B:Int->Fw.Bx}{lay:Int->Int->Int->Int->Int->Fw.Ld}{z i0 i1 high:Int}{fl:List Int}{fst:Bool}{y:Int}{p:Nat×Nat}{ps:List (Nat×Nat)}{out:List Fw.Ld}{tot:List Fw.Ld×Int}(h:tot=(out++(Fw.aY B lay z i0 i1 high fl fst y (p::ps)).1,(Fw.aY B lay z i0 i1 high fl fst y (p::ps)).2))
  {y1:Int} (hy:(if fst=true then y else Fw.wr (y+(B z).sty.c 46))=y1) {l:List Fw.Ld} {d:Int} (hl:Fw.eX B lay z i0 i1 high ((fl.drop p.1).take (p.2-p.1))=(l,d)) :
  tot=((out++l.map (λx=>{ x with a1:=Fw.wr (x.a1+y1) }))++(Fw.aY B lay z i0 i1 high fl false (Fw.wr (y1+d)) ps).1,(Fw.aY B lay z i0 i1 high fl false (Fw.wr (y1+d)) ps).2):=by
 rw[h];simp only[Fw.aY,hy,hl,List.append_assoc]
theorem I9{B:Int->Fw.Bx}{lay:Int->Int->Int->Int->Int->Fw.Ld}{z i0 i1 high:Int}{fl:List Int}{fst:Bool}{y:Int}:Fw.aY B lay z i0 i1 high fl fst y []=([],y):=rfl
theorem fE.front{cs:Array Value}{q n:Nat}{l:List Im}(h:fE cs q l)(hn:n<=l.length):fE cs q (l.take n):=by
 refine⟨by have:=h.1;rw[List.length_take];omega,λi hi j hj => ?_⟩;have hi2:i<l.length:=by rw[List.length_take]at hi;omega
 rw[List.getElem_take];exact h.2 i hi2 j hj
theorem fE.rest{cs cs':Array Value}{q n:Nat}{l:List Im}(h:fE cs q l)(hs:j5 q n cs cs')(hn:n<=l.length):fE cs' (q+n*17) (l.drop n):=by
 refine⟨by have:=h.1;have:=hs.1;rw[List.length_drop];omega,λi hi j hj => ?_⟩;have hi2:n+i<l.length:=by rw[List.length_drop]at hi;omega
 rw[List.getElem_drop,hs.2 _ (.inr aj),show q+n*17+i*17+j=q+(n+i)*17+j by omega];exact h.2 (n+i) hi2 j hj
theorem Oy{W:World}{base:Nat}{v:Value}{l:List Fw.Ld}(x:Fw.Ld)(hown:W.ownsRow base 77 7 v l.length (wO l))(hbase:base<=W.heap.size)(hk:l.length<=10000) :
  ∃g c w',(Builtin.append_ #[118,118] 118 #[v,.slice (some ⟨W.heap.size,0,none⟩) 1 1]).run Tryz.prog (W.alloc (.cells (eH x) 77))=.ok (.slice (some ⟨g,0,none⟩) (l.length+1) c) w'/\w'.ownsRow base 77 7 (.slice (some ⟨g,0,none⟩) (l.length+1) c) (l++[x]).length (wO (l++[x]))/\Out (λb=>v.ownBlock=some b) (W.alloc (.cells (eH x) 77)) w'/\(v.ownBlock=some g\/W.heap.size<=g):=by
 obtain⟨i0,hi0,hz0,hz1,hz2⟩:=info_parts Og;have hA:=At.new W (.cells (eH x) 77)
 obtain⟨v',w',hr,ho,hg,_,hblk⟩:=run_append_own_at (P:=Tryz.prog) (w:=W.alloc (.cells (eH x) 77)) base 118 118 77 i0 _ 7 56 Tryz.underlying118 hi0 hz0 hz1 hz2 rfl aH v l.length _ (hown.alloc _) ⟨W.heap.size,0,none⟩ 1 1 (eH x).toList rfl
  (by intro j u hj
      rw[addr_add,Nat.zero_add,hA.cell,<-hj,Array.getElem?_toList])
  (pJ x) Py aj jM
 obtain⟨g,c,rfl⟩:=ownsRow_succ ho;refine⟨g,c,w',hr,?_,Out.grown hg λb h=>h,?_⟩
 . rw[Gz,List.length_append]
   exact ho
 . rcases hblk with h|h
   . exact .inl h.symm
   . right
     have e:g=W.heap.size+1:=by simpa[Value.ownBlock]using h
     omega
end Go.Proofs.YtmidaiklolmkcaaGreat.Fix
