/- Proved here: what functions of the program do, in plain numbers (part 22); no conditions but those in sight. -/
import Derived.Test.YtcbcfdihofclkaaGreatQK
import Derived.Test.YtcbcfdihofclkaaGreatQ01
import Derived.Test.YtcbcfdihofclkaaGreatQ06
import Derived.Test.YtcbcfdihofclkaaGreatQ20
import Derived.Test.YtcbcfdihofclkaaGreatQ21
set_option linter.unusedVariables false
set_option linter.unusedSimpArgs false
set_option linter.unusedSectionVars false
set_option maxRecDepth 100000
namespace Go.Proofs.YtcbcfdihofclkaaGreat.Fix
open Go.ChangeShapes Go.WideShapes Go.ChangeAt Go.RowKit
theorem DC{ops:Array Oper}{S:World->Prop}{o:Oper}{a:Act}(p:Operand){R q:Nat}{x:Im}(hw:Region.wanted o (yielded ops a.tmps)=true)(ho:o.op=.load 283 p)(hp:a.eval p=.pointer (some ⟨R,q,none⟩))(h:∀X,S X->qU X R q x):aj.Reads Tryz.prog ops S o (.agg (nJ x)) a :=
 .inl ⟨hw,λX hX=>nC UY NJ p ho hp (rW x) (h X hX)⟩
structure KQ(Y:rV)(B:Int->Fw.Bx)(D:Int->Prop)(F:Int->Nat)(f:Nat)(i0:Int)(x:Im):Prop where
 d:D x.ld.id
 f:F x.ld.id=f
 bx:x.bx=Y.bl x.ld.id
 m0:x.m0=Fw.mg (B x.ld.id).sty 0 0 i0
 m1:x.m1=Fw.mg (B x.ld.id).sty 0 1 i0
 m2:x.m2=Fw.mg (B x.ld.id).sty 1 0 i0
 m3:x.m3=Fw.mg (B x.ld.id).sty 1 1 i0
def Bu(B:Int->Fw.Bx)(f:Nat)(r0 r1 high:Int)(x:Im):Im :=
 if Fx.mX ((B x.ld.id).sty.c 5) r1=true then x else { x with ld:=Fw.lay B f x.ld.id r0 r1 x.ld.s0 (Fw.wr (Fx.limit (max (Fw.wr (high-ext1 x (B x.ld.id).sty)) 0) ((B x.ld.id).sty.c 9) ((B x.ld.id).sty.c 10) ((B x.ld.id).sty.c 13) ((B x.ld.id).sty.c 14) r1+Fw.wr (Fw.ed (B x.ld.id).sty 0+Fw.ed (B x.ld.id).sty 2))) }
def DF(g:Im->Im)(l:List Im)(k:Nat):List Im:=(l.take k).map g++l.drop k
theorem jW(g:Im->Im)(l:List Im)(k:Nat):(DF g l k).length=l.length:=by simp[DF];omega
theorem tH(g:Im->Im)(l:List Im){k:Nat}(hk:k<l.length):(DF g l k)[k]'(by rw[jW];exact hk)=l[k]:=by
 unfold DF;rw[List.getElem_append_right jH];simp;congr 1;omega
theorem yG(g:Im->Im)(l:List Im){k:Nat}(hk:k<l.length):(DF g l k).set k (g l[k])=DF g l (k+1):=by
 unfold DF;have e:((l.take k).map g).length=k:=by simp;omega
 rw[List.set_append,if_neg ak,e,Nat.sub_self,List.drop_eq_getElem_cons hk,List.set_cons_zero,List.take_succ_eq_append_getElem hk,List.map_append,List.append_assoc];rfl
theorem DI(g:Im->Im)(l:List Im):DF g l 0=l:=by simp[DF]
theorem Iy(g:Im->Im)(l:List Im):DF g l l.length=l.map g:=by simp[DF]
theorem Vg(g:Im->Im)(l:List Im){k:Nat}(hk:k<l.length)(h:g l[k]=l[k]):DF g l (k+1)=DF g l k:=by
 rw[<-yG g l hk,h]
 exact List.ext_getElem eY λi h1 h2=>by
  by_cases e:k=i
  . subst e;rw[List.getElem_set_self,tH g l hk]
  . rw[List.getElem_set_ne e]
def jd(B:Int->Fw.Bx)(f:Nat)(l:List Im)(k:Nat):Nat:=((l.take k).map λx=>Fw.cst B f x.ld.id).sum
theorem rX(B:Int->Fw.Bx)(f:Nat)(l:List Im){k:Nat}(hk:k<l.length):jd B f l (k+1)=jd B f l k+Fw.cst B f l[k].ld.id:=by
 unfold jd;rw[List.take_succ_eq_append_getElem hk];exact Z32
theorem wm(B:Int->Fw.Bx)(f:Nat)(l:List Im)(k:Nat):jd B f l k<=jd B f l l.length:=by
 unfold jd;rw[List.take_length]
 conv=>rhs;rw[<-List.take_append_drop k l,List.map_append,List.sum_append]
 omega
section
variable {Y:rV} {B:Int->Fw.Bx} {F:Int->Nat} {D:Int->Prop} {KM:World->Nat->Prop} {f:Nat} {w0:World} {P0:Nat->Prop}
theorem ni(hL:vF Y B F D KM f)(qL:∀(X X':World) (b:Nat),KM X b->Out (λq=>q≠b) X X'->KM X' b)(hR0:RO w0 Y B D KM)(hkm:Y.km<w0.heap.size){n:Nat}{P:Nat->Prop}{W:World}(h:qV Y B F w0 P0 n P W)(z r0 r1 t0 t1:Int)(hz:D z)(hf:F z=f)(hn:n+Fw.cst B f z<maxLen) :
  Calls Tryz.prog 62 #[.pointer (some ⟨Y.lb,0,none⟩),.int .i64 z,.agg #[.int .i64 r0,.int .i64 r1],.agg #[.int .i64 t0,.int .i64 t1]] W λe W' =>
   e=.returned (.agg (eF (Fw.lay B f z r0 r1 t0 t1)))/\∃n' P',n'<=n+Fw.cst B f z/\qV Y B F w0 P0 n' P' W'/\(∀b,b<W.heap.size->P' b->P b)/\Out (λb=>b=Y.pm) W W' :=
 (hL z r0 r1 t0 t1 W n P hz hf (h.ro qL hR0 hkm) h.kp h.lt (aR hkm h.size) hn).mono λe W' ⟨h1,n',P',h2,h3,h4,h5⟩=>⟨h1,n',_,h2,h.call h3 h4 h5,λb hb q=>by
  rcases h4 b q.1 with q|q
  . exact q
  . omega,h5⟩
set_option maxHeartbeats 16000000 in
theorem Vh(hL:vF Y B F D KM f)(hK:∀(X X':World) (b:Nat),KM X b->Below X.heap.size X X'->KM X' b)(qL:∀(X X':World) (b:Nat),KM X b->Out (λq=>q≠b) X X'->KM X' b)(hR0:RO w0 Y B D KM)(hkm:Y.km<w0.heap.size)
  (R q c:Nat) (i0 r0 r1 high:Int) (xs:List Im) (cs:Array Value) (w:World) (n:Nat) (P:Nat->Prop) (hS:qV Y B F w0 P0 n P w) (hA:At w R (.cells cs 283)) (hI:fu cs q xs) (hok:∀x∈xs,KQ Y B D F f i0 x) (Vf:¬ P R) (pF:w0.heap.size<=R) (hn:n+jd B f xs xs.length<maxLen) (hl:xs.length<=10000) :
  Calls Tryz.prog 276 #[.pointer (some ⟨Y.lb,0,none⟩),.slice (some ⟨R,q,none⟩) xs.length c,.agg #[.int .i64 r0,.int .i64 r1],.int .i64 high] w λe w'=>e=.returned (.tuple #[]) /\
   ∃n' P' cs',n'<=n+jd B f xs xs.length/\qV Y B F w0 P0 n' P' w'/\¬ P' R/\(∀b,b<w.heap.size->P' b->P b)/\At w' R (.cells cs' 283)/\fu cs' q (xs.map (Bu B f r0 r1 high))/\jV q xs.length cs cs'/\Out (λb=>b=Y.pm\/b=R) w w':=by
 obtain⟨es0,Ra,pJ⟩:=hR0.Ey;have agq:Y.pm<R:=aR pJ.lt pF;obtain⟨m,hm⟩:∃m,xs.length=m:=⟨_,rfl⟩;have HM:=Lib.hid hm;have HN:=Lib.hid hn;have HOK:=Lib.hid hok;have sO:=Lib.hid hR0;have hRl:=hA.lt;have b1:Below w.heap.size w (w.alloc (.cells #[.int .i64 r0,.int .i64 r1] 108)):=Below.alloc' (Below.refl _ _) _;have A0:At (w.alloc (.cells #[.int .i64 r0,.int .i64 r1] 108)) w.heap.size (.cells #[.int .i64 r0,.int .i64 r1] 108):=At.new _ _;have hS1:=hS.after b1;have hA1:=hA.keep b1;have hsz:=b1.size;have hPw:=hS.lt;rw[hm]at hl ⊢;clear hn hok hR0 hS hA hm pJ;go_enter Tryz.func276,Tryz.ntmps276
 go_upto_region 1 with(fail)
 generalize w.alloc (.cells #[.int .i64 r0,.int .i64 r1] 108)=w1 at *
 go_upto_region 2 with(fail)
 go_loopw [15] (λiv wr=>∃(k n':Nat) (P':Nat->Prop) (cs':Array Value),k<=m/\iv=.int .i64 k/\n'<=n+jd B f xs k/\qV Y B F w0 P0 n' P' wr/\¬ P' R/\(∀b,b<=w.heap.size->P' b->P b)/\At wr R (.cells cs' 283)/\Hid (fu cs' q (DF (Bu B f r0 r1 high) xs k)/\jV q m cs cs')/\At wr w.heap.size (.cells #[.int .i64 r0,.int .i64 r1] 108)/\Out (λb=>b=Y.pm\/b=R) w wr) (λiv _=>m-(intOf iv).toNat)
 case atStart=>exact⟨0,n,P,cs,bJ _,rfl,by simp[jd],hS1,Vf,λb hb h=>h,hA1,Lib.hid ⟨by rw[DI];exact hI,jV.refl _ _ _⟩,A0,Out.of_below b1⟩
 case round =>
  clear hS1 hA1 A0 b1 hI hsz;obtain⟨k,n',P',cs',hk,rfl,hn',hSr,wG,xD,hAr,hC,A0,hO⟩:=hrel;by_cases hlt:k<m
  . have hltz:(k:Int)<(m:Int):=by omega
    have hkx:k<xs.length:=by rw[HM.out];exact hlt
    have hkc:k<(DF (Bu B f r0 r1 high) xs k).length:=by rw[jW];exact hkx
    have qz:=hC.out.1.at_ hAr hkc;rw[tH _ _ hkx]at qz;obtain⟨x,hx⟩:∃x,xs[k]=x:=⟨_,rfl⟩;have lZ:=Lib.hid (HOK.out x (hx▸List.getElem_mem _));rw[hx]at qz;have HX:=Lib.hid hx;have hsR:True:=trivial;have hRr:=hSr.ro qL sO.out hkm;have hbx:=(hRr.box x.ld.id lZ.out.d).1;rw[<-lZ.out.bx]at hbx;obtain⟨s,hs⟩:∃s,(B x.ld.id).sty=s:=⟨_,rfl⟩;rw[hs]at hbx;generalize Y.vf x.ld.id=vf at hbx;generalize Y.va x.ld.id=va at hbx;generalize (B x.ld.id).ib=ib at hbx;have HS:=Lib.hid hs;have qw:=Lib.hid hbx;have Xy:=Lib.hid qz;have qd:=Lib.hid hSr;obtain⟨l2,aN,aO,aP,aQ,aZ,bq,aX,aY⟩:=At.bx1 hbx;have Bt:=hAr.lt;have KR:wr.cell? ⟨R,q+k*17+12,none⟩=some (.pointer (some ⟨x.bx,0,none⟩)):=(qz 12 ak).trans rfl;have l0:=A0.lt;clear hRr hbx qz hs hx
    go_upto_region 6 with(fail)
    have b5:Below wr.heap.size wr (wr.alloc (.cells #[.int .i64 (s.c 5),.int .i64 (s.c 6),.int .i64 (s.c 9),.int .i64 (s.c 10),.int .i64 (s.c 13),.int .i64 (s.c 14)] 190)):=Below.alloc' (Below.refl _ _) _;have AE:At (wr.alloc (.cells #[.int .i64 (s.c 5),.int .i64 (s.c 6),.int .i64 (s.c 9),.int .i64 (s.c 10),.int .i64 (s.c 13),.int .i64 (s.c 14)] 190)) wr.heap.size (.cells #[.int .i64 (s.c 5),.int .i64 (s.c 6),.int .i64 (s.c 9),.int .i64 (s.c 10),.int .i64 (s.c 13),.int .i64 (s.c 14)] 190):=At.new _ _;generalize wr.alloc (.cells #[.int .i64 (s.c 5),.int .i64 (s.c 6),.int .i64 (s.c 9),.int .i64 (s.c 10),.int .i64 (s.c 13),.int .i64 (s.c 14)] 190)=W1 at *;obtain⟨e,he⟩:∃e,wr.heap.size=e:=⟨_,rfl⟩;rw[he]at AE;have hel:wr.heap.size<=e:=Nat.le_of_eq he;have ahz:e<=wr.heap.size:=Nat.le_of_eq he.symm;rw[he];have B0:=A0.keep b5;have hB1:=hAr.keep b5;have hS1:=hSr.after b5;have iA:Out (λb=>b=Y.pm\/b=R) w W1:=Out.trans' hO (Out.of_below (M:=λ_=>False) b5) λ_ _ q=>q.elim;have Bc:=Lib.hid (qw.out.keep b5);have adV:=Lib.hid (λj hj=>(qU.keep Xy.out b5 Bt) j hj);have ahA:w.heap.size<wr.heap.size:=A0.lt;clear he l2 aN aO aP aQ aZ bq aX aY KR l0;obtain⟨l0,aA,aB⟩:=At.two B0;obtain⟨l1,e0,e1,e2,e3,e4,e5⟩:=At.six AE;cases hfx:Fx.mX (s.c 5) r1 with
    | true =>
      have hsame:Hid (Bu B f r0 r1 high xs[k]=xs[k]):=Lib.hid (by rw[HX.out];unfold Bu;rw[HS.out,hfx];rfl);have SA:=Lib.hid hfx;clear hfx
      go_wp2_with (go_at_call 178;(with_reducible refine(ji _ _ _ _ _ _ _ _).mono ?_);rintro e' w5 ⟨rfl,hb⟩;rw[SA.out])
      go_roundw
      case rel=>exact⟨k+1,n',P',cs',by omega,by go_num,by rw[rX B f xs hkx];omega,hS1.after hb,wG,xD,hB1.keep hb,Lib.hid (by rw[Vg _ _ hkx hsame.out];exact hC.out),B0.keep hb,Out.trans' iA (Out.of_below (M:=λ_=>False) hb) λ_ _ q=>q.elim⟩
      case measure=>simp[intOf];omega
    | false =>
      have SA:=Lib.hid hfx;clear hfx
      go_upto_region 7 with(go_at_call 178;(with_reducible refine(ji _ _ _ _ _ _ _ _).mono ?_);rintro e' w5 ⟨rfl,hb⟩;rw[SA.out])
      have ahB:=hb.size;have b15:=b5.size;have B5:=B0.keep hb;have AE5:=AE.keep hb;have xw:=hB1.keep hb;have hS5:=hS1.after hb;have Jp:Out (λb=>b=Y.pm\/b=R) w w5:=Out.trans' iA (Out.of_below (M:=λ_=>False) hb) λ_ _ q=>q.elim;have KT:=Lib.hid (Bc.out.keep hb);have abS:=Lib.hid (qU.keep (x:=x) adV.out hb ak);have Y6:=Lib.hid (show Bu B f r0 r1 high x={ x with ld:=Fw.lay B f x.ld.id r0 r1 x.ld.s0 (Fw.wr (Fx.limit (max (Fw.wr (high-ext1 x s)) 0) (s.c 9) (s.c 10) (s.c 13) (s.c 14) r1+Fw.wr (Fw.ed s 0+Fw.ed s 2))) }by unfold Bu;rw[HS.out,SA.out];rfl);clear hb l0 aA aB l1 e0 e1 e2 e3 e4 e5 B0 AE hB1 hS1 iA Bc adV b5;have hSd:Below w5.heap.size w5 w5.drew:=Below.drew (Below.refl _ _);have QZ:=λX (h:Below w5.heap.size w5 X)=>PD x s vf va ib X (KT.out.keep h);obtain⟨ex1,abT⟩:∃v,ext1 x s=v:=⟨_,rfl⟩;rw[abT,<-qZ (high-ex1)]at Y6;simp only[abT]at QZ;obtain⟨d1,hd1⟩:∃v,IntKind.i64.wrap (high-ex1)=v:=⟨_,rfl⟩;rw[hd1]at Y6;obtain⟨lm,hlm⟩:∃v,Fx.limit (max d1 0) (s.c 9) (s.c 10) (s.c 13) (s.c 14) r1=v:=⟨_,rfl⟩;rw[hlm]at Y6;have nL:=λX=>rR (s.c 5) (s.c 6) (s.c 9) (s.c 10) (s.c 13) (s.c 14) (max d1 0) r1 X;simp only[hlm]at nL;clear abT hlm;obtain⟨l0,aA,aB⟩:=At.two B5;obtain⟨l1,e0,e1,e2,e3,e4,e5⟩:=At.six AE5;have Xz:=xw.lt;refine kQ (S:=λX=>Below w5.heap.size w5 X) 12 ?_ ?_
      . exact hSd
      intro hx;clear hSd;refine aH 0 ?_;refine aH 1 ?_;refine aH 2 ?_;refine aH 3 ?_;refine aH 8 ?_;refine aH 9 ?_;refine rD 4 rfl (DC (.tmp 36) aU rfl rfl (λX h=>qU.keep abS.out h Xz)) ?_;refine tk1 5 ?_;refine aj.Step.call dQ (QZ _ hx) ?_;rintro e' w6 ⟨rfl,hb⟩;replace hx:=Below.ay hx (ah _) hb;clear hb;refine⟨_,rfl,λ_=>hx,?_⟩
      (try simp only[bF,bG,bH,tks])
      refine aH 6 ?_;refine aH 7 ?_;refine tk1 10 ?_;refine aj.Step.call dQ (nL _) ?_;rintro e' w7 ⟨rfl,hb⟩;replace hx:=Below.ay hx (ah _) hb;clear hb;refine⟨_,rfl,λ_=>hx,?_⟩
      (try simp only[bF,bG,bH,tks])
      refine aH 11 ?_;refine jY ?_;have b7s:=hx.size;have B7:=B5.keep hx;have Mi:=xw.keep hx;have hS7:=hS5.after hx;have Ez:Out (λb=>b=Y.pm\/b=R) w w7:=Out.trans' Jp (Out.of_below (M:=λ_=>False) hx) λ_ _ q=>q.elim;have abU:=Lib.hid (KT.out.keep hx);have Vi:=Lib.hid (qU.keep (x:=x) abS.out hx Xz);clear hx l0 aA aB l1 e0 e1 e2 e3 e4 e5 B5 AE5 xw hS5 Jp KT abS QZ nL Xz hd1;have uz:=λX=>dV (Fw.ed s 0) (Fw.ed s 2) X;obtain⟨e02,EW⟩:∃v,Fw.wr (Fw.ed s 0+Fw.ed s 2)=v:=⟨_,rfl⟩;rw[EW,<-qZ (lm+e02)]at Y6;simp only[EW]at uz;obtain⟨hh,KJ⟩:∃v,IntKind.i64.wrap (lm+e02)=v:=⟨_,rfl⟩;rw[KJ]at Y6;clear EW;have cs0:w7.cell? ⟨R,q+k*17+8,none⟩=some (.int .i64 x.ld.s0):=(Vi.out 8 ak).trans rfl;have KR:w7.cell? ⟨R,q+k*17+12,none⟩=some (.pointer (some ⟨x.bx,0,none⟩)):=(Vi.out 12 ak).trans rfl;have lR7:=Mi.lt;obtain⟨l2,aN,aO,aP,aQ,aZ,bq,aX,aY⟩:=At.bx1 abU.out;clear aN aO aP aQ aZ bq
      go_upto_region 8 with(fail)
      refine aj.kg (λa0 a W5=>∃(T:Nat) (u44 u45 u46 u47 u48 u49 u50 u51 u52 u53 u54 u55 u56 u57 u58 u59 u60 u61:Value),a={ a0 with tmps:=((((((((((((((((((a0.tmps.setIfInBounds 44 u44).setIfInBounds 45 u45).setIfInBounds 46 u46).setIfInBounds 47 u47).setIfInBounds 48 u48).setIfInBounds 49 u49).setIfInBounds 50 u50).setIfInBounds 51 u51).setIfInBounds 52 u52).setIfInBounds 53 u53).setIfInBounds 54 u54).setIfInBounds 55 u55).setIfInBounds 56 u56).setIfInBounds 57 u57).setIfInBounds 58 u58).setIfInBounds 59 u59).setIfInBounds 60 u60).setIfInBounds 61 u61).setIfInBounds 12 (.pointer (some ⟨T,0,none⟩)) }/\w7.heap.size<=T/\At W5 T (.cells #[.int .i64 x.ld.s0,.int .i64 hh] 108)/\Below w7.heap.size w7 W5) ?_ ?_
      . have hSd:Below w7.heap.size w7 w7.drew:=Below.drew (Below.refl _ _)
        refine kQ (S:=λX=>Below w7.heap.size w7 X) 20 ?_ ?_
        . exact hSd
        intro hx;clear hSd;refine aH 0 ?_;refine aH 1 ?_;refine aH 2 ?_;refine aH 3 ?_;refine aH 4 ?_;refine aH 5 ?_;refine aH 6 ?_;refine aH 7 ?_;refine aH 8 ?_;refine aH 9 ?_;refine aH 10 ?_;refine aH 11 ?_;refine aH 12 ?_;refine aH 13 ?_;refine aH 14 ?_;clear l2 aX aY cs0 KR lR7 Vi abU Ez hS7 Mi B7;refine tk2 15 18 ?_ ?_
        . refine aj.Step.call dQ (uz _) ?_
          rintro e' w9 ⟨rfl,hb⟩;replace hx:=Below.ay hx (ah _) hb;clear hb;refine⟨_,rfl,λ_=>hx,?_⟩
          (try simp only[bF,bG,bH,tks])
          refine aH 16 ?_;refine aH 17 ?_;refine tk1 18 ?_;refine aj.Step.value (u:=.pointer (some ⟨w9.heap.size,0,none⟩)) (w':=w9.alloc (.cells #[.int .i64 0,.int .i64 0] 108)) dQ ?_;obtain⟨jg,bA,AT,fT,gT⟩:∃jg,jg=w9.alloc (.cells #[.int .i64 0,.int .i64 0] 108)/\At jg w9.heap.size (.cells #[.int .i64 0,.int .i64 0] 108)/\Below w9.heap.size w9 jg/\w7.heap.size<=w9.heap.size:=⟨_,rfl,At.new _ _,Below.alloc' (Below.refl _ _) _,hx.size⟩;rw[<-bA];clear bA;replace hx:=Below.ay hx (ah _) fT;generalize w9.heap.size=T at *;refine⟨λ_=>hx,?_⟩
          (try simp only[bF,bG,bH,tks])
          exact Z1h
        . refine aj.Step.value (u:=.pointer (some ⟨w7.drew.heap.size,0,none⟩)) (w':=w7.drew.alloc (.cells #[.int .i64 0,.int .i64 0] 108)) dQ ?_
          obtain⟨jg,bA,AT,fT,gT⟩:∃jg,jg=w7.drew.alloc (.cells #[.int .i64 0,.int .i64 0] 108)/\At jg w7.drew.heap.size (.cells #[.int .i64 0,.int .i64 0] 108)/\Below w7.drew.heap.size w7.drew jg/\w7.heap.size<=w7.drew.heap.size:=⟨_,rfl,At.new _ _,Below.alloc' (Below.refl _ _) _,hx.size⟩;rw[<-bA];clear bA;replace hx:=Below.ay hx (ah _) fT;generalize w7.drew.heap.size=T at *;refine⟨λ_=>hx,?_⟩
          (try simp only[bF,bG,bH,tks])
          refine tk1 15 ?_;refine aj.Step.call dQ (uz _) ?_;rintro e' w9 ⟨rfl,hb⟩;replace hx:=Below.ay hx (ah _) hb;replace AT:=AT.keep hb;clear hb;refine⟨_,rfl,λ_=>hx,?_⟩
          (try simp only[bF,bG,bH,tks])
          refine aH 16 ?_;refine aH 17 ?_;exact Z1h
      . rintro a W9 ⟨T,u44,u45,u46,u47,u48,u49,u50,u51,u52,u53,u54,u55,u56,u57,u58,u59,u60,u61,rfl,gT,AT,fT⟩
        simp only[List.setIfInBounds_toArray,List.set_cons_zero,List.set_cons_succ];clear uz KJ l2 aX aY cs0 KR;have b9s:=fT.size;have B9:=B7.keep fT;have qx:=Mi.keep fT;have Mk:=(hS7.after fT).after ((Below.refl W9.heap.size W9).drew);have Jl:Out (λb=>b=Y.pm\/b=R) w W9:=Out.trans' Ez (Out.of_below (M:=λ_=>False) fT) λ_ _ q=>q.elim;have hid:W9.cell? ⟨R,q+k*17+5,none⟩=some (.int .i64 x.ld.id):=(qU.keep Vi.out fT lR7 5 ak).trans rfl;have lR9:=qx.lt;have hcs1:=rX B f xs hkx;rw[HX.out]at hcs1;have hcs2:=wm B f xs (k+1);have hnn:=HN.out;have jZ:=ni hL qL sO.out hkm Mk x.ld.id r0 r1 x.ld.s0 hh lZ.out.d lZ.out.f ak;have MI:=Lib.hid (show q+k*17+5+7<=cs'.size by have:=hC.out.1.1;rw[jW]at this;have h2:k*17+17<=xs.length*17:=ak;omega);have abV:Fw.lay B f x.ld.id r0 r1 x.ld.s0 hh={ Fw.lay B f x.ld.id r0 r1 x.ld.s0 hh with id:=x.ld.id }:=rfl;obtain⟨ly,uy⟩:∃y,Fw.lay B f x.ld.id r0 r1 x.ld.s0 hh=y:=⟨_,rfl⟩;have Jt:ly.id=x.ld.id:=by rw[<-uy];rfl
        rw[uy]at jZ;have agr:=Lib.hid (show Bu B f r0 r1 high x={ x with ld:=ly }by rw[Y6.out,<-uy]);clear abV uy Y6 hS7 Mi B7 Ez Vi abU fT lR7;obtain⟨l0,aA,aB⟩:=At.two B9;obtain⟨lT,cT0,cT1⟩:=At.two AT;have n1:w.heap.size≠Y.pm:=by omega
        have n2:w.heap.size≠R:=by omega
        have n3:T≠Y.pm:=by omega
        have n4:T≠R:=by omega
        have hSd:Out (λb=>b=Y.pm\/b=R) W9 W9.drew/\W9.drew.cell? ⟨R,q+k*17+5,none⟩=some (.int .i64 x.ld.id):=⟨(Out.refl _ _).drew,hid⟩
        go_upto_region 9 with(fail)
        refine kQ (S:=λX=>Out (λb=>b=Y.pm\/b=R) W9 X/\X.cell? ⟨R,q+k*17+5,none⟩=some (.int .i64 x.ld.id)) 14 ?_ ?_
        . exact hSd
        intro hx;clear hSd;refine gG 0 ?_;refine gG 1 ?_;refine gG 2 ?_;refine gG 3 ?_;refine gG 4 ?_;refine gG 5 ?_;refine gG 6 ?_;refine gG 7 ?_;refine gG 8 ?_;refine gG 9 ?_;refine tk1 10 ?_;refine aj.Step.call dQ jZ ?_;rintro e' jg ⟨rfl,n2',P2,hn2,nM,Cj,kJ⟩;have NQ:Out (λb=>b=Y.pm) W9 jg:=(Out.refl _ W9).drew.trans kJ;have nX:=qx.out (M:=λb=>b=Y.pm) ak NQ;have um:jg.cell? ⟨R,q+k*17+5,none⟩=some (.int .i64 x.ld.id):=(Out.cell NQ (q+k*17+5) lR9 ak).trans hid;have B10:=B9.out (M:=λb=>b=Y.pm) n1 NQ;have Iz:Out (λb=>b=Y.pm\/b=R) W9 jg/\jg.cell? ⟨R,q+k*17+5,none⟩=some (.int .i64 x.ld.id):=⟨NQ.mono λb _ h => .inl h,um⟩;refine⟨_,rfl,λ_=>Iz,?_⟩
        (try simp only[bF,bG,bH,tks])
        refine gG 11 ?_;refine gG 12 ?_;refine tk1 13 ?_;refine aj.Step.skip (eZ nU (.tmp 74) (.tmp 72) rfl rfl rfl nX (dw ly) MI.out (o8 ly)) ?_;have oU:At (jg.setRow R (splice cs' (q+k*17+5) (eF ly))) R (.cells (splice cs' (q+k*17+5) (eF ly)) 283):=At.setRow nX _;have jF:Out (λb=>b=R) jg (jg.setRow R (splice cs' (q+k*17+5) (eF ly))):=Out.setRow (M:=λb=>b=R) (Out.refl _ _) rfl _;have Al:(jg.setRow R (splice cs' (q+k*17+5) (eF ly))).cell? ⟨R,q+k*17+5,none⟩=some (.int .i64 x.ld.id):=by
         exact Z22
        refine⟨λ_=>⟨(NQ.mono λb _ h => .inl h).trans (jF.mono λb _ h => .inr h),Al⟩,?_⟩
        (try simp only[bF,bG,bH,tks])
        refine jY ?_;have qW:¬ P2 R:=λh=>wG (Cj R (by simpa using lR9) h);have hput:=hC.out.1.PK hkc ly;rw[tH _ _ hkx,HX.out]at hput
        have Vj:Hid (fu (splice cs' (q+k*17+5) (eF ly)) q (DF (Bu B f r0 r1 high) xs (k+1))/\jV q m cs (splice cs' (q+k*17+5) (eF ly))):=Lib.hid ⟨by
         rw[<-yG _ _ hkx,HX.out,agr.out]
         exact hput.1,hC.out.2.trans (by have:=hput.2;rw[jW,HM.out]at this;exact this)⟩
        have qX:=nM.own (M:=λb=>b=R) jF λb hb h=>by subst h;exact⟨qW,pF⟩
        have oV:Out (λb=>b=Y.pm\/b=R) w (jg.setRow R (splice cs' (q+k*17+5) (eF ly))):=(Jl.trans (NQ.mono λb _ h => .inl h)).trans (jF.mono λb _ h => .inr h);have B11:=B10.out (M:=λb=>b=R) n2 jF;have abW:∀b,b<=w.heap.size->P2 b->P b:=λb hb h=>xD b hb (Cj b (by simp only[World.size_drew];omega) h);generalize jg.setRow R (splice cs' (q+k*17+5) (eF ly))=cZ at *;generalize splice cs' (q+k*17+5) (eF ly)=cs2 at *;clear hx hput nX jF Al um B10 B9 qx Mk Jl NQ kJ hid AT l0 aA aB lT cT0 cT1 Cj nM;go_wp2
        go_roundw
        case rel=>exact⟨k+1,n2',P2,cs2,by omega,by go_num,by omega,qX,qW,abW,oU,Vj,B11,oV⟩
        case measure=>simp[intOf];omega
  . obtain rfl:k=m:=by omega
    go_wp2
    go_end0
    refine⟨rfl,n',P',cs',by rw[<-HM.out]at hn' ⊢;exact hn',hSr,wG,λb hb h=>xD b ak h,hAr,?_,hC.out.2,hO⟩;have:=hC.out.1;rw[<-HM.out,Iy]at this;exact this
end
theorem Ao(kind s room:Int)(w:World):Calls Tryz.prog 237 #[.int .i64 kind,.int .i64 s,.int .i64 room] w λe w'=>e=.returned (.int .i64 (Ju.across kind s room))/\w=w':=by
 by_cases h2:kind=2
 . subst h2
   have Hr:Hid (Ju.across 2 s room=Fx.div (Fx.sub room s) 2):=Lib.hid (by unfold Ju.across;simp);exact Z1z
 . by_cases h3:kind=3
   . subst h3
     have Hr:Hid (Ju.across 3 s room=Fx.sub room s):=Lib.hid (by unfold Ju.across;simp);exact Z1z
   . have Hr:Hid (Ju.across kind s room=0):=Lib.hid (by unfold Ju.across;rw[if_neg h2,if_neg h3])
     have g2:(kind==2)=false:=by simp[h2]
     have g3:(kind==3)=false:=by simp[h3]
     exact Z1z
theorem KV(left p s q k:Int)(n b1 b2 b3 b4:Nat)(w:World)(c1:w.cell? ⟨b1,0,none⟩=some (.int .i64 left))(c2:w.cell? ⟨b2,0,none⟩=some (.int .i64 p))(c3:w.cell? ⟨b3,0,none⟩=some (.int .i64 s))(c4:w.cell? ⟨b4,0,none⟩=some (.int .i64 q))(p0:0<=p)(p1:p<=1)(s0:0<=s)(s2:s<=2)(k0:0<=k)(k1:k<=100000) :
  Calls Tryz.prog 303 #[.int .i64 k,.pointer (some ⟨b1,0,none⟩),.pointer (some ⟨b2,0,none⟩),.pointer (some ⟨b3,0,none⟩),.pointer (some ⟨b4,0,none⟩)] w λe w'=>e=.returned (.int .i64 (Ju.fr left p s q k))/\Below w.heap.size w w':=by
 have l1:b1<w.heap.size:=World.block_lt_of_cell? _ _ c1;have l2:b2<w.heap.size:=World.block_lt_of_cell? _ _ c2;have l3:b3<w.heap.size:=World.block_lt_of_cell? _ _ c3;have l4:b4<w.heap.size:=World.block_lt_of_cell? _ _ c4;obtain⟨m1,m2⟩:0<=s*k/\s*k<=2*100000:=Fx.zu s0 s2 k0 k1;have hw1:IntKind.i64.wrap (s*k)=s*k:=IntWalk.i64_in _ ak;have hw2:IntKind.i64.wrap (p+s*k)=p+s*k:=IntWalk.i64_in _ ak;go_enter Tryz.func303,Tryz.ntmps303
 go_upto_region 1 with(fail)
 refine xP ?_
 (repeat (first|refine nN ?_ | refine nO ?_ (hc:=by intro w2 hS;first|with_reducible exact JM hS (Yo _ _ _)|with_reducible exact JM hS (OX _ _ _))|refine nP ?_))
 refine aj.bZ ?_;intro w2 hS;go_wp2
 go_ret
 exact⟨rfl,hS⟩
structure bW(w:World)(b1 b2 b3 b4:Nat)(left p s q:Int):Prop where
 a1:At w b1 (.cells #[.int .i64 left] 3)
 a2:At w b2 (.cells #[.int .i64 p] 3)
 a3:At w b3 (.cells #[.int .i64 s] 3)
 a4:At w b4 (.cells #[.int .i64 q] 3)
 n12:b1≠b2
 n13:b1≠b3
 n14:b1≠b4
 n23:b2≠b3
 n24:b2≠b4
 n34:b3≠b4
theorem bW.keep{w w':World}{b1 b2 b3 b4:Nat}{left p s q:Int}(h:bW w b1 b2 b3 b4 left p s q)(hb:Below w.heap.size w w'):bW w' b1 b2 b3 b4 left p s q:=⟨h.a1.keep hb,h.a2.keep hb,h.a3.keep hb,h.a4.keep hb,h.n12,h.n13,h.n14,h.n23,h.n24,h.n34⟩
theorem bW.Qk{w:World}{b1 b2 b3 b4:Nat}{left p s q:Int}(h:bW w b1 b2 b3 b4 left p s q)(x:Int):bW (w.setCell ⟨b2,0,none⟩ (.int .i64 x)) b1 b2 b3 b4 left x s q :=
 ⟨h.a1.off h.n12 _ _,h.a2.set 0 _,h.a3.off h.n23.symm _ _,h.a4.off h.n24.symm _ _,h.n12,h.n13,h.n14,h.n23,h.n24,h.n34⟩
theorem bW.abX{w:World}{b1 b2 b3 b4:Nat}{left p s q:Int}(h:bW w b1 b2 b3 b4 left p s q)(x:Int):bW (w.setCell ⟨b3,0,none⟩ (.int .i64 x)) b1 b2 b3 b4 left p x q :=
 ⟨h.a1.off h.n13 _ _,h.a2.off h.n23 _ _,h.a3.set 0 _,h.a4.off h.n34.symm _ _,h.n12,h.n13,h.n14,h.n23,h.n24,h.n34⟩
theorem bW.Tf{w:World}{b1 b2 b3 b4:Nat}{left p s q:Int}(h:bW w b1 b2 b3 b4 left p s q)(x:Int):bW (w.setCell ⟨b4,0,none⟩ (.int .i64 x)) b1 b2 b3 b4 left p s x :=
 ⟨h.a1.off h.n14 _ _,h.a2.off h.n24 _ _,h.a3.off h.n34 _ _,h.a4.set 0 _,h.n12,h.n13,h.n14,h.n23,h.n24,h.n34⟩
theorem nV(w:World)(left:Int):bW ((((w.alloc (.cells #[.int .i64 left] 3)).alloc (.cells #[.int .i64 0] 3)).alloc (.cells #[.int .i64 0] 3)).alloc (.cells #[.int .i64 1] 3)) w.heap.size (w.heap.size+1) (w.heap.size+1+1) (w.heap.size+1+1+1) left 0 0 1 :=
 ⟨At.alloc (At.alloc (At.alloc (At.new _ _) _) _) _,At.alloc (At.alloc (At.new' _ eY) _) _,At.alloc (At.new' _ eY) _,At.new' _ eY,by omega,by omega,by omega,by omega,by omega,by omega⟩
theorem mQ(w:World)(a b c d:Obj):Below w.heap.size w ((((w.alloc a).alloc b).alloc c).alloc d) :=
 Below.alloc' (Below.alloc' (Below.alloc' (Below.alloc' (Below.refl _ _) _) _) _) _
theorem bW.cells{w:World}{b1 b2 b3 b4:Nat}{left p s q:Int}(h:bW w b1 b2 b3 b4 left p s q) :
  w.cell? ⟨b1,0,none⟩=some (.int .i64 left)/\w.cell? ⟨b2,0,none⟩=some (.int .i64 p)/\w.cell? ⟨b3,0,none⟩=some (.int .i64 s)/\w.cell? ⟨b4,0,none⟩=some (.int .i64 q) :=
 ⟨h.a1.cell 0,h.a2.cell 0,h.a3.cell 0,h.a4.cell 0⟩
theorem bW.Fz{w:World}{b1 b2 b3 b4:Nat}{left p s q:Int}(h:bW w b1 b2 b3 b4 left p s q) :
  w.frozen? ⟨b2,0,none⟩=false/\w.frozen? ⟨b3,0,none⟩=false/\w.frozen? ⟨b4,0,none⟩=false/\b2<w.heap.size/\b3<w.heap.size/\b4<w.heap.size :=
 ⟨h.a2.thaw 0,h.a3.thaw 0,h.a4.thaw 0,h.a2.lt,h.a3.lt,h.a4.lt⟩
theorem Ro(left n:Int)(w:World)(n0:0<=n)(n1:n<=100000):Calls Tryz.prog 280 #[.int .i64 1,.int .i64 left,.int .i64 n] w λe w'=>(∃b1 b2 b3 b4,e=.returned (.func (.func 303) #[] #[.pointer (some ⟨b1,0,none⟩),.pointer (some ⟨b2,0,none⟩),.pointer (some ⟨b3,0,none⟩),.pointer (some ⟨b4,0,none⟩)])/\bW w' b1 b2 b3 b4 left (1) (0) (1))/\Below w.heap.size w w':=by
 have Jy:∀(fn:Fn) (first cap:Array Value) (w:World),(Instr.makeFunc fn first cap).run Tryz.prog w=.ok (.func fn first cap) w:=λ_ _ _ _=>rfl;go_enter Tryz.func280,Tryz.ntmps280
 go_upto_region 2 with(fail)
 generalize hW:World.alloc (World.alloc (World.alloc (World.alloc _ _) _) _) _=W1;have hX:bW W1 w.heap.size (w.heap.size+1) (w.heap.size+1+1) (w.heap.size+1+1+1) left 0 0 1:=hW▸nV w left;have hB:Below w.heap.size w W1:=hW▸mQ w _ _ _ _;clear hW;obtain⟨m2,m3,m4⟩:w.heap.size<=w.heap.size+1/\w.heap.size<=w.heap.size+1+1/\w.heap.size<=w.heap.size+1+1+1:=⟨by omega,by omega,by omega⟩;generalize w.heap.size+1+1+1=b4 at *;generalize w.heap.size+1+1=b3 at *;generalize w.heap.size+1=b2 at *;have HX:=Lib.hid hX;obtain⟨c1,c2,c3,c4⟩:=hX.cells;obtain⟨z2,z3,z4,l2,l3,l4⟩:=hX.Fz;have l1:=hX.a1.lt;have n23:=hX.n23;have n24:=hX.n24;have n34:=hX.n34;have n32:=hX.n23.symm;have n42:=hX.n24.symm;have n43:=hX.n34.symm;clear hX;go_wp2
 go_ret
 exact⟨⟨_,_,_,_,rfl,(HX.out.Qk (1))⟩,(Below.setCell hB m2 _)⟩
theorem Rp(left n:Int)(w:World)(n0:0<=n)(n1:n<=100000):Calls Tryz.prog 280 #[.int .i64 2,.int .i64 left,.int .i64 n] w λe w'=>(∃b1 b2 b3 b4,e=.returned (.func (.func 303) #[] #[.pointer (some ⟨b1,0,none⟩),.pointer (some ⟨b2,0,none⟩),.pointer (some ⟨b3,0,none⟩),.pointer (some ⟨b4,0,none⟩)])/\bW w' b1 b2 b3 b4 left (1) (0) (2))/\Below w.heap.size w w':=by
 have Jy:∀(fn:Fn) (first cap:Array Value) (w:World),(Instr.makeFunc fn first cap).run Tryz.prog w=.ok (.func fn first cap) w:=λ_ _ _ _=>rfl;exact Zm
theorem KW(left n:Int)(w:World)(n0:0<=n)(n1:n<=100000)(h1:0<left)(h2:1<n):Calls Tryz.prog 280 #[.int .i64 3,.int .i64 left,.int .i64 n] w λe w'=>(∃b1 b2 b3 b4,e=.returned (.func (.func 303) #[] #[.pointer (some ⟨b1,0,none⟩),.pointer (some ⟨b2,0,none⟩),.pointer (some ⟨b3,0,none⟩),.pointer (some ⟨b4,0,none⟩)])/\bW w' b1 b2 b3 b4 left (0) (1) (n-1))/\Below w.heap.size w w':=by
 have Jy:∀(fn:Fn) (first cap:Array Value) (w:World),(Instr.makeFunc fn first cap).run Tryz.prog w=.ok (.func fn first cap) w:=λ_ _ _ _=>rfl;go_enter Tryz.func280,Tryz.ntmps280
 go_upto_region 2 with(fail)
 generalize hW:World.alloc (World.alloc (World.alloc (World.alloc _ _) _) _) _=W1;have hX:bW W1 w.heap.size (w.heap.size+1) (w.heap.size+1+1) (w.heap.size+1+1+1) left 0 0 1:=hW▸nV w left;have hB:Below w.heap.size w W1:=hW▸mQ w _ _ _ _;clear hW;obtain⟨m2,m3,m4⟩:w.heap.size<=w.heap.size+1/\w.heap.size<=w.heap.size+1+1/\w.heap.size<=w.heap.size+1+1+1:=⟨by omega,by omega,by omega⟩;generalize w.heap.size+1+1+1=b4 at *;generalize w.heap.size+1+1=b3 at *;generalize w.heap.size+1=b2 at *;have HX:=Lib.hid hX;obtain⟨c1,c2,c3,c4⟩:=hX.cells;obtain⟨z2,z3,z4,l2,l3,l4⟩:=hX.Fz;have l1:=hX.a1.lt;have n23:=hX.n23;have n24:=hX.n24;have n34:=hX.n34;have n32:=hX.n23.symm;have n42:=hX.n24.symm;have n43:=hX.n34.symm;clear hX;go_wp2
 go_ret
 exact⟨⟨_,_,_,_,rfl,((HX.out.abX (1)).Tf (n-1))⟩,(Below.setCell (Below.setCell hB m3 _) m4 _)⟩
theorem DJ(left n:Int)(w:World)(n0:0<=n)(n1:n<=100000)(h1:left<=0):Calls Tryz.prog 280 #[.int .i64 3,.int .i64 left,.int .i64 n] w λe w'=>(∃b1 b2 b3 b4,e=.returned (.func (.func 303) #[] #[.pointer (some ⟨b1,0,none⟩),.pointer (some ⟨b2,0,none⟩),.pointer (some ⟨b3,0,none⟩),.pointer (some ⟨b4,0,none⟩)])/\bW w' b1 b2 b3 b4 left (0) (0) (1))/\Below w.heap.size w w':=by
 have Jy:∀(fn:Fn) (first cap:Array Value) (w:World),(Instr.makeFunc fn first cap).run Tryz.prog w=.ok (.func fn first cap) w:=λ_ _ _ _=>rfl;have e1:decide (0<left)=false:=by simp;omega
 exact Zq
theorem Bv(left n:Int)(w:World)(n0:0<=n)(n1:n<=100000)(h1:0<left)(h2:n<=1):Calls Tryz.prog 280 #[.int .i64 3,.int .i64 left,.int .i64 n] w λe w'=>(∃b1 b2 b3 b4,e=.returned (.func (.func 303) #[] #[.pointer (some ⟨b1,0,none⟩),.pointer (some ⟨b2,0,none⟩),.pointer (some ⟨b3,0,none⟩),.pointer (some ⟨b4,0,none⟩)])/\bW w' b1 b2 b3 b4 left (0) (0) (1))/\Below w.heap.size w w':=by
 have Jy:∀(fn:Fn) (first cap:Array Value) (w:World),(Instr.makeFunc fn first cap).run Tryz.prog w=.ok (.func fn first cap) w:=λ_ _ _ _=>rfl;have e2:decide (1<n)=false:=by simp;omega
 exact Zq
theorem NR(left n:Int)(w:World)(n0:0<=n)(n1:n<=100000)(h1:0<left):Calls Tryz.prog 280 #[.int .i64 4,.int .i64 left,.int .i64 n] w λe w'=>(∃b1 b2 b3 b4,e=.returned (.func (.func 303) #[] #[.pointer (some ⟨b1,0,none⟩),.pointer (some ⟨b2,0,none⟩),.pointer (some ⟨b3,0,none⟩),.pointer (some ⟨b4,0,none⟩)])/\bW w' b1 b2 b3 b4 left (1) (2) (2*n))/\Below w.heap.size w w':=by
 have Jy:∀(fn:Fn) (first cap:Array Value) (w:World),(Instr.makeFunc fn first cap).run Tryz.prog w=.ok (.func fn first cap) w:=λ_ _ _ _=>rfl;go_enter Tryz.func280,Tryz.ntmps280
 go_upto_region 2 with(fail)
 generalize hW:World.alloc (World.alloc (World.alloc (World.alloc _ _) _) _) _=W1;have hX:bW W1 w.heap.size (w.heap.size+1) (w.heap.size+1+1) (w.heap.size+1+1+1) left 0 0 1:=hW▸nV w left;have hB:Below w.heap.size w W1:=hW▸mQ w _ _ _ _;clear hW;obtain⟨m2,m3,m4⟩:w.heap.size<=w.heap.size+1/\w.heap.size<=w.heap.size+1+1/\w.heap.size<=w.heap.size+1+1+1:=⟨by omega,by omega,by omega⟩;generalize w.heap.size+1+1+1=b4 at *;generalize w.heap.size+1+1=b3 at *;generalize w.heap.size+1=b2 at *;have HX:=Lib.hid hX;obtain⟨c1,c2,c3,c4⟩:=hX.cells;obtain⟨z2,z3,z4,l2,l3,l4⟩:=hX.Fz;have l1:=hX.a1.lt;have n23:=hX.n23;have n24:=hX.n24;have n34:=hX.n34;have n32:=hX.n23.symm;have n42:=hX.n24.symm;have n43:=hX.n34.symm;clear hX;go_wp2
 go_ret
 exact⟨⟨_,_,_,_,rfl,(((HX.out.Qk (1)).abX (2)).Tf (2*n))⟩,(Below.setCell (Below.setCell (Below.setCell hB m2 _) m3 _) m4 _)⟩
theorem EX(left n:Int)(w:World)(n0:0<=n)(n1:n<=100000)(h1:left<=0):Calls Tryz.prog 280 #[.int .i64 4,.int .i64 left,.int .i64 n] w λe w'=>(∃b1 b2 b3 b4,e=.returned (.func (.func 303) #[] #[.pointer (some ⟨b1,0,none⟩),.pointer (some ⟨b2,0,none⟩),.pointer (some ⟨b3,0,none⟩),.pointer (some ⟨b4,0,none⟩)])/\bW w' b1 b2 b3 b4 left (1) (0) (2))/\Below w.heap.size w w':=by
 exact Z33
theorem NS(left n:Int)(w:World)(n0:0<=n)(n1:n<=100000)(h1:0<left):Calls Tryz.prog 280 #[.int .i64 5,.int .i64 left,.int .i64 n] w λe w'=>(∃b1 b2 b3 b4,e=.returned (.func (.func 303) #[] #[.pointer (some ⟨b1,0,none⟩),.pointer (some ⟨b2,0,none⟩),.pointer (some ⟨b3,0,none⟩),.pointer (some ⟨b4,0,none⟩)])/\bW w' b1 b2 b3 b4 left (1) (1) (n+1))/\Below w.heap.size w w':=by
 have Jy:∀(fn:Fn) (first cap:Array Value) (w:World),(Instr.makeFunc fn first cap).run Tryz.prog w=.ok (.func fn first cap) w:=λ_ _ _ _=>rfl;go_enter Tryz.func280,Tryz.ntmps280
 go_upto_region 2 with(fail)
 generalize hW:World.alloc (World.alloc (World.alloc (World.alloc _ _) _) _) _=W1;have hX:bW W1 w.heap.size (w.heap.size+1) (w.heap.size+1+1) (w.heap.size+1+1+1) left 0 0 1:=hW▸nV w left;have hB:Below w.heap.size w W1:=hW▸mQ w _ _ _ _;clear hW;obtain⟨m2,m3,m4⟩:w.heap.size<=w.heap.size+1/\w.heap.size<=w.heap.size+1+1/\w.heap.size<=w.heap.size+1+1+1:=⟨by omega,by omega,by omega⟩;generalize w.heap.size+1+1+1=b4 at *;generalize w.heap.size+1+1=b3 at *;generalize w.heap.size+1=b2 at *;have HX:=Lib.hid hX;obtain⟨c1,c2,c3,c4⟩:=hX.cells;obtain⟨z2,z3,z4,l2,l3,l4⟩:=hX.Fz;have l1:=hX.a1.lt;have n23:=hX.n23;have n24:=hX.n24;have n34:=hX.n34;have n32:=hX.n23.symm;have n42:=hX.n24.symm;have n43:=hX.n34.symm;clear hX;go_wp2
 go_ret
 exact⟨⟨_,_,_,_,rfl,(((HX.out.Qk (1)).abX (1)).Tf (n+1))⟩,(Below.setCell (Below.setCell (Below.setCell hB m2 _) m3 _) m4 _)⟩
theorem EY(left n:Int)(w:World)(n0:0<=n)(n1:n<=100000)(h1:left<=0):Calls Tryz.prog 280 #[.int .i64 5,.int .i64 left,.int .i64 n] w λe w'=>(∃b1 b2 b3 b4,e=.returned (.func (.func 303) #[] #[.pointer (some ⟨b1,0,none⟩),.pointer (some ⟨b2,0,none⟩),.pointer (some ⟨b3,0,none⟩),.pointer (some ⟨b4,0,none⟩)])/\bW w' b1 b2 b3 b4 left (1) (0) (2))/\Below w.heap.size w w':=by
 exact Z33
theorem NT(kind left n:Int)(w:World)(n0:0<=n)(n1:n<=100000)(h1:¬ kind=1)(h2:¬ kind=2)(h3:¬ kind=3)(h4:¬ kind=4)(h5:¬ kind=5):Calls Tryz.prog 280 #[.int .i64 kind,.int .i64 left,.int .i64 n] w λe w'=>(∃b1 b2 b3 b4,e=.returned (.func (.func 303) #[] #[.pointer (some ⟨b1,0,none⟩),.pointer (some ⟨b2,0,none⟩),.pointer (some ⟨b3,0,none⟩),.pointer (some ⟨b4,0,none⟩)])/\bW w' b1 b2 b3 b4 left (0) (0) (1))/\Below w.heap.size w w':=by
 have Jy:∀(fn:Fn) (first cap:Array Value) (w:World),(Instr.makeFunc fn first cap).run Tryz.prog w=.ok (.func fn first cap) w:=λ_ _ _ _=>rfl;have g1:(kind==1)=false:=by simp[h1]
 have g2:(kind==2)=false:=by simp[h2]
 have g3:(kind==3)=false:=by simp[h3]
 have g4:(kind==4)=false:=by simp[h4]
 have g5:(kind==5)=false:=by simp[h5]
 exact Zq
theorem NU(kind left n:Int)(w:World)(n0:0<=n)(n1:n<=100000):Calls Tryz.prog 280 #[.int .i64 kind,.int .i64 left,.int .i64 n] w λe w'=>(∃b1 b2 b3 b4,e=.returned (.func (.func 303) #[] #[.pointer (some ⟨b1,0,none⟩),.pointer (some ⟨b2,0,none⟩),.pointer (some ⟨b3,0,none⟩),.pointer (some ⟨b4,0,none⟩)])/\bW w' b1 b2 b3 b4 left ((Ju.pq kind left n).1) ((Ju.pq kind left n).2.1) ((Ju.pq kind left n).2.2))/\Below w.heap.size w w':=by
 by_cases h1:kind=1
 . subst h1;exact Ro left n w n0 n1
 by_cases h2:kind=2
 . subst h2;exact Rp left n w n0 n1
 by_cases h3:kind=3
 . subst h3
   by_cases hl:0<left
   . by_cases hn:1<n
     . rw[show Ju.pq 3 left n=(0,1,n-1)by unfold Ju.pq;simp[hl,hn]];exact KW left n w n0 n1 hl hn
     . rw[show Ju.pq 3 left n=(0,0,1)by unfold Ju.pq;simp[hn]];exact Bv left n w n0 n1 hl ak
   . rw[show Ju.pq 3 left n=(0,0,1)by unfold Ju.pq;simp[hl]];exact DJ left n w n0 n1 ak
 by_cases h4:kind=4
 . subst h4
   by_cases hl:0<left
   . rw[show Ju.pq 4 left n=(1,2,2*n)by unfold Ju.pq;simp[hl]];exact NR left n w n0 n1 hl
   . rw[show Ju.pq 4 left n=(1,0,2)by unfold Ju.pq;simp[hl]];exact EX left n w n0 n1 ak
 by_cases h5:kind=5
 . subst h5
   by_cases hl:0<left
   . rw[show Ju.pq 5 left n=(1,1,n+1)by unfold Ju.pq;simp[hl]];exact NS left n w n0 n1 hl
   . rw[show Ju.pq 5 left n=(1,0,2)by unfold Ju.pq;simp[hl]];exact EY left n w n0 n1 ak
 rw[show Ju.pq kind left n=(0,0,1)by unfold Ju.pq;simp[h1,h2,h3,h4,h5]];exact NT kind left n w n0 n1 h1 h2 h3 h4 h5
end Go.Proofs.YtcbcfdihofclkaaGreat.Fix
