/- What functions of the program do, in plain numbers, part 23; no conditions. -/
import Derived.Test.YtmidaiklolmkcaaGreatM22
set_option linter.unusedVariables false
set_option linter.unusedSimpArgs false
set_option linter.unusedSectionVars false
set_option maxRecDepth 100000
set_option maxHeartbeats 16000000
namespace Go.Proofs.YtmidaiklolmkcaaGreat.Fix
open Go.ChangeShapes Go.WideShapes Go.ChangeAt Go.RowKit Go.Deep Go.Joins Go.Shelf
theorem XB{w:World}{r g c m:Nat}{K:Int->Value}{T:Tr.T}(h:Doc w r g c m K T)(H:Tr.WF T)(hn:(Tr.ord T).length<4096)(hmm:m+1<=4096)(u a:Int):Calls Tryz.prog 42 #[.pointer (some ⟨r,0,none⟩),.int .i64 u,.int .i64 a] w λe w'=>e=.returned (.tuple #[.int .i64 (Tr.tF T u a),.int .i64 (Tr.nD T u a)])/\∃g' c' m' K',Doc w' r g' c' m' K' (Tr.jE T u a)/\m'<=m+1/\DG r g K T w w' g' K' (Tr.jE T u a):=by
 by_cases hE:Tr.nD T u a=0
 . have hI:Tr.tF T u a=Tr.free T:=by unfold Tr.tF;rw[if_pos hE]
   have hR:Tr.jE T u a=Tr.pK T (Tr.free T) u a.toNat:=by unfold Tr.jE;rw[if_pos hE]
   rw[hI,hR,hE];unfold Tr.nD at hE;cases hu:T u with
   | none=>rw[hu]at hE;cases hE
   | some p =>
     rw[hu]at hE;dsimp only at hE;split at hE
     . cases hE
     . split at hE
       . cases hE
       . rename_i h1 h2
         obtain⟨d,h3,h4,h5⟩:=H.iZ hu;obtain⟨hfr,_⟩:=H.Ch;obtain⟨k,hk⟩:∃k:Nat,Tr.free T=k:=⟨(Tr.free T).toNat,by have:=hfr.1;omega⟩;obtain⟨i,rfl⟩:∃i:Nat,a=i:=⟨a.toNat,by omega⟩;rw[hk]at hfr;rw[hk,Int.toNat_natCast];have hkm:k<m\/k=m:=by
          rcases Nat.lt_trichotomy k m with q|q|q
          . exact .inl q
          . exact .inr q
          . have h6:=hfr.2.2 (m:Int) aj aj
            cases e:T (m:Int)with
            | none=>exact absurd e h6
            | some nd=>have:=h.range _ nd e;omega
         rcases hkm with hkm|hkm
         . exact S9 h H hn hmm hu rfl aj h4 aj hfr hkm
         . exact Ta h H hn hmm hu rfl aj h4 aj hfr hkm
 . refine(aa' h H hn hE).mono ?_
   rintro e w' ⟨rfl,hd,hg⟩;exact⟨rfl,g,c,m,K,hd,by omega,hg⟩
structure Two(W:World)(t r g c m n n0:Nat)(L:Lay)(K:Int->Value)(T U:Tr.T):Prop where
 good:Good W t L T n n0
 doc:Doc W r g c m K U
 own:∀b,jC r g K U b->n0<=b
 apart:∀b,owned t L T b->¬ jC r g K U b
section
variable {W W':World} {t r g c m n n0:Nat} {L:Lay} {K:Int->Value} {T U:Tr.T}
theorem Two.after(h:Two W t r g c m n n0 L K T U)(hb:Below W.heap.size W W'):Two W' t r g c m n n0 L K T U:=⟨h.good.after hb,h.doc.after hb,h.own,h.apart⟩
theorem Two.code{n':Nat}{L':Lay}{T':Tr.T}(h:Two W t r g c m n n0 L K T U)(hg:Good W' t L' T' n' n0)(k:Grow t L L' T T' W W'):Two W' t r g c m n' n0 L' K T' U :=
 ⟨hg,h.doc.out (M:=owned t L T) (λb hb q=>h.apart b q hb) k.1,h.own,λb hb hd=>(k.2 b hb).elim (λq=>h.apart b q hd) λq=>absurd (h.doc.lt hd) aj⟩
theorem Two.ref{g' c' m':Nat}{K':Int->Value}{U':Tr.T}(h:Two W t r g c m n n0 L K T U)(hd:Doc W' r g' c' m' K' U')(k:DG r g K U W W' g' K' U')(h0:n0<=W.heap.size):Two W' t r g' c' m' n n0 L K' T U'/\Below n0 W W' :=
 ⟨⟨⟨⟨h.good.inv.rep.out (M:=jC r g K U) (λb hb q=>h.apart b hb q) k.1,h.good.inv.wf,h.good.inv.num⟩,h.good.own,h.good.fit⟩,hd,λb hb=>(k.2 b hb).elim (h.own b) λq=>aJ h0 q,λb hb hd'=>(k.2 b hd').elim (h.apart b hb) λq=>absurd (h.good.inv.rep.lt hb) aj⟩,
  k.1.below h0 λb hb q=>absurd (h.own b q) aj⟩
end
theorem XC{w:World}{t r g c m n n0:Nat}{L:Lay}{K:Int->Value}{T:Tr.T}(h:Two w t r g c m n n0 L K T T)(hn:n<4096)(hm:m+1<=4096)(h0:n0<=w.heap.size){x:tZ}(hx:Mi x):Calls Tryz.prog 19 #[.pointer (some ⟨t,0,none⟩),.pointer (some ⟨r,0,none⟩),.agg (fu x)] w λe w'=>e=.returned (.bool true)/\∃L' g' c' m' n' K',Two w' t r g' c' m' n' n0 L' K' (SN T x) (SN T x)/\n'<=n+1/\m'<=m+1/\Below n0 w w':=by
 have hA:At (w.alloc (.cells (fu x) 65)) w.heap.size (.cells (fu x) 65):=At.new _ _;have hB:Below w.heap.size w (w.alloc (.cells (fu x) 65)):=Below.alloc' aF _;have h1:=h.after hB;have hB0:=hB.mono h0;have hs1:n0<=(w.alloc (.cells (fu x) 65)).heap.size:=by simp;omega
 have Fj:(Tr.ord T).length<4096:=by rw[h.good.inv.num];exact hn
 have H:=h.good.inv.wf;have WB:¬ owned t L T w.heap.size:=λq=>absurd (h.good.inv.rep.lt q) aj;have hlt:w.heap.size<(w.alloc (.cells (fu x) 65)).heap.size:=by simp
 have HA:=ah hA;clear h hB hA;have kR:=Mq h1.good hs1 hx.a;have kM:=SQ h1.good hs1 (a:=x.c) hx.a hx.b;have kA:=Ml h1.good hn hs1 (a:=x.b) hx.a;have kS:=vR h1.good hs1 hx.a hx.s;have dR:=ah λW (h:Doc W r g c m K T)=>MC h H x.a;have dM:=ah λW (h:Doc W r g c m K T)=>Te h H x.a x.b x.c;have dA:=ah λW (h:Doc W r g c m K T)=>XB h H Fj hm x.a x.b;have dS:=ah λW (h:Doc W r g c m K T)=>Xz h x.a x.s;have HG:=ah h1;have HX:=ah hx;have abf:Hid (∀(W:World) (L':Lay) (T':Tr.T),Grow t L L' T T' (w.alloc (.cells (fu x) 65)) W->At W w.heap.size (.cells (fu x) 65)):=ah λW L' T' k=>HA.out.out WB k.1;clear h1 hx;generalize hI1:Tr.wK T x.a=rI at kR dR;generalize hE1:Tr.qV T x.a=rE at kR dR;generalize hI2:Tr.jI T x.a x.b x.c=mE at kM dM;generalize hI3:Tr.tF T x.a x.b=aI at kA dA;generalize hE3:Tr.nD T x.a x.b=aE at kA dA;generalize RH:qp T x.a x.s=sE at kS dS;clear hI1 hE1 hI2 hI3 hE3 RH;have c0:(w.alloc (.cells (fu x) 65)).cell? ⟨w.heap.size,0,none⟩=some (.int .i64 x.k):=by rw[HA.out.cell,oq x aj];rfl
 have c1:(w.alloc (.cells (fu x) 65)).cell? ⟨w.heap.size,1,none⟩=some (.int .i64 x.a):=by rw[HA.out.cell,oq x aj];rfl
 have c2:(w.alloc (.cells (fu x) 65)).cell? ⟨w.heap.size,2,none⟩=some (.int .i64 x.b):=by rw[HA.out.cell,oq x aj];rfl
 have c3:(w.alloc (.cells (fu x) 65)).cell? ⟨w.heap.size,3,none⟩=some (.int .i64 x.c):=by rw[HA.out.cell,oq x aj];rfl
 have hs:Hid (uz (w.alloc (.cells (fu x) 65)) w.heap.size 4 x.s):=ah λj hj=>by rw[HA.out.cell,xQ x hj]
 go_enter Tryz.func19,Tryz.ntmps19
 go_upto_region 1 with(fail)
 generalize w.alloc (.cells (fu x) 65)=w1 at *;by_cases e2:x.k.tmod 5=2
 . have hd:Hid (SN T x=Tr.nT T x.a):=ah (by unfold SN;rw[if_pos e2])
   clear kM kA kS dM dA dS
   go_upto_region 5 with(first|(go_at_call 37;(with_reducible refine kR.mono ?_);rintro e w2 ⟨rfl,L',n',hi,hl,hg,hb2⟩;have XD:=ah (HG.out.code hi hg);have hA2:=abf.out _ _ _ hg;have c12:w2.cell? ⟨w.heap.size,1,none⟩=some (.int .i64 x.a):=Z4s;have HB2:=ah hb2;clear c0 c1 c2 c3 hA2 hi hg hb2)|(go_at_call 38;(with_reducible refine(dR.out _ XD.out.doc).mono ?_);rintro e w3 ⟨rfl,K',hd3,hg3⟩))
   have hn2:=aJ hs1 HB2.out.size;obtain⟨tw,hb⟩:=XD.out.ref hd3 hg3 (aJ hs1 HB2.out.size);have HTW:=ah tw;have HB:=ah ((hB0.trans HB2.out).trans hb);clear tw hb hd3 hg3;go_wp2
   go_ret
   rw[hd.out];exact⟨rfl,L',g,c,m,n',K',HTW.out,by omega,by omega,HB.out⟩
 by_cases e3:x.k.tmod 5=3
 . have hd:Hid (SN T x=Tr.mD T x.a x.b x.c):=ah (by unfold SN;rw[if_neg e2,if_pos e3])
   clear kR kA kS dR dA dS
   go_upto_region 9 with(first|(go_at_call 39;(with_reducible refine kM.mono ?_);rintro e w2 ⟨rfl,L',hi,hg,hb2⟩;have XD:=ah (HG.out.code hi hg);have hA2:=abf.out _ _ _ hg;have c12:w2.cell? ⟨w.heap.size,1,none⟩=some (.int .i64 x.a):=Z4s;have c22:w2.cell? ⟨w.heap.size,2,none⟩=some (.int .i64 x.b):=Z4s;have c32:w2.cell? ⟨w.heap.size,3,none⟩=some (.int .i64 x.c):=Z4s;have HB2:=ah hb2;clear c0 c1 c2 c3 hA2 hi hg hb2)|(go_at_call 40;(with_reducible refine(dM.out _ XD.out.doc).mono ?_);rintro e w3 ⟨rfl,K',hd3,hg3⟩))
   obtain⟨tw,hb⟩:=XD.out.ref hd3 hg3 (aJ hs1 HB2.out.size);have HTW:=ah tw;have HB:=ah ((hB0.trans HB2.out).trans hb);clear tw hb hd3 hg3;go_wp2
   go_ret
   rw[hd.out];exact⟨rfl,L',g,c,m,n,K',HTW.out,by omega,by omega,HB.out⟩
 by_cases e4:x.k.tmod 5=4
 . have hd:Hid (SN T x=jv T x.a x.s):=ah (by unfold SN;rw[if_neg e2,if_neg e3,if_pos e4])
   clear kR kA kM dR dA dM
   go_upto_region 13 with(first|(refine fJ aX _ rfl rfl hs.out ?_)|(refine fJ aX _ rfl rfl hs2.out ?_)|(go_at_call 13;(with_reducible refine kS.mono ?_);rintro e w2 ⟨rfl,hi,hg,hb2⟩;have XD:=ah (HG.out.code hi hg);have hA2:=abf.out _ _ _ hg;have c12:w2.cell? ⟨w.heap.size,1,none⟩=some (.int .i64 x.a):=Z4s;have hs2:Hid (uz w2 w.heap.size 4 x.s):=ah (λj hj=>by rw[hA2.cell,xQ x hj]);have HB2:=ah hb2;clear c0 c1 c2 c3 hA2 hi hg hb2 hs)|(go_at_call 41;(with_reducible refine(dS.out _ XD.out.doc).mono ?_);rintro e w3 ⟨rfl,hd3,hg3⟩))
   obtain⟨tw,hb⟩:=XD.out.ref hd3 hg3 (aJ hs1 HB2.out.size);have HTW:=ah tw;have HB:=ah ((hB0.trans HB2.out).trans hb);clear tw hb hd3 hg3;go_wp2
   go_ret
   rw[hd.out];exact⟨rfl,L,g,c,m,n,K,HTW.out,by omega,by omega,HB.out⟩
 have hd:Hid (SN T x=Tr.jE T x.a x.b):=ah (by unfold SN;rw[if_neg e2,if_neg e3,if_neg e4]);clear kR kS kM dR dS dM
 go_upto_region 16 with(first|(go_at_call 15;(with_reducible refine kA.mono ?_);rintro e w2 ⟨rfl,L',n',hi,hl,hg,hb2⟩;have XD:=ah (HG.out.code hi hg);have hA2:=abf.out _ _ _ hg;have c12:w2.cell? ⟨w.heap.size,1,none⟩=some (.int .i64 x.a):=Z4s;have c22:w2.cell? ⟨w.heap.size,2,none⟩=some (.int .i64 x.b):=Z4s;have HB2:=ah hb2;clear c0 c1 c2 c3 hA2 hi hg hb2)|(go_at_call 42;(with_reducible refine(dA.out _ XD.out.doc).mono ?_);rintro e w3 ⟨rfl,g',c',m',K',hd3,hm3,hg3⟩))
 obtain⟨tw,hb⟩:=XD.out.ref hd3 hg3 (aJ hs1 HB2.out.size);have HTW:=ah tw;have HB:=ah ((hB0.trans HB2.out).trans hb);clear tw hb hd3 hg3;go_wp2
 go_ret
 rw[hd.out];exact⟨rfl,L',g',c',m',n',K',HTW.out,hl,hm3,HB.out⟩
def VT(T:Tr.T):Prop:=∀z nd,T z=some nd->Re.valid nd.sty=true/\nZ nd.sty=true
theorem Jr:Re.valid Re.zero=true/\nZ Re.zero=true:=⟨by decide +kernel,by decide +kernel⟩
theorem VT.le{T T':Tr.T}(h:VT T)(k:eD T' T):VT T':=λz nd hz=>by
 rcases k z nd hz with e|⟨q,hq,e⟩
 . rw[e];exact Jr
 . rw[<-e];exact h z q hq
theorem VT.sty{T:Tr.T}(h:VT T)(z:Int){s:Re.St}(hs:nZ s=true):VT (jv T z s):=by
 unfold Fix.jv;split
 . rename_i he
   have hv:Re.valid s=true:=by
    unfold qp at he;split at he
    . cases he
    . split at he
      . cases he
      . rename_i h2
        simpa using h2
   unfold Tr.yE;split
   . exact h
   . intro y nd hy
     by_cases e:y=z
     . subst e;rw[Tr.aN]at hy;cases hy;exact⟨hv,hs⟩
     . rw[Tr.aK _ _ e]at hy;exact h y nd hy
 . exact h
theorem VT.act{T:Tr.T}(h:VT T){x:tZ}(hs:nZ x.s=true):VT (SN T x):=by
 unfold SN;split
 . exact h.le (eD.nT _ _)
 . split
   . exact h.le (eD.mD _ _ _ _)
   . split
     . exact h.sty _ hs
     . exact h.le (eD.jE _ _ _)
theorem agz:VT T0:=λz nd hz=>by
 unfold T0 at hz;split at hz
 . cases hz;exact Jr
 . cases hz
def abg(W:World)(n0 t r:Nat):Prop:=∃g c m n L K T,Two W t r g c m n n0 L K T T/\n<=31/\VT T/\∀x d,Tr.Dp T x d->d<=6
theorem GX.sty{W:World}{b o:Nat}{x:tZ}(h:GX W b o x):uz W b (o+4) x.s:=λj hj=>by
 have:=h (4+j) aj;rw[xQ x hj]at this
 rwa [Nat.add_assoc]
theorem Pf{a0:Option Addr}{um:Nat}(cap0:Nat){l:Nat->tZ}{w:World}(hA:Xk w a0 um l):Calls Tryz.prog 6 #[.slice a0 um cap0] w λe w'=>(∃tb rb ok,e=.returned (.tuple #[.pointer (some ⟨tb,0,none⟩),.pointer (some ⟨rb,0,none⟩),.bool ok])/\(ok=true->abg w' w.heap.size tb rb))/\Below w.heap.size w w':=by
 have HA:=ah hA;clear hA;go_enter Tryz.func6,Tryz.ntmps6
 go_upto_region 3 with(first|(go_at_call 14;(with_reducible refine(Mr _).mono ?_);rintro e w2 ⟨⟨tb,rfl,L0,g0⟩,hb2⟩)|(go_at_call 17;(with_reducible refine(Xy _).mono ?_);rintro e w3 ⟨⟨rb,rfl,g3,c3,K3,d3,ad1⟩,hb3⟩))
 have g1:=g0.after hb3;have hsz2:=hb2.size;have agA:Hid (Two w3 tb rb g3 c3 1 1 w.heap.size L0 K3 T0 T0):=ah ⟨g1,d3,λb hb=>by have:=ad1 b hb;omega,λb hb hd=>by have h1:=ad1 b hd;have h2:=g0.inv.rep.lt hb;omega⟩;have HB3:=ah (hb2.trans (hb3.mono hsz2));clear g0 g1 d3 ad1 hb2 hb3 hsz2;by_cases hbig:(30:Int)<(um:Int)
 . go_wp2
   go_ret3
   exact⟨⟨tb,rb,false,rfl,λh=>by cases h⟩,HB3.out⟩
 go_wp2
 go_loopw [7] (λi wr=>∃k Lr g c m K QA n,k<=um/\i=.int .i64 (k:Int)/\Two wr tb rb g c m n w.heap.size Lr K QA QA/\n<=k+1/\m<=k+1/\VT QA/\Below w.heap.size w wr) (λi _=>um-(intOf i).toNat)
 case atStart=>exact⟨0,L0,g3,c3,1,K3,T0,1,by omega,rfl,agA.out,by omega,by omega,agz,HB3.out⟩
 case round =>
  clear agA HB3;obtain⟨k,Lr,g,c,m,K,QA,n,hk,rfl,hgr,hnk,hmk,hvt,hbr⟩:=hrel;have HGr:=ah hgr;have HBr:=ah hbr;have HVT:=ah hvt;have hnr:=hbr.size;clear hgr hvt;by_cases hlt:k<um
  . have hltz:(k:Int)<(um:Int):=by omega
    obtain⟨b,off,rfl,lb,hc⟩:=(HA.out.after hbr) aj;obtain⟨hf,ha⟩:=hc k hlt;have HF:=ah hf;have agB:=ah ha;have HST:=ah ha.sty;have kT:=λX=>OZ (l k).s X;clear hf ha hc hbr;cases htm:nZ (l k).s
    . rw[htm]at kT
      go_wp2_with (first|(refine fJ aX _ rfl rfl HST.out ?_)|(go_at_call 18;(with_reducible refine(kT _).mono ?_);rintro e w5 ⟨rfl,hb5⟩))
      go_ret3
      exact⟨⟨tb,rb,false,rfl,λh=>by cases h⟩,HBr.out.trans (hb5.mono hnr)⟩
    rw[htm]at kT
    go_upto_region 10 with(first|(refine fJ aX _ rfl rfl HST.out ?_)|(go_at_call 18;(with_reducible refine(kT _).mono ?_);rintro e w5 ⟨rfl,hb5⟩))
    have MF:=ah (HBr.out.trans (hb5.mono hnr));have hn5:=aJ hnr hb5.size;have Wz:=XC (HGr.out.after hb5) aj aj hn5 HF.out;have agC:Hid (GX w5 b (off+k*59) (l k)):=ah λj hj=>(hb5.cell (p:=⟨b,off+k*59+j,none⟩) lb).trans (agB.out j hj);have lb5:=aV lb hb5.size;clear kT hb5 agB HST HGr HBr
    go_wp2_with (first|(refine BR aX _ rfl rfl agC.out ?_)|(go_at_call 19;(with_reducible refine Wz.mono ?_);rintro e w4 ⟨rfl,L4,g4,c4,m4,n4,K4,tw4,hn4,hm4,hb4⟩))
    go_roundw
    case rel=>exact⟨k+1,L4,g4,c4,m4,K4,SN QA (l k),n4,by omega,by go_num,tw4,by omega,by omega,HVT.out.act htm,MF.out.trans hb4⟩
    case measure=>simp[intOf];omega
  . have hltz:¬ (k:Int)<(um:Int):=by omega
    obtain rfl:k=um:=by omega
    clear hbr HA;have H:=HGr.out.good.inv.wf;have rF:=qQ 64 0 HGr.out.doc H.rT (by have:=H.jB;unfold Tr.ord at this;omega);change Calls _ _ _ _ (λe w'=>(∃v,e=.returned v/\w'.ownsRow _ _ 1 v (Tr.ord QA).length ((Tr.ord QA).map (Value.int .i64)))/\_)at rF;have agD:=ah HGr.out.good.inv.num
    go_upto_region 13 with(go_at_call 20;(with_reducible refine rF.mono ?_);rintro e w5 ⟨⟨v5,rfl,ho5⟩,hb5⟩;obtain⟨A5,c5,rfl⟩:=fK ho5)
    have hk5:=fH (base':=0) ho5 sQ;obtain⟨A6,c6,e6,hI6,-⟩:=KS.ints (show KS w5 (.slice A5 (Tr.ord QA).length c5) (Tr.ord QA)from hk5);injection e6 with e7 e8 e9;subst e7;have HI:=ah hI6;have TW:=ah (HGr.out.after hb5);have MF:=ah (HBr.out.trans (hb5.mono hnr));have HO:Hid (∃o,Tr.ord QA=o):=ah ⟨_,rfl⟩;clear ho5 hk5 hb5 rF HGr HBr hI6 e8 e9;obtain⟨o,ho⟩:=HO.out;rw[ho]at HI;rw[ho]at agD;rw[ho];have hno:=agD.out;rw[hno];go_wp2
    go_loopw [9] (λi wr=>∃j:Nat,j<=n/\i=.int .i64 (j:Int)/\Below w5.heap.size w5 wr/\∀q,q<j->Tr.dep QA (o.getD q 0)<=6) (λi _=>n-(intOf i).toNat)
    case atStart=>exact⟨0,by omega,rfl,Below.refl _ _,λq hq=>by omega⟩
    case round =>
     obtain⟨j,hj,rfl,hb6,hall⟩:=hrel;have agE:=ah hall;clear hall;by_cases hjn:j<n
     . have hjz:(j:Int)<(n:Int):=by omega
       obtain⟨b6,o6,rfl,lb6,cx⟩:=(HI.out.after hb6).at_ (k:=j) aj;have NY:=(uf (TW.out.after hb6).doc H (o.getD j 0));obtain⟨z,hz⟩:=aA (o.getD j 0);obtain⟨d,hd⟩:=aA (Tr.dep QA z);rw[hz]at cx NY;rw[hd]at NY;have HZ:Hid (Tr.dep QA (o.getD j 0)=d):=ah (by rw[hz,hd]);clear hz hd;by_cases h6:6<d
       . go_wp2_with (go_at_call 21;(with_reducible refine NY.mono ?_);rintro e w7 ⟨rfl,rfl⟩)
         go_ret3
         exact⟨⟨tb,rb,false,rfl,λh=>by cases h⟩,MF.out.trans (hb6.mono MF.out.size)⟩
       go_wp2_with (go_at_call 21;(with_reducible refine NY.mono ?_);rintro e w7 ⟨rfl,rfl⟩)
       go_roundw
       case rel=>exact⟨j+1,by omega,by go_num,hb6,λq hq=>by
        by_cases e:q=j
        . subst e;rw[HZ.out];omega
        . exact agE.out q aj⟩
       case measure=>simp[intOf];omega
     . have hjz:¬ (j:Int)<(n:Int):=by omega
       obtain rfl:j=n:=by omega
       go_wp2
       go_ret3
       refine⟨⟨tb,rb,.inr ⟨rfl,g,c,m,_,Lr,K,QA,TW.out.after hb6,by omega,HVT.out,λx d hx => ?_⟩⟩,MF.out.trans (hb6.mono MF.out.size)⟩;obtain⟨nd,hnd⟩:=hx.live;have hm:x∈o:=by rw[<-ho];exact H.iV.2 ⟨nd,hnd⟩
       obtain⟨q,hq,he⟩:=List.mem_iff_getElem.1 hm;have:=agE.out q aj;rw[List.getD,List.getElem?_eq_getElem hq,Option.getD_some,he,H.Ik hx]at this;omega
end Go.Proofs.YtmidaiklolmkcaaGreat.Fix
namespace Go.Proofs.YtmidaiklolmkcaaGreat.Fix
open Go.ChangeShapes Go.WideShapes Go.ChangeAt Go.RowKit
def Ab(x c:Int):Prop := -c<=x/\x<=c
theorem Ab.le{x c d:Int}(h:Ab x c)(k:c<=d):Ab x d:=by unfold Ab at *;omega
theorem qC{x c:Int}(h:Ab x c):Ab (Fx.cut x) c:=by unfold Ab Fx.cut at *;(repeat' split)<;>omega
theorem vV{a b x y:Int}(h:Ab a x)(k:Ab b y):Ab (Fx.add a b) (x+y):=by
 have h1:=qC h;have h2:=qC k;exact qC (by unfold Ab at *;omega)
theorem Js{a b x y:Int}(h:Ab a x)(k:Ab b y):Ab (Fx.sub a b) (x+y):=by
 have h1:=qC h;have h2:=qC k;exact qC (by unfold Ab at *;omega)
theorem Pg{a b x y:Int}(h:Ab a x)(k:Ab b y)(hx:x+y<=1099511627776):Fx.add a b=a+b:=by
 unfold Ab at h k;unfold Fx.add;rw[Fx.fM (n:=a) aj aj,Fx.fM (n:=b) aj aj,Fx.fM aj aj]
theorem ad2{a b x y:Int}(h:Ab a x)(k:Ab b y)(hx:x+y<=1099511627776):Fx.sub a b=a-b:=by
 unfold Ab at h k;unfold Fx.sub;rw[Fx.fM (n:=a) aj aj,Fx.fM (n:=b) aj aj,Fx.fM aj aj]
theorem Cw{a b A B:Int}(hA:0<=A)(hB:0<=B)(h:a<=A)(k:b<=B):Fx.add a b<=A+B:=by
 unfold Fx.add Fx.cut
 (repeat' split)<;>omega
def zs(g:Int->Int):List Int->Int
 | []=>0
 | k::l=>g k+zs g l
theorem Ph(g:Int->Int):∀l m:List Int,zs g (l++m)=zs g l+zs g m
 | [],m=>by simp[zs]
 | k::l,m=>by
   show g k+zs g (l++m)=g k+zs g l+zs g m;rw[Ph g l m];omega
theorem XE{g h:Int->Int}:∀{l:List Int},(∀k∈l,g k<=h k)->zs g l<=zs h l
 | [],_=>Int.le_refl _
 | k::l,H=>by
   have h1:=H k eZ;have h2:=XE (l:=l) λk hk=>H k (by simp[hk]);show g k+zs g l<=h k+zs h l;omega
theorem Ht{g:Int->Int}{l:List Int}(H:∀k∈l,0<=g k):0<=zs g l:=by
 have h:=XE (g:=λ_=>0) (h:=g) H
 have e:∀l:List Int,zs (λ_=>0) l=0:=λl=>by
  induction l with
  | nil=>rfl
  | cons k l ih=>show 0+zs _ l=0;rw[ih];rfl
 rw[e]at h;exact h
theorem XF{g:Int->Int}:∀{l:List Int},(∀k∈l,0<=g k)->∀k∈l,g k<=zs g l
 | [],_,k,hk=>by simp at hk
 | j::l,H,k,hk=>by
   have h1:=H j eZ;have h2:=Ht (l:=l) λk hk=>H k (by simp[hk]);show g k<=g j+zs g l;rcases List.mem_cons.1 hk with rfl|hk
   . omega
   . have:=XF (l:=l) (λk hk=>H k (by simp[hk])) k hk
     omega
theorem Ag(g:Int->Int)(a b:Int):∀l:List Int,zs (λk=>a*g k+b) l=a*zs g l+b*l.length
 | []=>by simp[zs]
 | k::l=>by
   show a*g k+b+zs _ l=a*(g k+zs g l)+b*((l.length+1:Nat):Int);rw[Ag g a b l,Int.mul_add,show((l.length+1:Nat):Int)=(l.length:Int)+1 by omega,Int.mul_add,Int.mul_one];omega
theorem XG{g:Int->Int}{l:List Int}(H:∀k∈l,1<=g k):(l.length:Int)<=zs g l:=by
 have h:=XE (g:=λ_=>0*0+1) (h:=g) H;rw[Ag (λ_=>0) 0 1]at h;omega
def TV(s:Re.St):Prop:=Re.valid s=true/\nZ s=true
theorem ad3{k n b:Int}(hv:Fx.valid k n=true)(ht:Jm k n=true) : -1048576<=Fx.len k n b 0/\(Fx.len k n b 0<=1048576\/Fx.len k n b 0<=b):=by
 unfold Fx.len;by_cases h1:k=1
 . subst h1
   rw[if_pos rfl];unfold Jm at ht;simp at ht;rw[Fx.fM aj aj];omega
 . rw[if_neg h1]
   by_cases h2:k=2/\0<=b
   . rw[if_pos h2]
     obtain⟨rfl,hb⟩:=h2;have hn:n<=10000:=by
      unfold Jm at ht;simp at ht;omega
     have p0:=Fx.Um (n:=n) hb;have p1:Fx.part b n<=Fx.part b 10000:=Fx.Ga hb hn;have p2:Fx.part b 10000<=b:=by
      by_cases hb2:b<=1099511627776
      . rw[Fx.Ul hb hb2];exact Int.le_refl _
      . have:=Fx.jP (Fx.cut b*Fx.parts 10000/10000)
        unfold Fx.part;omega
     omega
   . rw[if_neg h2]
     have:Fx.cut 0=0:=by decide
     omega
section
variable {s:Re.St} (h:TV s)
include h
theorem TV.len{i:Nat}(hi:i∈Re.lens)(b:Int) : -1048576<=Fx.len (s.c i) (s.c (i+1)) b 0/\(Fx.len (s.c i) (s.c (i+1)) b 0<=1048576\/Fx.len (s.c i) (s.c (i+1)) b 0<=b):=by
 have h1:=h.1;have h2:=h.2;unfold Re.valid Re.CW at h1;simp only[Bool.and_eq_true,List.all_eq_true]at h1;unfold nZ at h2;rw[List.all_eq_true]at h2;exact ad3 (h1.1.1.1.1.2 i hi) (h2 i hi)
theorem TV.size{i:Nat}(hi:i∈Re.sizes):0<=s.c i/\s.c i<=1048576:=by
 have h1:=h.1;unfold Re.valid Re.xD at h1;simp only[Bool.and_eq_true,List.all_eq_true]at h1;exact Re.Hy.1 (h1.1.1.1.2 i hi)
theorem tq{y:Nat}(hy:y<=1){n base M:Int}(h1:n<=M)(h2:1048576<=M)(h3:base<=M):Fw.lim s y n base<=M:=by
 unfold Fw.lim;rw[Fx.Uk];have k:=h.len (i:=7+2*y) (by rcases(show y=0\/y=1 by omega)with rfl|rfl<;>decide) base;have hc:Fx.cut n<=M:=by unfold Fx.cut;(repeat' split)<;>omega
 rw[show 7+2*y+1=8+2*y by omega]at k;generalize Fx.len (s.c (7+2*y)) (s.c (8+2*y)) base 0=lo at *;generalize Fx.len (s.c (11+2*y)) (s.c (12+2*y)) base 0=hi at *;cases Fx.jg (s.c (7+2*y)) base<;>cases Fx.jg (s.c (11+2*y)) base<;>simp only[cond_true,cond_false]<;>unfold Fx.mx<;>(try unfold Fx.mn)<;>(repeat' split)<;>omega
theorem G6(y e:Nat){r M:Int}(h2:1048576<=M)(h3:r<=M) : -1048576<=Fw.mg s y e r/\Fw.mg s y e r<=M:=by
 have hm:15+2*Fw.sd y e∈Re.lens:=by unfold Fw.sd;(repeat' split)<;>decide
 have k:=h.len hm (if y=0 then r else -1);unfold Fw.mg;rw[show 16+2*Fw.sd y e=15+2*Fw.sd y e+1 by omega]
 revert k
 split<;>intro k<;>omega
theorem Ah{y:Nat}(hy:y≠0)(e:Nat)(r:Int):Ab (Fw.mg s y e r) 1048576:=by
 have hm:15+2*Fw.sd y e∈Re.lens:=by unfold Fw.sd;(repeat' split)<;>decide
 have k:=h.len hm (-1);unfold Fw.mg Ab;rw[show 16+2*Fw.sd y e=15+2*Fw.sd y e+1 by omega,if_neg hy];omega
theorem Pj(y:Nat){r M:Int}(h2:1048576<=M)(h3:r<=M)(h4:M<=1099511627776) : -2097152<=Fw.Cc s y r/\Fw.Cc s y r<=2*M:=by
 have a:=G6 h y 0 h2 h3;have b:=G6 h y 1 h2 h3;unfold Fw.Cc;rw[cO aj];omega
theorem QB{y:Nat}(hy:y≠0)(r:Int):Ab (Fw.Cc s y r) 2097152:=by
 have a:=Ah h hy 0 r;have b:=Ah h hy 1 r;unfold Fw.Cc Ab at *;rw[cO aj];omega
theorem Ai(y e:Nat){r M:Int}(h2:1048576<=M)(h3:r<=M) : -1048576<=Fw.ins s y e r/\Fw.ins s y e r<=M:=by
 have hm:23+2*Fw.sd y e∈Re.lens:=by unfold Fw.sd;(repeat' split)<;>decide
 have k:=h.len hm r;unfold Fw.ins;rw[show 24+2*Fw.sd y e=23+2*Fw.sd y e+1 by omega];omega
theorem tu{y:Nat}(hy:y<=1){r0 r t M:Int}(h2:1048576<=M)(h4:M<=549755813888)(h0 : -1<=r0/\r0<=M)(hr : -1<=r/\r<=M)(ht:t = -1\/0<=t/\t<=M+12582912) :
  -1<=Fw.jk s y r0 r t/\Fw.jk s y r0 r t<=M+12582912/\(y=0->0<=Fw.jk s y r0 r t)/\(t = -1->Fw.jk s y r0 r t<=M+2097152)/\(t = -1->y=1->Fw.jk s y r0 r t<=M):=by
 have e:=jo h.1 y;unfold Fw.jk;split
 . rw[cO aj]
   refine⟨by omega,by omega,by omega,λh=>by omega,λh=>by omega⟩
 . split
   . rename_i hf
     have k:=h.len (i:=3+2*y) (by rcases(show y=0\/y=1 by omega)with rfl|rfl<;>decide) r;rw[show 3+2*y+1=4+2*y by omega]at k;have q:=tq h hy (n:=Fw.Tz s y r 0) (base:=r) (M:=M) (by unfold Fw.Tz;omega) h2 hr.2;have q2:=pG s y (Fw.Tz s y r 0) r;refine⟨by omega,by omega,by omega,by omega,by omega⟩
   . split
     . have g:=Pj h y h2 h0.2 aj
       have q:=tq h hy (n:=max (Fw.wr (Fw.wr (r-Fw.Cc s y r0)-Fw.iB s y)) 0) (base:=r) (M:=M+2097152) (by rw[cO (x:=r-Fw.Cc s y r0) aj,cO aj];omega) aj aj;have q2:=pG s y (max (Fw.wr (Fw.wr (r-Fw.Cc s y r0)-Fw.iB s y)) 0) r;refine⟨by omega,by omega,by omega,by omega,by omega⟩
     . refine⟨by omega,by omega,by omega,by omega,by omega⟩
theorem abh(r0:Int):Fw.jk s 1 r0 (-1) (-1)<=1048576:=by
 unfold Fw.jk;rw[if_neg aj];split
 . have k : -1048576<=Fx.len (s.c 5) (s.c 6) (-1) 0/\(Fx.len (s.c 5) (s.c 6) (-1) 0<=1048576\/Fx.len (s.c 5) (s.c 6) (-1) 0<=-1):=h.len (i:=5) aH (-1)
   exact tq h aj (by unfold Fw.Tz;show Fx.len (s.c 5) (s.c 6) (-1) 0<=_;omega) aj aj
 . rw[if_neg aj];omega
theorem MG(y:Nat)(r0 r:Int){n:Int}(h0:0<=n/\n<=1099511627776):Fw.jk s y r0 r (Fw.wr (n+Fw.iB s y))=n:=by
 have e:=jo h.1 y;unfold Fw.jk;rw[cO (x:=n+Fw.iB s y) aj,if_pos aj,cO aj];omega
theorem XH{r0 M:Int}(h2:1048576<=M)(h3:r0<=M)(h4:M<=549755813888):0<=Fw.JR s r0/\Fw.JR s r0<=M+4194304:=by
 have e:=jo h.1 0;have c:=h.size (i:=53) aH;have q:=tq h (y:=0) aj (n:=s.c 53) (base:=r0) (M:=M) aj h2 h3;have q2:=pG s 0 (s.c 53) r0;unfold Fw.JR;rw[cO aj];omega
end
def Aj(B:Int->Fw.Bx):Nat->Int->Int
 | 0,_=>1
 | f+1,z=>1+zs (Aj B f) (B z).fl
theorem uo(B:Int->Fw.Bx):∀(f:Nat) (z:Int),1<=Aj B f z
 | 0,_=>Int.le_refl _
 | f+1,z=>by
   have:=Ht (l:=(B z).fl) λk _=>Int.le_trans aj (uo B f k);show 1<=1+_;omega
structure Pk(M:Int)(x:Fw.Ld):Prop where
 i0:0<=x.i0/\x.i0<=M+12582912
 i1 : -1<=x.i1/\x.i1<=M+12582912
 s0:0<=x.s0/\x.s0<=M+16777216
 s1:0<=x.s1/\x.s1<=M+16777216
def tB(M t:Int):Prop:=t = -1\/0<=t/\t<=M+12582912
def rB(M r:Int):Prop := -1<=r/\r<=M
section
variable {B:Int->Fw.Bx} (hT:∀z,TV (B z).sty)
include hT
theorem QC{ct:Int->Int->Int->List Fw.Ld×Int}{M z r0 r1 t0 t1:Int}(h2:536870912<=M)(h4:M<=4294967296)(h0:rB M r0)(h1:rB M r1)(ht0:tB M t0)(ht1:tB M t1)
  (hc:(ct z (Fw.jk (B z).sty 0 r0 r0 t0) (-1)).2<=536870912):Pk M (Fw.iU B ct z r0 r1 t0 t1)/\(t1 = -1->(Fw.iU B ct z r0 r1 t0 t1).s1<=M+4194304):=by
 have e0:=jo (hT z).1 0;have e1:=jo (hT z).1 1;obtain⟨p1,p2,p3,p4,p5⟩:=tu (hT z) (y:=0) aj (M:=M) aj aj h0 h0 ht0;obtain⟨q1,q2,q3,q4,q5⟩:=tu (hT z) (y:=1) aj (M:=M) aj aj h0 h1 ht1;have p3:=p3 rfl;have l1:=tq (hT z) (y:=1) aj (n:=(ct z (Fw.jk (B z).sty 0 r0 r0 t0) (-1)).2) (base:=r1) (M:=M) aj aj h1.2;have l2:=pG (B z).sty 1 (ct z (Fw.jk (B z).sty 0 r0 r0 t0) (-1)).2 r1;have es1:(Fw.iU B ct z r0 r1 t0 t1).s1=Fw.wr ((if Fw.jk (B z).sty 1 r0 r1 t1 = -1 then Fw.lim (B z).sty 1 (ct z (Fw.jk (B z).sty 0 r0 r0 t0) (Fw.jk (B z).sty 1 r0 r1 t1)).2 r1 else Fw.jk (B z).sty 1 r0 r1 t1)+Fw.iB (B z).sty 1):=rfl;have hs1:0<=(Fw.iU B ct z r0 r1 t0 t1).s1/\(Fw.iU B ct z r0 r1 t0 t1).s1<=M+16777216/\(t1 = -1->(Fw.iU B ct z r0 r1 t0 t1).s1<=M+4194304):=by
  rw[es1];by_cases hi:Fw.jk (B z).sty 1 r0 r1 t1 = -1
  . rw[if_pos hi,hi,cO aj]
    refine⟨by omega,by omega,by omega⟩
  . rw[if_neg hi,cO aj]
    refine⟨by omega,by omega,λh => ?_⟩;have:=q5 h rfl;omega
 have hs0:0<=(Fw.iU B ct z r0 r1 t0 t1).s0/\(Fw.iU B ct z r0 r1 t0 t1).s0<=M+16777216:=by
  show 0<=Fw.wr (Fw.jk (B z).sty 0 r0 r0 t0+Fw.iB (B z).sty 0)/\Fw.wr (Fw.jk (B z).sty 0 r0 r0 t0+Fw.iB (B z).sty 0)<=_;rw[cO aj];omega
 exact⟨⟨⟨p3,p2⟩,⟨q1,q2⟩,hs0,⟨hs1.1,hs1.2.1⟩⟩,hs1.2.2⟩
theorem abj{ct:Int->Int->Int->List Fw.Ld×Int}{z r0 t0 W:Int}(hW:1048576<=W)(hW2:W<=536870912)(hc:(ct z (Fw.jk (B z).sty 0 r0 r0 t0) (-1)).2<=W):(Fw.iU B ct z r0 (-1) t0 (-1)).s1<=W+4194304:=by
 have e1:=jo (hT z).1 1;have q:=abh (hT z) r0;have q0:=ED (B z).sty 1 r0 (-1);have l1:=tq (hT z) (y:=1) aj (n:=(ct z (Fw.jk (B z).sty 0 r0 r0 t0) (-1)).2) (base := -1) (M:=W) hc hW aj;have l2:=pG (B z).sty 1 (ct z (Fw.jk (B z).sty 0 r0 r0 t0) (-1)).2 (-1);show Fw.wr ((if Fw.jk (B z).sty 1 r0 (-1) (-1) = -1 then Fw.lim (B z).sty 1 (ct z (Fw.jk (B z).sty 0 r0 r0 t0) (Fw.jk (B z).sty 1 r0 (-1) (-1))).2 (-1)else Fw.jk (B z).sty 1 r0 (-1) (-1))+Fw.iB (B z).sty 1)<=_;by_cases hi:Fw.jk (B z).sty 1 r0 (-1) (-1) = -1
 . rw[if_pos hi,hi,cO aj];omega
 . rw[if_neg hi,cO aj];omega
theorem abk{ct:Int->Int->Int->List Fw.Ld×Int}{z r0 r1 t1 n:Int}(h0:0<=n/\n<=1048576):(Fw.iU B ct z r0 r1 (Fw.wr (n+Fw.iB (B z).sty 0)) t1).s0<=5242880:=by
 have e:=jo (hT z).1 0;show Fw.wr (Fw.jk (B z).sty 0 r0 r0 (Fw.wr (n+Fw.iB (B z).sty 0))+Fw.iB (B z).sty 0)<=_;rw[MG (hT z) 0 r0 r0 aj,cO aj];omega
theorem abl{ct:Int->Int->Int->List Fw.Ld×Int}{z r0 r1 t0 n:Int}(h0:0<=n/\n<=1048576):(Fw.iU B ct z r0 r1 t0 (Fw.wr (n+Fw.iB (B z).sty 1))).s1<=5242880:=by
 have e:=jo (hT z).1 1;show Fw.wr ((if Fw.jk (B z).sty 1 r0 r1 (Fw.wr (n+Fw.iB (B z).sty 1)) = -1 then _ else Fw.jk (B z).sty 1 r0 r1 (Fw.wr (n+Fw.iB (B z).sty 1)))+Fw.iB (B z).sty 1)<=_;rw[MG (hT z) 1 r0 r1 aj,if_neg aj,cO aj];omega
theorem Pm{M n:Int}{z:Int}(y:Nat)(h:0<=n/\n<=M+8388608)(h4:M<=4294967296):tB M (Fw.wr (n+Fw.iB (B z).sty y)):=by
 have e:=jo (hT z).1 y;rw[cO aj];right;omega
end
theorem Pn{c:Int}(hc:0<=c){l:List Int}(h:∀x∈l,Ab x c):Ab (Fx.top l) c/\Ab (Fx.bot l) c:=by
 have a:=Fx.H6 l;have b:=Fx.Pz l;have a2:Fx.top l<=c:=(Fx.kC l 0 c).2 ⟨hc,λz hz=>(h z hz).2⟩;have b2 : -c<=Fx.bot l:=(Fx.yx l 0 (-c)).2 ⟨by omega,λz hz=>(h z hz).1⟩;unfold Ab;omega
theorem Jt{c:Int}(hc:0<=c){l:List Int}(h:∀x∈l,Ab x c):Ab (Fx.coll l) c:=by
 have a:=Fx.H6 l;have b:=Fx.Pz l;obtain⟨p,q⟩:=Pn hc h;unfold Fx.coll Fx.add Fx.cut Ab at *
 (repeat' split)<;>omega
section
variable {s t b:List Int} {S:Int} (hS:∀j,Ab (s.getD j 0) S) (hc:∀j,Ab (Fx.coll [b.getD (j-1) 0,t.getD j 0]) 1048576)
include hS hc
theorem MH(k:Nat):Ab (Fx.pI s t b k) (k*(S+1048576)):=by
 induction k with
 | zero=>unfold Fx.pI Ab;omega
 | succ k ih =>
   rw[Fx.xE,show((k+1:Nat):Int)=(k:Int)+1 by omega,Int.add_mul,Int.one_mul];have hs:=hS k;have hs0:0<=S:=by have:=hs;unfold Ab at this;omega
   by_cases h0:k=0
   . subst h0
     rw[Fx.CX];have:=vV (a:=0) (x:=0) (by unfold Ab;omega) hs;exact this.le aj
   . rw[Fx.Gd _ _ _ aj]
     exact(vV (vV ih (hc k)) hs).le aj
theorem XI(k:Nat):Ab (Fx.kZ s t b k) (k*(S+1048576)+1048576):=by
 have h:=MH hS hc k;unfold Fx.kZ;split
 . unfold Ab at *;omega
 . exact vV h (hc k)
end
theorem XJ{s t b:List Int}{w:Nat->Int}(hw:∀j,0<=w j)(hs:∀j,s.getD j 0<=w j)(hc:∀j,Ab (Fx.coll [b.getD (j-1) 0,t.getD j 0]) 1048576)(U:Nat->Int)(U0:U 0=0)(hU:∀j,U (j+1)=U j+w j+1048576)(k:Nat):0<=U k/\Fx.pI s t b k<=U k:=by
 induction k with
 | zero=>rw[U0];exact⟨Int.le_refl _,Int.le_refl _⟩
 | succ k ih =>
   have:=hw k;rw[hU,Fx.xE];refine⟨by omega,?_⟩;have hb:Fx.kZ s t b k<=U k+1048576:=by
    unfold Fx.kZ;split
    . omega
    . exact Cw ih.1 aj ih.2 (hc k).2
   have:=Cw aj this hb (hs k);omega
theorem ah7{kind lf c:Int}{n k:Nat}(h:Ab lf c)(hc:c<=1099511627776)(n2:n<=64)(hk:k<n):Ab (Ju.F kind lf n k) c:=by
 obtain⟨q1,q2,_⟩:=Ju.abA kind lf (n:=n) aj aj;obtain⟨c0,c1⟩:=Ju.UD (kind:=kind) (lf:=lf) n2 hk;unfold Ju.F Ju.fr;generalize (Ju.pq kind lf n).1+(Ju.pq kind lf n).2.1*(k:Int)=p at *;generalize (Ju.pq kind lf n).2.2=q at *;unfold Ab at *;unfold Fx.div Fx.mul;rw[if_neg aj,Fx.fM (n:=lf) aj aj,Fx.fM (n:=p) aj aj,Fx.fM (n:=q) aj aj,Fx.yt];have h1:(-c)*q<=(-c)*p:=by
  have:=Int.mul_le_mul_of_nonneg_left c1 (show(0:Int)<=c by omega);rw[Int.neg_mul,Int.neg_mul];omega
 have h2:(-c)*p<=lf*p:=Int.mul_le_mul_of_nonneg_right h.1 c0;have h3:lf*p<=c*p:=Int.mul_le_mul_of_nonneg_right h.2 c0;have h4:c*p<=c*q:=Int.mul_le_mul_of_nonneg_left c1 aj;have hcq:0<=c*q:=Int.mul_nonneg aj aj;rw[Int.neg_mul]at h1 h2;have hk:Ab (Fx.cut (lf*p)) (c*q):=qC (by unfold Ab;omega);unfold Ab at hk;constructor
 . exact Int.le_ediv_of_mul_le aj (by rw[Int.neg_mul];omega)
 . exact Int.ediv_le_of_le_mul aj aj
theorem XK{l:List Int}{gap L:Int}(hl:∀j,Ab (l.getD j 0) L)(g:Ab gap 1048576)(k:Nat):Ab (Ju.off l gap k) (k*(L+1048576)):=by
 induction k with
 | zero=>unfold Ju.off Ab;omega
 | succ k ih =>
   have:=hl k;rw[Ju.J6,show((k+1:Nat):Int)=(k:Int)+1 by omega,Int.add_mul,Int.one_mul];unfold Ab at *;omega
theorem agF{f:Int->Int}{l:List Int}{gap L Fb:Int}{n:Nat}(hf:∀k:Nat,k<n->Ab (f k) Fb)(hl:∀j,Ab (l.getD j 0) L)(g:Ab gap 1048576)(hF:0<=Fb)(hn:(n:Int)*(L+1048576)+3*Fb<=1099511627776) :
  ∀k,k<n->Ju.at_ f l gap k=f k+Ju.off l gap k:=by
 intro k;have hL:0<=L:=by have:=hl 0;unfold Ab at this;omega
 have hn0:0<=(n:Int)*(L+1048576):=Int.mul_nonneg aj aj
 induction k with
 | zero=>intro _;rw[Ju.Y1];show _=_+0;rw[Int.add_zero];rfl
 | succ k ih =>
   intro hk;have i:=ih aj;have ho:=XK hl g k;have hb:(k:Int)*(L+1048576)<=(n:Int)*(L+1048576)-(L+1048576):=by
    have:=Int.mul_le_mul_of_nonneg_right (show((k:Int)+1)<=n by omega) (show 0<=L+1048576 by omega);rw[Int.add_mul,Int.one_mul]at this;omega
   have h1:=hf k aj;have h2:=hf (k+1) hk;have h3:=hl k;have a1:Ab (f k+Ju.off l gap k) (Fb+k*(L+1048576)):=by unfold Ab at *;omega
   rw[Ju.Y2,i,Ju.J6,Pg a1 h3 aj];have a2:Ab (f k+Ju.off l gap k+l.getD k 0) (Fb+k*(L+1048576)+L):=by unfold Ab at *;omega
   rw[Pg a2 g aj,ad2 h2 h1 aj];have a3:Ab (f k+Ju.off l gap k+l.getD k 0+gap) (Fb+k*(L+1048576)+L+1048576):=by unfold Ab at *;omega
   have a4:Ab (f ((k+1:Nat):Int)-f k) (2*Fb):=by unfold Ab at *;omega
   rw[Pg a3 a4 aj];omega
theorem QD{gap L:Int}(g:Ab gap 1048576):∀(l:List Int),(∀x∈l,Ab x L)->Ab (Li.long gap l) (l.length*(L+1048576)):=by
 have key:∀(l:List Int) (s c:Int),Ab s c->(∀x∈l,Ab x L)->Ab (l.foldl (Li.next gap) s) (c+l.length*(L+1048576)):=by
  intro l
  induction l with
  | nil=>intro s c h _;simpa using h
  | cons x l ih =>
    intro s c h hx;have h1:Ab (Li.next gap s x) (c+1048576+L):=vV (vV h g) (hx x eZ);have:=ih _ _ h1 λx hx'=>hx x (by simp[hx']);rw[List.foldl_cons,List.length_cons,show((l.length+1:Nat):Int)=(l.length:Int)+1 by omega,Int.add_mul,Int.one_mul];exact this.le aj
 intro l hl;cases l with
 | nil=>unfold Ab;simp[Li.long]
 | cons x l =>
   have:=key l _ L (qC (hl x eZ)) λy hy=>hl y (by simp[hy]);rw[List.length_cons,show((l.length+1:Nat):Int)=(l.length:Int)+1 by omega,Int.add_mul,Int.one_mul];exact this.le aj
theorem G7{kind room gap L M:Int}{l:List Int}(hl:∀x∈l,Ab x L)(hL:0<=L)(g:Ab gap 1048576)(hr:Ab room M)(h64:l.length<=64)(hb:4*((l.length:Int)*(L+1048576))+3*M<=1099511627776){k:Nat}(hk:k<l.length) :
  Ab (Ju.starts kind room gap l k) (2*((l.length:Int)*(L+1048576))+M):=by
 have hlj:∀j,Ab (l.getD j 0) L:=λj=>by
  rw[List.getD];cases h:l[j]? with
  | none=>simp;unfold Ab;omega
  | some x=>exact hl x (List.mem_of_getElem? h)
 have hM:0<=M:=by unfold Ab at hr;omega
 have hlf:Ab (Ju.left room gap l) (M+(l.length:Int)*(L+1048576)):=Js hr (QD g l hl);have hn0:0<=(l.length:Int)*(L+1048576):=Int.mul_nonneg aj aj;have hF:∀k:Nat,k<l.length->Ab (Ju.F kind (Ju.left room gap l) l.length k) (M+(l.length:Int)*(L+1048576)):=λk hk=>ah7 hlf aj h64 hk;unfold Ju.starts;rw[agF (f:=Ju.F kind (Ju.left room gap l) l.length) hF hlj g aj aj k hk];have h1:=hF k hk;have h2:=XK hlj g k;have hb2:(k:Int)*(L+1048576)<=(l.length:Int)*(L+1048576):=Int.mul_le_mul_of_nonneg_right aj aj;unfold Ab at *;omega
theorem G8{kind size room x y:Int}(h:Ab size x)(k:Ab room y):Ab (Ju.across kind size room) (x+y):=by
 have q:=Js k h;have c2:Fx.cut 2=2:=by decide
 unfold Ju.across;split
 . unfold Fx.div
   rw[if_neg aj,c2];have:=qC q;unfold Ab at *;omega
 . split
   . exact q.le aj
   . unfold Ab at *;omega
theorem XL{room size f l a b c:Int}{x y:Bool}(hr:Ab room a)(hs:Ab size b)(hf:Ab f c)(hl:Ab l c):Ab (Fx.PD room size f l x y) (a+b+3*c):=by
 have q:Ab (Fx.left room size f l) (a+b+(c+c)):=Js (Js hr hs) (vV hf hl);have q2:Ab (Fx.shA (Fx.left room size f l) (!x) (!y)) (a+b+(c+c)):=by
  unfold Fx.shA;generalize Fx.left room size f l=n at *;unfold Ab at *;cases x<;>cases y<;>simp<;>(try split)<;>omega
 exact(vV hf q2).le aj
theorem EI{l:List Int}{c:Int}(hc:0<=c)(h:∀x∈l,x<=c):0<=l.foldl max 0/\l.foldl max 0<=c :=
 ⟨Fx.H6 l,(Fx.kC l 0 c).2 ⟨hc,h⟩⟩
structure LB(B:Int->Fw.Bx)(lay:Int->Int->Int->Int->Int->Fw.Ld)(M:Int)(C:Int->Int):Prop where
 sz:∀k r0 r1 t0 t1,rB M r0->rB M r1->tB M t0->tB M t1->Pk M (lay k r0 r1 t0 t1)
 low:∀k r0 r1 t0,rB M r0->rB M r1->tB M t0->(lay k r0 r1 t0 (-1)).s1<=M+4194304
 ct:∀k r0 t0,rB M r0->tB M t0->(lay k r0 (-1) t0 (-1)).s1<=C k+4194304
 s0:∀k r0 r1 t1 n,0<=n->n<=1048576->(lay k r0 r1 (Fw.wr (n+Fw.iB (B k).sty 0)) t1).s0<=5242880
 s1:∀k r0 r1 t0 n,0<=n->n<=1048576->(lay k r0 r1 t0 (Fw.wr (n+Fw.iB (B k).sty 1))).s1<=5242880
 id:∀k r0 r1 t0 t1,(lay k r0 r1 t0 t1).id=k
 c0:∀k,1048576<=C k
def PB(x:Fw.Ld):Prop:=Ab x.a0 549755813888/\Ab x.a1 549755813888
section
variable {B:Int->Fw.Bx} (hT:∀z,TV (B z).sty) {lay:Int->Int->Int->Int->Int->Fw.Ld} {M:Int} {C:Int->Int} (hM:536870912<=M) (hM2:M<=1627389952) (HL:LB B lay M C)
theorem wE{l:List Int}{c:Int}(hc:0<=c)(h:∀x∈l,Ab x c)(j:Nat):Ab (l.getD j 0) c:=by
 rw[List.getD];cases e:l[j]? with
 | none=>simp;unfold Ab;omega
 | some x=>exact h x (List.mem_of_getElem? e)
theorem pV:tB M (-1):=.inl rfl
include hT
theorem QE(e:Nat):∀(f:Nat) (z:Int),∀x∈Fw.meet B e f z,Ab x 1048576:=by
 intro f
 induction f with
 | zero =>
   intro z x hx;rw[Fw.meet,List.mem_singleton]at hx;subst hx;exact Ah (hT z) aH e (-1)
 | succ f ih =>
   intro z x hx;rw[Fw.meet]at hx;rcases List.mem_cons.1 hx with rfl|hx
   . exact Ah (hT z) aH e (-1)
   . split at hx
     . split at hx
       . exact ih _ x hx
       . simp at hx
     . simp at hx
theorem XM(e f:Nat)(e' f':Nat)(l:List Int)(j:Nat):Ab (Fx.coll [(l.map λk=>Fx.coll (Fw.meet B e f k)).getD (j-1) 0,(l.map λk=>Fx.coll (Fw.meet B e' f' k)).getD j 0]) 1048576:=by
 have h:∀e f,∀x∈l.map (λk=>Fx.coll (Fw.meet B e f k)),Ab x 1048576:=λe f x hx=>by
  obtain⟨k,_,rfl⟩:=List.mem_map.1 hx;exact Jt aj (QE hT e f k)
 refine Jt aj λx hx => ?_;simp only[List.mem_cons,List.mem_singleton,List.not_mem_nil,or_false]at hx;rcases hx with rfl|rfl
 . exact wE aj (h e f) _
 . exact wE aj (h e' f') _
include hM hM2 HL
theorem XO{i0 i1:Int}(h0:rB M i0)(h1:rB M i1)(k:Int):Pk M (Fw.jR B lay i0 i1 k)/\Ab (Fw.jR B lay i0 i1 k).a0 16106127360:=by
 have h:=HL.sz k i0 i1 (-1) (-1) h0 h1 pV pV;refine⟨⟨h.i0,h.i1,h.s0,h.s1⟩,?_⟩;have g0:=h.s0;have m1:=(hT k).len (i:=21) aH i0;have m2:=(hT k).len (i:=17) aH i0;unfold rB at h0;refine(XL (a:=M) (b:=M+16777216) (c:=M) (by unfold Ab;omega) (show Ab (lay k i0 i1 (-1) (-1)).s0 _ by unfold Ab;omega) ?_ ?_).le aj
 . show Ab (Fx.len ((B k).sty.c 21) ((B k).sty.c (21+1)) i0 0) M
   unfold Ab;omega
 . show Ab (Fx.len ((B k).sty.c 17) ((B k).sty.c (17+1)) i0 0) M
   unfold Ab;omega
theorem XP{f:Nat}{z i0 i1:Int}(h0:rB M i0)(h1:rB M i1)(hn:(B z).fl.length<=32) :
  (∀x∈(Fw.lH B lay f z i0 i1).1,Pk M x/\PB x)/\Ab (Fw.lH B lay f z i0 i1).2 549755813888/\(i1 = -1->(Fw.lH B lay f z i0 i1).2<=zs (λk=>C k+5242880) (B z).fl+2097152):=by
 obtain⟨b,hb⟩:=aA (B z);rw[hb]at hn;have hcc:=λj=>XM hT 1 f 0 f b.fl j
 have htp:∀e,∀x∈b.fl.map (λk=>Fx.coll (Fw.meet B e f k)),Ab x 1048576:=λe x hx=>by
  obtain⟨k,_,rfl⟩:=List.mem_map.1 hx;exact Jt aj (QE hT e f k)
 have hsz:∀x∈(b.fl.map (Fw.jR B lay i0 i1)).map (·.s1),Ab x (M+16777216):=λx hx=>by
  obtain⟨y,hy,rfl⟩:=List.mem_map.1 hx;obtain⟨k,_,rfl⟩:=List.mem_map.1 hy;have:=(XO hT hM hM2 HL h0 h1 k).1.s1;unfold Ab;omega
 obtain⟨first,hfi⟩:=aA ((if Fw.opn b.sty b.ib 0=true then (0:Int)else (b.fl.map λk=>Fx.coll (Fw.meet B 0 f k)).getD 0 0));obtain⟨last,hla⟩:=aA ((if Fw.opn b.sty b.ib 1=true then (0:Int)else (b.fl.map λk=>Fx.coll (Fw.meet B 1 f k)).getD ((b.fl.map λk=>Fx.coll (Fw.meet B 1 f k)).length-1) 0));have hf1:Ab first 1048576:=by
  rw[<-hfi];split
  . unfold Ab;omega
  . exact wE aj (htp 0) _
 have hl1:Ab last 1048576:=by
  rw[<-hla];split
  . unfold Ab;omega
  . exact wE aj (htp 1) _
 have ebl:Fw.lH B lay f z i0 i1=((b.fl.map (Fw.jR B lay i0 i1)).mapIdx λi x=>{ x with a1:=Fw.wr (first+Fx.kZ ((b.fl.map (Fw.jR B lay i0 i1)).map (·.s1)) (b.fl.map λk=>Fx.coll (Fw.meet B 0 f k)) (b.fl.map λk=>Fx.coll (Fw.meet B 1 f k)) i) },
   Fw.wr (Fw.wr (first+Fx.pI ((b.fl.map (Fw.jR B lay i0 i1)).map (·.s1)) (b.fl.map λk=>Fx.coll (Fw.meet B 0 f k)) (b.fl.map λk=>Fx.coll (Fw.meet B 1 f k)) b.fl.length)+last)):=by
  unfold Fw.lH;simp only[hb];rw[hfi,hla]
 rw[ebl,hb]
 have ah8:∀i,i<=32->Ab (Fx.kZ ((b.fl.map (Fw.jR B lay i0 i1)).map (·.s1)) (b.fl.map λk=>Fx.coll (Fw.meet B 0 f k)) (b.fl.map λk=>Fx.coll (Fw.meet B 1 f k)) i) 100000000000:=λi hi=>by
  refine(XI (S:=M+16777216) (λj=>wE aj hsz j) hcc i).le ?_;have:=Int.mul_le_mul_of_nonneg_right (show(i:Int)<=32 by omega) (show 0<=M+16777216+1048576 by omega);omega
 have hend:Ab (Fx.pI ((b.fl.map (Fw.jR B lay i0 i1)).map (·.s1)) (b.fl.map λk=>Fx.coll (Fw.meet B 0 f k)) (b.fl.map λk=>Fx.coll (Fw.meet B 1 f k)) b.fl.length) 100000000000:=by
  refine(MH (S:=M+16777216) (λj=>wE aj hsz j) hcc b.fl.length).le ?_;have:=Int.mul_le_mul_of_nonneg_right (show(b.fl.length:Int)<=32 by omega) (show 0<=M+16777216+1048576 by omega);omega
 refine⟨λx hx => ?_,?_,λhe => ?_⟩
 . obtain⟨i,hi,rfl⟩:=List.mem_mapIdx.1 hx
   rw[List.length_map]at hi;rw[List.getElem_map];obtain⟨h,ha⟩:=XO hT hM hM2 HL h0 h1 (b.fl[i]);refine⟨⟨h.i0,h.i1,h.s0,h.s1⟩,ha.le aj,?_⟩;have:=ah8 i aj;exact Ye
 . show Ab (Fw.wr (Fw.wr _+_)) _
   unfold Ab at *;rw[cO (x:=first+_) aj,cO aj];omega
 . show Fw.wr (Fw.wr _+_)<=_
   have hend':=hend;unfold Ab at hf1 hl1 hend';rw[cO (x:=first+_) aj,cO aj]
   have hU:=XJ (s:=(b.fl.map (Fw.jR B lay i0 i1)).map (·.s1)) (w:=λj=>if h:j<b.fl.length then C b.fl[j]+4194304 else 0)
    (λj=>by
     show 0<=(if h:j<b.fl.length then C b.fl[j]+4194304 else 0);split
     . have:=HL.c0 (b.fl[j]);omega
     . omega)
    (λj=>by
     show List.getD _ j 0<=(if h:j<b.fl.length then C b.fl[j]+4194304 else 0);split
     . rename_i h
       rw[List.getD,List.getElem?_map,List.getElem?_map,List.getElem?_eq_getElem h];show(lay b.fl[j] i0 i1 (-1) (-1)).s1<=_;rw[he];exact HL.ct _ _ _ h0 pV
     . rename_i h
       rw[List.getD,List.getElem?_map,List.getElem?_map,List.getElem?_eq_none aj]
       simp)
    hcc (λj=>zs (λk=>C k+5242880) (b.fl.take j)+1048576*((j-b.fl.length:Nat):Int)) (by simp[zs])
    (λj=>by
     show zs _ (b.fl.take (j+1))+1048576*((j+1-b.fl.length:Nat):Int)=zs _ (b.fl.take j)+1048576*((j-b.fl.length:Nat):Int)+(if h:j<b.fl.length then C b.fl[j]+4194304 else 0)+1048576;split
     . rename_i h
       rw[List.take_succ_eq_append_getElem h,Ph,show j+1-b.fl.length=0 by omega,show j-b.fl.length=0 by omega];show _+(C b.fl[j]+5242880+0)+_=_;omega
     . rename_i h
       rw[List.take_of_length_le aj,List.take_of_length_le aj]
       omega)
    b.fl.length
   simp only[List.take_length,Nat.sub_self]at hU;omega
theorem wF{i0:Int}(h0:rB M i0){x:Fw.Ld}(hx:Pk M x):Ab (Fw.jr B i0 0 x) 5100000000/\Ab (Fw.jr B i0 1 x) 1700000000/\Fw.jr B i0 1 x<=x.s1+2097152:=by
 have m0:=Pj (hT x.id) 0 (r:=i0) (M:=M) aj h0.2 aj;have m1:=QB (hT x.id) (y:=1) aH i0;have s0:=hx.s0;have s1:=hx.s1;unfold Fw.jr Ab at *;rw[if_pos rfl,if_neg aH,cO aj,cO aj];omega
theorem ad4{i0:Int}(k:Int) : -2097152<=Fw.wJ B i0 1 k/\Fw.wJ B i0 1 k<=6291456:=by
 have m1:=QB (hT k) (y:=1) aH i0;have e:=jo (hT k).1 1;unfold Fw.wJ Ab at *;rw[cO aj];omega
theorem abm{z i0 i1 high:Int}(h0:rB M i0)(h1:rB M i1)(hh:high = -1\/high=i1)(ks:List Int)(hn:ks.length<=32) :
  (∀x∈(Fw.eX B lay z i0 i1 high ks).1,Pk M x/\Ab x.a0 400000000000/\Ab x.a1 10000000000)/\0<=(Fw.eX B lay z i0 i1 high ks).2/\(Fw.eX B lay z i0 i1 high ks).2<=M+6291456 /\
  (high = -1->i1 = -1->(Fw.eX B lay z i0 i1 high ks).2<=zs (λk=>C k+6291456) ks):=by
 have ad5:=(hT z).size (i:=46) aH;obtain⟨sz,hsz⟩:=aA (Fw.iY B i0 i0 ((B z).sty.c 46) 0 (Fw.jG B i0) ks);have ad6:∀i,0<=sz.getD i 0/\sz.getD i 0<=1048576:=λi=>by rw[<-hsz];exact zm _ _ _ i
 obtain⟨xs,hxs⟩:=aA ((ks.mapIdx λi k=>lay k i0 i1 (Fw.wr (sz.getD i 0+Fw.iB (B k).sty 0)) (-1)))
 have hx:∀x∈xs,Pk M x/\x.s1<=M+4194304/\x.s0<=5242880/\∃k∈ks,x.id=k/\(i1 = -1->x.s1<=C k+4194304):=λx hx=>by
  rw[<-hxs]at hx;obtain⟨i,hi,rfl⟩:=List.mem_mapIdx.1 hx;have:=ad6 i;have ht:=Pm hT (M:=M) (z:=ks[i]) 0 (n:=sz.getD i 0) aj aj;exact⟨HL.sz _ _ _ _ _ h0 h1 ht pV,HL.low _ _ _ _ h0 h1 ht,HL.s0 _ _ _ _ _ this.1 this.2,ks[i],List.getElem_mem _,HL.id _ _ _ _ _,λe=>by rw[e];exact HL.ct _ _ _ h0 ht⟩
 obtain⟨deep,hd⟩:=aA ((if high = -1 then (xs.map (Fw.jr B i0 1)).foldl max 0 else high));have hd1:0<=deep/\deep<=M+6291456/\(high = -1->i1 = -1->deep<=zs (λk=>C k+6291456) ks):=by
  rw[<-hd];by_cases hi:high = -1
  . rw[if_pos hi]
    obtain⟨p1,p2⟩:=EI (l:=xs.map (Fw.jr B i0 1)) (c:=M+6291456) aj λy hy=>by
     obtain⟨x,hxm,rfl⟩:=List.mem_map.1 hy;obtain⟨a,b,_⟩:=hx x hxm;have:=(wF hT hM hM2 HL h0 a).2.2;omega
    refine⟨p1,p2,λ_ e => ?_⟩;have hC:∀k∈ks,0<=C k+6291456:=λk _=>by have:=HL.c0 k;omega
    exact(EI (l:=xs.map (Fw.jr B i0 1)) (Ht hC) λy hy=>by
     obtain⟨x,hxm,rfl⟩:=List.mem_map.1 hy;obtain⟨a,b,_,k,hk,hid,hc⟩:=hx x hxm;have h1:=(wF hT hM hM2 HL h0 a).2.2;have h2:=hc e;have h3:C k+6291456<=_:=XF hC k hk
     omega).2
  . rw[if_neg hi]
    have hh:high=i1:=hh.resolve_left hi;unfold rB at h1;exact⟨by omega,by omega,λh=>absurd h hi⟩
 obtain⟨ys,hys⟩:=aA ((if (B z).sty.c 44=0 then xs.map (λx=>if Fw.zJ (B x.id).sty 1 i1=true then x else lay x.id i0 i1 x.s0 (Fw.wr (Fw.lim (B x.id).sty 1 (max (Fw.wr (deep-Fw.wJ B i0 1 x.id)) 0) i1+Fw.iB (B x.id).sty 1)))else xs))
 have hy:∀y∈ys,Pk M y:=λy hy=>by
  rw[<-hys]at hy;split at hy
  . obtain⟨x,hxm,rfl⟩:=List.mem_map.1 hy
    obtain⟨a,b,c,_⟩:=hx x hxm;split
    . exact a
    . have hk:=ad4 hT hM hM2 HL (i0:=i0) x.id
      have hw:Fw.wr (deep-Fw.wJ B i0 1 x.id)=deep-Fw.wJ B i0 1 x.id:=cO aj;have hl:=tq (hT x.id) (y:=1) aj (n:=max (Fw.wr (deep-Fw.wJ B i0 1 x.id)) 0) (base:=i1) (M:=M+8388608) (by rw[hw];omega) aj (by have:=h1.2;omega);have hl2:=pG (B x.id).sty 1 (max (Fw.wr (deep-Fw.wJ B i0 1 x.id)) 0) i1;exact HL.sz _ _ _ _ _ h0 h1 (.inr ⟨a.s0.1,by omega⟩) (Pm hT 1 ⟨hl2.1,hl⟩ aj)
  . exact(hx y hy).1
 have hlen:ys.length<=32:=by
  have e:ys.length=ks.length:=by
   rw[<-hys];have:xs.length=ks.length:=by rw[<-hxs,List.length_mapIdx]
   split
   . rw[List.length_map,this]
   . exact this
  omega
 have er:Fw.eX B lay z i0 i1 high ks=(ys.mapIdx λi x=>{ x with a0:=Fw.wr (Ju.starts ((B z).sty.c 43) i0 ((B z).sty.c 46) (ys.map (Fw.jr B i0 0)) i+Fw.mg (B x.id).sty 0 0 i0),a1:=Fw.wr (Ju.across ((B z).sty.c 44) (Fw.jr B i0 1 x) deep+Fw.mg (B x.id).sty 1 0 i0) },deep):=by
  unfold Fw.eX;simp only[hsz,hxs,hd,hys]
 rw[er];refine⟨λx hxm => ?_,hd1⟩;obtain⟨i,hi,rfl⟩:=List.mem_mapIdx.1 hxm;have a:=hy _ (List.getElem_mem hi);have hst:Ab (Ju.starts ((B z).sty.c 43) i0 ((B z).sty.c 46) (ys.map (Fw.jr B i0 0)) i) 330000000000:=by
  refine(G7 (L:=5100000000) (M:=M) (λy hy' => ?_) aj (by unfold Ab;omega) (by unfold rB at h0;unfold Ab;omega) (by rw[List.length_map];omega) ?_ (by rw[List.length_map];exact hi)).le ?_
  . obtain⟨x,hxm,rfl⟩:=List.mem_map.1 hy'
    exact(wF hT hM hM2 HL h0 (hy x hxm)).1
  . rw[List.length_map];omega
  . rw[List.length_map];omega
 have hk:=(wF hT hM hM2 HL h0 a).2.1;have hac:=G8 (kind:=(B z).sty.c 44) hk (show Ab deep (M+6291456)by unfold Ab;omega);have m0:=G6 (hT (ys[i]).id) 0 0 (r:=i0) (M:=M) aj h0.2;have m1:=Ah (hT (ys[i]).id) (y:=1) aH 0 i0;refine⟨⟨a.i0,a.i1,a.s0,a.s1⟩,?_,?_⟩
 . exact Ye
 . exact Ye
theorem XQ{z i0 i1 high:Int}(h0:rB M i0)(h1:rB M i1)(hh:high = -1\/high=i1)(fl:List Int)(hn:fl.length<=32)(room gap:Int)(wrap:Bool)(l:List Int)(hl:l.length=fl.length) :
  ∀(n at_:Nat) (fst:Bool) (y:Int),l.length-at_<=n->at_<=l.length->0<=y->y<=(M+7340032)*at_ ->
   (∀x∈(Fw.aY B lay z i0 i1 high fl fst y (Li.tail room gap wrap l at_)).1,Pk M x/\PB x)/\y<=(Fw.aY B lay z i0 i1 high fl fst y (Li.tail room gap wrap l at_)).2 /\
   (Fw.aY B lay z i0 i1 high fl fst y (Li.tail room gap wrap l at_)).2<=100000000000 /\
   (high = -1->i1 = -1->(Fw.aY B lay z i0 i1 high fl fst y (Li.tail room gap wrap l at_)).2<=y+zs (λk=>C k+7340032) (fl.drop at_)):=by
 have ad5:=(hT z).size (i:=46) aH;have hC:∀k∈fl,0<=C k+7340032:=λk _=>by have:=HL.c0 k;omega
 intro n
 induction n with
 | zero =>
   intro at_ fst y ha hb hy0 hy1;rw[Li.oN _ _ _ _ aj];exact Z29
 | succ n ih =>
   intro at_ fst y ha hb hy0 hy1;rcases Nat.lt_or_ge at_ l.length with h|h
   . have hs1:=Li.vY room gap wrap l at_
     have hs2:=Li.Ce room gap wrap l h;rw[Li.pW _ _ _ _ h];simp only[Fw.aY];obtain⟨st,hst⟩:=aA (Li.stop room gap wrap l at_);rw[hst]at hs1 hs2 ⊢;have hm:=Int.mul_le_mul_of_nonneg_left (show(at_:Int)<=32 by omega) (show 0<=M+7340032 by omega);have hm2:=Int.mul_le_mul_of_nonneg_left (show(at_:Int)+1<=st by omega) (show 0<=M+7340032 by omega);rw[Int.mul_add,Int.mul_one]at hm2;obtain⟨y1,agG⟩:=aA ((if fst=true then y else Fw.wr (y+(B z).sty.c 46)));have ajx:y<=y1/\y1<=y+1048576:=by
      rw[<-agG];split
      . omega
      . rw[cO aj];omega
     rw[agG];obtain⟨q1,q2,q3,q4⟩:=abm hT hM hM2 HL (z:=z) h0 h1 hh ((fl.drop at_).take (st-at_)) (by rw[List.length_take,List.length_drop];omega);generalize Fw.eX B lay z i0 i1 high ((fl.drop at_).take (st-at_))=ln at *;have hw:Fw.wr (y1+ln.2)=y1+ln.2:=cO aj;obtain⟨r1,r2,r3,r4⟩:=ih st false (Fw.wr (y1+ln.2)) aj hs2 (by rw[hw];omega) (by rw[hw];omega);rw[hw]at r1 r2 r3 r4 ⊢;refine⟨λx hx => ?_,by omega,r3,λe1 e2 => ?_⟩
     . rcases List.mem_append.1 hx with hx|hx
       . obtain⟨u,hu,rfl⟩:=List.mem_map.1 hx
         obtain⟨s1,s2,s3⟩:=q1 u hu;refine⟨⟨s1.i0,s1.i1,s1.s0,s1.s1⟩,s2.le aj,?_⟩;exact Ye
       . exact r1 x hx
     . have r4:=r4 e1 e2
       have q4:=q4 e1 e2;have e:=Ph (λk=>C k+7340032) ((fl.drop at_).take (st-at_)) ((fl.drop at_).drop (st-at_));rw[List.take_append_drop,List.drop_drop,show at_+(st-at_)=st by omega]at e;have hne:(1:Int)<=((fl.drop at_).take (st-at_)).length:=by rw[List.length_take,List.length_drop];omega
       have e2:zs (λk=>C k+7340032) ((fl.drop at_).take (st-at_))=zs (λk=>C k+6291456) ((fl.drop at_).take (st-at_))+1048576*((fl.drop at_).take (st-at_)).length:=by
        have a:=Ag C 1 7340032 ((fl.drop at_).take (st-at_));have b:=Ag C 1 6291456 ((fl.drop at_).take (st-at_));simp only[Int.one_mul]at a b;omega
       omega
   . rw[Li.oN _ _ _ _ h]
     exact Z29
theorem ad7{z i0 i1:Int}(h0:rB M i0)(h1:rB M i1)(hn:(B z).fl.length<=32) :
  (∀x∈(Fw.yC B lay z i0 i1).1,Pk M x/\PB x)/\Ab (Fw.yC B lay z i0 i1).2 549755813888/\(i1 = -1->(Fw.yC B lay z i0 i1).2<=zs (λk=>C k+7340032) (B z).fl):=by
 obtain⟨l,hl⟩:=aA (((B z).fl.map λk=>Fw.wr (Fe.clamp (Fw.jG B i0 k) (Fw.jG B i0 k).b+Fw.wJ B i0 0 k)));have hlen:l.length=(B z).fl.length:=by rw[<-hl,List.length_map]
 obtain⟨hi,hhi⟩:=aA ((if (Li.brk i0 ((B z).sty.c 46) ((B z).sty.b 45) l).length=1 then i1 else -1));have hh:hi = -1\/hi=i1:=by rw[<-hhi];split<;>simp
 obtain⟨a,b,c,d⟩:=XQ hT hM hM2 HL (z:=z) h0 h1 hh (B z).fl hn i0 ((B z).sty.c 46) ((B z).sty.b 45) l hlen l.length 0 true 0 aj aj aj aj;have e:Fw.yC B lay z i0 i1=Fw.aY B lay z i0 i1 hi (B z).fl true 0 (Li.tail i0 ((B z).sty.c 46) ((B z).sty.b 45) l 0):=by
  unfold Fw.yC;simp only[hl,hhi];rfl
 rw[e];refine⟨a,by unfold Ab;omega,λh => ?_⟩;have:=d (by rcases hh with q|q;exact q;omega) h;simpa using this
theorem Tf{z i0 i1:Int}(h0:rB M i0)(h1:rB M i1)(hn:(B z).fl.length<=32) :
  (∀x∈(Fw.iE B lay z i0 i1).1,Pk M x/\PB x)/\Ab (Fw.iE B lay z i0 i1).2 549755813888/\(i1 = -1->(Fw.iE B lay z i0 i1).2<=8388608*(B z).fl.length):=by
 have ad5:=(hT z).size (i:=46) aH
 have hc:∀k,tB M (Fw.fq B z i0 k):=λk=>by
  unfold Fw.fq;split
  . have:=XH (hT k) (r0:=i0) (M:=M) aj h0.2 aj
    exact .inr ⟨this.1,by omega⟩
  . exact pV
 obtain⟨sz,hsz⟩:=aA ((if i1 ≠ -1/\(B z).fl.length<=64 then Fw.iY B i0 i1 ((B z).sty.c 46) 1 (λk=>Fw.EX (B k).sty 1 (Fw.wr ((lay k i0 i1 (Fw.fq B z i0 k) (-1)).s1-Fw.iB (B k).sty 1)) i1) (B z).fl else (B z).fl.map λk=>Fe.clamp (Fw.EX (B k).sty 1 (Fw.wr ((lay k i0 i1 (Fw.fq B z i0 k) (-1)).s1-Fw.iB (B k).sty 1)) i1) (Fw.EX (B k).sty 1 (Fw.wr ((lay k i0 i1 (Fw.fq B z i0 k) (-1)).s1-Fw.iB (B k).sty 1)) i1).b))
 have ad6:∀i,0<=sz.getD i 0/\sz.getD i 0<=1048576:=λi=>by
  rw[<-hsz];split
  . exact zm _ _ _ i
  . rw[List.getD,List.getElem?_map]
    cases h:(B z).fl[i]? with
    | none=>simp
    | some k=>simp only[Option.map_some,Option.getD_some];exact Fe.jQ _ _
 obtain⟨xs,hxs⟩:=aA (((B z).fl.mapIdx λi k=>lay k i0 i1 (Fw.fq B z i0 k) (Fw.wr (sz.getD i 0+Fw.iB (B k).sty 1))))
 have hx:∀x∈xs,Pk M x/\x.s1<=5242880:=λx hx=>by
  rw[<-hxs]at hx;obtain⟨i,hi,rfl⟩:=List.mem_mapIdx.1 hx;have:=ad6 i;exact⟨HL.sz _ _ _ _ _ h0 h1 (hc _) (Pm hT 1 aj aj),HL.s1 _ _ _ _ _ this.1 this.2⟩
 have hxl:xs.length=(B z).fl.length:=by rw[<-hxs,List.length_mapIdx]
 have hko:∀x∈xs.map (Fw.jr B i0 1),Ab x 1700000000/\x<=7340032:=λy hy=>by
  obtain⟨x,hxm,rfl⟩:=List.mem_map.1 hy;obtain⟨a,b⟩:=hx x hxm;obtain⟨_,k1,k2⟩:=wF hT hM hM2 HL h0 a;exact⟨k1,by omega⟩
 have hlo:=QD (gap:=(B z).sty.c 46) (L:=1700000000) (by unfold Ab;omega) (xs.map (Fw.jr B i0 1)) λx hx=>(hko x hx).1;rw[List.length_map,hxl]at hlo;have hlu:Li.long ((B z).sty.c 46) (xs.map (Fw.jr B i0 1))<=8388608*(B z).fl.length:=by
  have key:∀(l:List Int) (s c:Int),0<=c->s<=c->(∀x∈l,x<=7340032)->l.foldl (Li.next ((B z).sty.c 46)) s<=c+8388608*l.length:=by
   intro l
   induction l with
   | nil=>intro s c _ h _;simpa using h
   | cons x l ih =>
     intro s c hc h hx;have h1:Li.next ((B z).sty.c 46) s x<=c+1048576+7340032:=Cw aj aj (Cw hc aj h ad5.2) (hx x eZ);have:=ih _ (c+1048576+7340032) aj h1 λx hx'=>hx x (by simp[hx']);rw[List.foldl_cons,List.length_cons];omega
  have hl2:(xs.map (Fw.jr B i0 1)).length=(B z).fl.length:=by rw[List.length_map,hxl]
  rw[<-hl2];cases hm:xs.map (Fw.jr B i0 1)with
  | nil=>simp[Li.long]
  | cons x l =>
    rw[hm]at hko;have h1:Fx.cut x<=7340032:=by have:=(hko x eZ).2;unfold Fx.cut;(repeat' split)<;>omega
    have:=key l _ 7340032 aj h1 λy hy=>(hko y (by simp[hy])).2;show l.foldl _ _<=_;rw[List.length_cons];omega
 obtain⟨high,hhigh⟩:=aA (Li.long ((B z).sty.c 46) (xs.map (Fw.jr B i0 1)));rw[hhigh]at hlo hlu;have er:Fw.iE B lay z i0 i1=(xs.mapIdx λi x=>{ x with a0:=Fw.wr (Ju.across ((B z).sty.c 44) (Fw.jr B i0 0 x) i0+Fw.mg (B x.id).sty 0 0 i0),a1:=Fw.wr (Ju.starts ((B z).sty.c 43) (if i1 = -1 then high else i1) ((B z).sty.c 46) (xs.map (Fw.jr B i0 1)) i+Fw.mg (B x.id).sty 1 0 i0) },high):=by
  unfold Fw.iE;simp only[hsz,hxs,hhigh]
 rw[er];have hln:(((B z).fl.length:Nat):Int)<=32:=by omega
 have hhb:Ab high 54500000000:=by
  have:=Int.mul_le_mul_of_nonneg_right hln (show(0:Int)<=1700000000+1048576 by omega);exact hlo.le aj
 refine⟨λx hxm => ?_,hhb.le aj,λ_=>hlu⟩;obtain⟨i,hi,rfl⟩:=List.mem_mapIdx.1 hxm;have a:=(hx _ (List.getElem_mem hi)).1;have hst:Ab (Ju.starts ((B z).sty.c 43) (if i1 = -1 then high else i1) ((B z).sty.c 46) (xs.map (Fw.jr B i0 1)) i) 170000000000:=by
  refine(G7 (L:=1700000000) (M:=54500000000) (λy hy'=>(hko y hy').1) aj (by unfold Ab;omega) ?_ (by rw[List.length_map];omega) ?_ (by rw[List.length_map];exact hi)).le ?_
  . unfold rB at h1
    split
    . exact hhb
    . unfold Ab;omega
  . rw[List.length_map];omega
  . rw[List.length_map];omega
 have hk:=(wF hT hM hM2 HL h0 a).1;have hac:=G8 (kind:=(B z).sty.c 44) hk (show Ab i0 M by unfold rB at h0;unfold Ab;omega);have m0:=G6 (hT (xs[i]).id) 0 0 (r:=i0) (M:=M) aj h0.2;have m1:=Ah (hT (xs[i]).id) (y:=1) aH 0 i0;refine⟨⟨a.i0,a.i1,a.s0,a.s1⟩,?_,?_⟩
 . exact Ye
 . exact Ye
end
def RB(f:Nat):Int:=1627389952-16777216*f
def PQ(x:Fw.Ld):Prop:=Ab x.a0 600000000000/\Ab x.a1 600000000000
section
variable {B:Int->Fw.Bx} (hT:∀z,TV (B z).sty) (hN:∀f,f<=64->∀z,Aj B f z<=32) (hn:∀z,(B z).fl.length<=32)
include hT hN hn
def CB(B:Int->Fw.Bx)(f:Nat):Prop:=∀z i0 i1,rB (RB f) i0->rB (RB f) i1 ->
 Ab (Fw.cont B f z i0 i1).2 549755813888/\(i1 = -1->(Fw.cont B f z i0 i1).2<=16777216*Aj B f z-12582912)/\∀x∈(Fw.cont B f z i0 i1).1,Pk (RB f) x/\PQ x
theorem XR{f:Nat}(hf:f<=64)(h:CB B f){M:Int}(hM:536870912<=M)(hM2:M<=1627389952)(hMf:M+12582912<=RB f):LB B (Fw.iU B (Fw.cont B f)) M (λk=>16777216*Aj B f k-12582912):=by
 have hc:∀k r0 t0,rB M r0->tB M t0->(Fw.cont B f k (Fw.jk (B k).sty 0 r0 r0 t0) (-1)).2<=16777216*Aj B f k-12582912:=λk r0 t0 h0 ht=>by
  obtain⟨p1,p2,p3,_⟩:=tu (hT k) (y:=0) aj (M:=M) aj aj h0 h0 ht;exact(h k _ (-1) ⟨p1,by omega⟩ ⟨by omega,by omega⟩).2.1 rfl
 refine⟨λk r0 r1 t0 t1 h0 h1 ht0 ht1 => ?_,λk r0 r1 t0 h0 h1 ht0 => ?_,λk r0 t0 h0 ht => ?_,λk r0 r1 t1 n a b=>abk hT ⟨a,b⟩,λk r0 r1 t0 n a b=>abl hT ⟨a,b⟩,λ_ _ _ _ _=>rfl,λk => ?_⟩
 . have:=hN f hf k
   exact(QC hT hM aj h0 h1 ht0 ht1 (Int.le_trans (hc k r0 t0 h0 ht0) aj)).1
 . have:=hN f hf k
   exact(QC hT hM aj h0 h1 ht0 pV (Int.le_trans (hc k r0 t0 h0 ht0) aj)).2 rfl
 . have h1:=hN f hf k
   have h2:=uo B f k;exact abj hT aj aj (hc k r0 t0 h0 ht)
 . have h2:=uo B f k
   show 1048576<=16777216*Aj B f k-12582912;omega
theorem Po:∀f,f<=64->CB B f:=by
 intro f
 induction f with
 | zero =>
   intro _ z i0 i1 h0 h1;have c:=(hT z).size (i:=54) aH;refine⟨?_,λ_ => ?_,λx hx=>by simp[Fw.cont]at hx⟩
   . show Ab ((B z).sty.c 54) _
     unfold Ab;omega
   . show(B z).sty.c 54<=16777216*1-12582912
     omega
 | succ f ih =>
   intro hf z i0 i1 h0 h1;have c:=(hT z).size (i:=54) aH;have hp:=uo B (f+1) z;have hMf:RB (f+1)+12582912<=RB f:=by unfold RB;omega
   have hM:536870912<=RB (f+1):=by unfold RB;omega
   have hM2:RB (f+1)<=1627389952:=by unfold RB;omega
   have HL:=XR hT hN hn aj (ih aj) hM hM2 hMf;have hnb:Aj B (f+1) z=1+zs (Aj B f) (B z).fl:=rfl;obtain⟨M,hMe⟩:=aA (RB (f+1));rw[hMe]at h0 h1 hM hM2 HL ⊢;by_cases hz:(B z).fl=[]
   . have e:Fw.cont B (f+1) z i0 i1=([],(B z).sty.c 54):=by simp only[Fw.cont,if_pos hz]
     rw[e];refine⟨by show Ab ((B z).sty.c 54) _;unfold Ab;omega,λ_=>by show(B z).sty.c 54<=_;omega,λx hx=>by simp at hx⟩
   . have e:Fw.cont B (f+1) z i0 i1=((Fw.kind B (Fw.iU B (Fw.cont B f)) f z i0 i1).1.map (Fw.mv B i0 i1),(Fw.kind B (Fw.iU B (Fw.cont B f)) f z i0 i1).2):=by simp only[Fw.cont,if_neg hz]
     have hk:(∀x∈(Fw.kind B (Fw.iU B (Fw.cont B f)) f z i0 i1).1,Pk M x/\PB x)/\Ab (Fw.kind B (Fw.iU B (Fw.cont B f)) f z i0 i1).2 549755813888/\(i1 = -1->(Fw.kind B (Fw.iU B (Fw.cont B f)) f z i0 i1).2<=16777216*Aj B (f+1) z-12582912):=by
      have hlen:=XG (l:=(B z).fl) λk _=>uo B f k;have z1:=Ag (Aj B f) 16777216 (-12582912+5242880) (B z).fl;have z2:=Ag (Aj B f) 16777216 (-12582912+7340032) (B z).fl;have e1:zs (λk=>16777216*Aj B f k-12582912+5242880) (B z).fl=zs (λk=>16777216*Aj B f k+(-12582912+5242880)) (B z).fl:=congrArg (λg=>zs g (B z).fl) (funext λk=>by omega);have e2:zs (λk=>16777216*Aj B f k-12582912+7340032) (B z).fl=zs (λk=>16777216*Aj B f k+(-12582912+7340032)) (B z).fl:=congrArg (λg=>zs g (B z).fl) (funext λk=>by omega);unfold Fw.kind;split
      . obtain⟨a,b,d⟩:=ad7 hT hM hM2 HL (z:=z) h0 h1 (hn z)
        refine⟨a,b,λh => ?_⟩;have:=d h;omega
      . split
        . obtain⟨a,b,d⟩:=Tf hT hM hM2 HL (z:=z) h0 h1 (hn z)
          refine⟨a,b,λh => ?_⟩;have:=d h;omega
        . obtain⟨a,b,d⟩:=XP hT hM hM2 HL (f:=f) (z:=z) h0 h1 (hn z)
          refine⟨a,b,λh => ?_⟩;have:=d h;have h1:1<=(B z).fl.length:=by
           cases hl:(B z).fl with
           | nil=>exact absurd hl hz
           | cons k l=>simp
          omega
     obtain⟨k1,k2,k3⟩:=hk;rw[e];refine⟨k2,k3,λx hx => ?_⟩;obtain⟨u,hu,rfl⟩:=List.mem_map.1 hx;obtain⟨s,p0,p1⟩:=k1 u hu
     have hmv:∀y r,r<=M->∀a,Ab a 549755813888->Ab (Fw.wG (B u.id).sty y r a) 600000000000:=λy r hr a ha=>by
      have i1:=Ai (hT u.id) y 0 (r:=r) (M:=M) aj hr;have i2:=Ai (hT u.id) y 1 (r:=r) (M:=M) aj hr;unfold Fw.wG Ab at *;split
      . rw[cO aj];omega
      . split
        . rw[cO aj];omega
        . omega
     unfold Fw.mv;split
     . exact⟨⟨s.i0,s.i1,s.s0,s.s1⟩,hmv 0 i0 h0.2 _ p0,hmv 1 i1 h1.2 _ p1⟩
     . exact⟨s,p0.le aj,p1.le aj⟩
end
structure TB(M:Int)(x:Fw.Ld):Prop where
 i0:rB M x.i0
 i1:rB M x.i1
 s0:0<=x.s0/\x.s0<=M
 s1:0<=x.s1/\x.s1<=M
 a0:Ab x.a0 700000000000
 a1:Ab x.a1 700000000000
structure Sm(x:Fw.Ld):Prop where
 s0:0<=x.s0/\x.s0<=2000000000
 s1:0<=x.s1/\x.s1<=2000000000
 a0:Ab x.a0 700000000000
 a1:Ab x.a1 700000000000
section
variable {B:Int->Fw.Bx} (hT:∀z,TV (B z).sty) (hN:∀f,f<=64->∀z,Aj B f z<=32) (hn:∀z,(B z).fl.length<=32) {ww wh:Int} (hw:0<=ww/\ww<=1048576) (hh:0<=wh/\wh<=1048576)
include hT hN hn hw hh
theorem abn{f:Nat}(hf:f+1<=65)(k:Int){x:Fw.Ld}(hx:TB (RB (f+1)) x)(hs0:Fw.iB (B x.id).sty 0<=x.s0)(hs1:Fw.iB (B x.id).sty 1<=x.s1):TB (RB f) (rG B ww wh f k x):=by
 have hMf:RB (f+1)+12582912<=RB f:=by unfold RB;omega
 have agH:RB (f+1)+16777216=RB f:=by unfold RB;omega
 have hM:536870912<=RB (f+1):=by unfold RB;omega
 have hM2:RB (f+1)<=1627389952:=by unfold RB;omega
 have HL:=XR hT hN hn aj (Po hT hN hn f aj) hM hM2 hMf;obtain⟨M,hMe⟩:=aA (RB (f+1));rw[hMe]at hx hM hM2 HL agH;have q34:=(hT x.id).size (i:=34) aH;have q31:=(hT x.id).size (i:=31) aH;have q35:=(hT x.id).size (i:=35) aH;have q36:=(hT x.id).size (i:=36) aH;have q37:=(hT x.id).size (i:=37) aH;have q38:=(hT x.id).size (i:=38) aH;have x0:=hx.s0;have x1:=hx.s1;have e0:=(jo (hT x.id).1 0).2.2;have e1:=(jo (hT x.id).1 1).2.2;have q32:=(hT x.id).size (i:=32) aH;have q33:=(hT x.id).size (i:=33) aH;have d0:Fw.ed (B x.id).sty (Fw.sd 0 0)=(B x.id).sty.c 34+(B x.id).sty.c 38:=by show Fw.wr ((B x.id).sty.c 34+(B x.id).sty.c 38)=_;rw[cO aj]
 have d1:Fw.ed (B x.id).sty (Fw.sd 0 1)=(B x.id).sty.c 32+(B x.id).sty.c 36:=by show Fw.wr ((B x.id).sty.c 32+(B x.id).sty.c 36)=_;rw[cO aj]
 have d2:Fw.ed (B x.id).sty (Fw.sd 1 0)=(B x.id).sty.c 31+(B x.id).sty.c 35:=by show Fw.wr ((B x.id).sty.c 31+(B x.id).sty.c 35)=_;rw[cO aj]
 have d3:Fw.ed (B x.id).sty (Fw.sd 1 1)=(B x.id).sty.c 33+(B x.id).sty.c 37:=by show Fw.wr ((B x.id).sty.c 33+(B x.id).sty.c 37)=_;rw[cO aj]
 have hp:∃p,uL (B k).sty (B x.id).sty ww wh x.s0 x.s1=p/\(0<=p.r0/\p.r0<=M)/\(0<=p.r1/\p.r1<=M)/\Ab p.q0 1048576/\Ab p.q1 1048576/\Ab p.d0 1048576/\Ab p.d1 1048576:=by
  refine⟨_,rfl,?_⟩;unfold uL;split
  . show(0<=ww/\ww<=M)/\(0<=wh/\wh<=M)/\Ab 0 1048576/\Ab 0 1048576/\Ab 0 1048576/\Ab 0 1048576
    unfold Ab;omega
  . show(0<=Fw.wr (x.s0-Fw.wr _)/\Fw.wr (x.s0-Fw.wr _)<=M)/\(0<=Fw.wr (x.s1-Fw.wr _)/\Fw.wr (x.s1-Fw.wr _)<=M)/\Ab ((B x.id).sty.c 38) 1048576/\Ab ((B x.id).sty.c 35) 1048576/\Ab ((B x.id).sty.c 34) 1048576/\Ab ((B x.id).sty.c 31) 1048576
    rw[cO (x:=(B x.id).sty.c 38+(B x.id).sty.c 36) aj,cO (x:=(B x.id).sty.c 35+(B x.id).sty.c 37) aj,cO (x:=x.s0-_) aj,cO (x:=x.s1-_) aj];unfold Ab;refine⟨by omega,by omega,by omega,by omega,by omega,by omega⟩
 obtain⟨p,hpe,r0,r1,a0,a1,b0,b1⟩:=hp
 have agI:∀y r,0<=r->r<=M->tB M (Em (B k).sty y r p.r0):=λy r h0 h1=>by
  unfold Em;split
  . exact pV
  . have i1:=Ai (hT k) y 0 (r:=r) (M:=M) aj h1
    have i2:=Ai (hT k) y 1 (r:=r) (M:=M) aj h1;have g:=Pj (hT k) y (r:=p.r0) (M:=M) aj r0.2 aj;rw[cO (x:=r-_) aj,cO (x:=r-_-_) aj,cO aj];right;omega
 have ah9:tB M (OI (B k).sty p.r0):=by
  unfold OI;split
  . have:=XH (hT k) (r0:=p.r0) (M:=M) aj r0.2 aj
    exact .inr ⟨this.1,by omega⟩
  . exact agI 0 _ r0.1 r0.2
 have qI:=HL.sz k p.r0 p.r1 (OI (B k).sty p.r0) (Em (B k).sty 1 p.r1 p.r0) ⟨by omega,r0.2⟩ ⟨by omega,r1.2⟩ ah9 (agI 1 _ r1.1 r1.2);have ea:rG B ww wh f k x={ Fw.lay B f k p.r0 p.r1 (OI (B k).sty p.r0) (Em (B k).sty 1 p.r1 p.r0)with a0:=Fw.wr (p.q0+GN (B k).sty 0 p.r0 p.r0 p.d0 (Fw.lay B f k p.r0 p.r1 (OI (B k).sty p.r0) (Em (B k).sty 1 p.r1 p.r0)).s0),a1:=Fw.wr (p.q1+GN (B k).sty 1 p.r1 p.r0 p.d1 (Fw.lay B f k p.r0 p.r1 (OI (B k).sty p.r0) (Em (B k).sty 1 p.r1 p.r0)).s1) }:=by
  unfold rG;simp only[hpe]
 change Pk M (Fw.lay B f k p.r0 p.r1 (OI (B k).sty p.r0) (Em (B k).sty 1 p.r1 p.r0))at qI;rw[ea];generalize Fw.lay B f k p.r0 p.r1 (OI (B k).sty p.r0) (Em (B k).sty 1 p.r1 p.r0)=ly at *
 have hb:∀y r pad long,0<=r->r<=M->Ab pad 1048576->0<=long->long<=M+16777216->Ab (GN (B k).sty y r p.r0 pad long) 10000000000:=λy r pad long h0 h1 h2 h3 h4=>by
  have i1:=Ai (hT k) y 0 (r:=r) (M:=M) aj h1;have i2:=Ai (hT k) y 1 (r:=r) (M:=M) aj h1;have m1:=G6 (hT k) y 0 (r:=p.r0) (M:=M) aj r0.2;have m2:=G6 (hT k) y 1 (r:=p.r0) (M:=M) aj r0.2;unfold GN Ab at *;split
  . rw[cO aj];omega
  . split
    . rw[cO (x:=r-_) aj,cO (x:=r-_-_) aj,cO aj];omega
    . rw[cO aj];omega
 have g0:=hb 0 p.r0 p.d0 ly.s0 r0.1 r0.2 b0 qI.s0.1 qI.s0.2;have g1:=hb 1 p.r1 p.d1 ly.s1 r1.1 r1.2 b1 qI.s1.1 qI.s1.2;obtain⟨l0,l1,l2,l3⟩:=qI;refine⟨?_,?_,?_,?_,?_,?_⟩
 . show rB (RB f) ly.i0
   unfold rB;omega
 . show rB (RB f) ly.i1
   unfold rB;omega
 . show 0<=ly.s0/\ly.s0<=RB f
   omega
 . show 0<=ly.s1/\ly.s1<=RB f
   omega
 . exact Ye
 . exact Ye
theorem agJ:∀(f:Nat),f<=64->∀x:Fw.Ld,TB (RB f) x->Big B x->∀y∈tl B ww wh f x,Sm y:=by
 have out:∀f x,TB (RB f) x->Sm x:=λf x h=>by
  obtain⟨_,_,h2,h3,h4,h5⟩:=h;unfold RB at h2 h3;exact⟨by omega,by omega,h4,h5⟩
 intro f
 induction f with
 | zero=>intro _ x h _ y hy;rw[tl,List.mem_singleton]at hy;subst hy;exact out _ _ h
 | succ f ih =>
   intro hf x h hb y hy;rw[tl]at hy;rcases List.mem_cons.1 hy with rfl|hy
   . exact out _ _ h
   rcases List.mem_append.1 hy with hy|hy
   . obtain⟨k,hk,hy⟩:=List.mem_flatMap.1 hy
     obtain⟨s,p0,p1⟩:=(Po hT hN hn (f+1) hf x.id x.i0 x.i1 h.i0 h.i1).2.2 k hk;have v0:=(jo (hT x.id).1 0).2.2;have e3:=zk (hT x.id).1 (i:=3) aH;have e0:=zk (hT x.id).1 (i:=0) aH;have agH:RB (f+1)+16777216=RB f:=by unfold RB;omega
     obtain⟨s1,s2,s3,s4⟩:=s;refine ih aj (Qt (B x.id).sty k) ⟨?_,?_,?_,?_,?_,?_⟩ (Mt (λz=>(hT z).1) (f+1) x.id x.i0 x.i1 k hk) y hy
     . show rB (RB f) k.i0
       unfold rB;omega
     . show rB (RB f) k.i1
       unfold rB;omega
     . show 0<=k.s0/\k.s0<=RB f
       omega
     . show 0<=k.s1/\k.s1<=RB f
       omega
     . exact Ye
     . exact Ye
   . obtain⟨k,hk,hy⟩:=List.mem_flatMap.1 hy
     exact ih aj _ (abn hT hN hn hw hh aj k h hb.1.1 hb.2.1) (Mv (λz=>(hT z).1) ww wh f k x) y hy
theorem abo:∀y∈tl B ww wh 64 (Fw.lay B 64 0 ww wh (-1) (-1)),Sm y:=by
 have HL:=XR hT hN hn aD (Po hT hN hn 64 aD) (M:=536870912) aj aj (by unfold RB;omega);obtain⟨s1,s2,s3,s4⟩:=HL.sz 0 ww wh (-1) (-1) ⟨by omega,by omega⟩ ⟨by omega,by omega⟩ pV pV;refine agJ hT hN hn hw hh 64 aD _ ⟨?_,?_,?_,?_,?_,?_⟩ (Big.iU (λz=>(hT z).1) _ 0 ww wh (nP λz=>(hT z).1) (nP λz=>(hT z).1))
 . show rB (RB 64) (Fw.iU B (Fw.cont B 64) 0 ww wh (-1) (-1)).i0
   unfold rB RB;omega
 . show rB (RB 64) (Fw.iU B (Fw.cont B 64) 0 ww wh (-1) (-1)).i1
   unfold rB RB;omega
 . show 0<=(Fw.iU B (Fw.cont B 64) 0 ww wh (-1) (-1)).s0/\(Fw.iU B (Fw.cont B 64) 0 ww wh (-1) (-1)).s0<=RB 64
   unfold RB;omega
 . show 0<=(Fw.iU B (Fw.cont B 64) 0 ww wh (-1) (-1)).s1/\(Fw.iU B (Fw.cont B 64) 0 ww wh (-1) (-1)).s1<=RB 64
   unfold RB;omega
 . show Ab 0 _
   unfold Ab;omega
 . show Ab 0 _
   unfold Ab;omega
end
theorem XT(T:Tr.T):∀(f:Nat) (z:Int),(Tr.sub T f z).length<=(Tr.sub T (f+1) z).length:=by
 intro f
 induction f with
 | zero=>intro z;simp[Tr.sub]
 | succ f ih =>
   intro z;cases h:T z with
   | none=>simp[Tr.sub,h]
   | some nd =>
     rw[Tr.eF h,Tr.eF h,List.length_cons,List.length_cons,sN,sN];have:=EB (l:=nd.kids) (g:=λk=>(Tr.sub T f k).length) (h:=λk=>(Tr.sub T (f+1) k).length) λk _=>ih k;omega
theorem abp{T:Tr.T}(H:Tr.WF T):∀(f:Nat) (z:Int),(∃nd,T z=some nd)->Aj (kg T) f z<=(Tr.sub T (f+1) z).length:=by
 intro f
 induction f with
 | zero =>
   intro z ⟨nd,h⟩;rw[Tr.eF h];show(1:Int)<=_;simp;omega
 | succ f ih =>
   intro z ⟨nd,h⟩;have e:(kg T z).fl=nC T nd.kids:=by show nC T (dF T z)=_;unfold dF;rw[h];rfl
   show 1+zs (Aj (kg T) f) (kg T z).fl<=_;rw[e,Tr.eF h,List.length_cons,sN];have key:∀l:List Int,(∀k∈l,∃nd,T k=some nd)->zs (Aj (kg T) f) (nC T l)<=((l.map λk=>(Tr.sub T (f+1) k).length).sum:Nat):=by
    intro l
    induction l with
    | nil=>intro _;exact Int.le_refl _
    | cons k l ihl =>
      intro hl;have h1:=ih k (hl k eZ);have h2:=ihl λj hj=>hl j (by simp[hj]);have hs:zs (Aj (kg T) f) (nC T (k::l))<=Aj (kg T) f k+zs (Aj (kg T) f) (nC T l):=by
       have:=uo (kg T) f k;unfold nC;rw[List.filter_cons];split
       . exact Int.le_refl _
       . omega
      rw[List.map_cons,List.sum_cons];omega
   have:=key nd.kids λk hk=>by obtain⟨_,kd,hk,_⟩:=H.kid z nd k h hk;exact⟨kd,hk⟩
   omega
theorem abq{T:Tr.T}(H:Tr.WF T){n:Nat}(hn:(Tr.ord T).length=n)(h32:n<=32):∀f,f<=64->∀z,Aj (kg T) f z<=32:=by
 intro f hf z;cases h:T z with
 | none =>
   have e:(kg T z).fl=[]:=by show nC T (dF T z)=_;unfold dF;rw[h];rfl
   cases f with
   | zero=>show(1:Int)<=32;omega
   | succ f=>show 1+zs _ (kg T z).fl<=32;rw[e];show(1:Int)+0<=32;omega
 | some nd =>
   have h1:=abp H f z ⟨nd,h⟩
   have h2:∀d,(Tr.sub T (f+1) z).length<=(Tr.sub T (f+1+d) z).length:=λd=>by
    induction d with
    | zero=>exact aG _
    | succ d ih=>exact aJ ih (XT T _ z)
   have hfit:=H.iF h;have h3:(Tr.sub T (f+1) z).length<=(Tr.sub T 65 z).length:=by
    have:=h2 (64-f)
    rwa [show f+1+(64-f)=65 by omega]at this
   rw[(hfit.mono 65 aH).2.1]at h3
   have h4:=(H.vZ hfit).length_le_of_subset (l₂:=Tr.ord T) λx hx=>by
    obtain⟨q,hq⟩:=((H.gF hfit).1 hx).live;exact H.iV.2 ⟨q,hq⟩
   omega
theorem QF{T:Tr.T}(H:Tr.WF T){n:Nat}(hn:(Tr.ord T).length=n)(h32:n<=32)(hv:VT T){ww wh:Int}(hw:0<=ww/\ww<=1048576)(hh:0<=wh/\wh<=1048576):∀x∈qB T ww wh,Sm x:=by
 have hT:∀z,TV (kg T z).sty:=λz=>by
  show TV (dw T z);unfold dw;cases h:T z with
  | none=>exact Jr
  | some nd=>exact hv z nd h
 have hN:=abq H hn h32
 have hl:∀z,(kg T z).fl.length<=32:=λz=>by
  have h1:=hN 1 aH z;have h2:=XG (g:=Aj (kg T) 0) (l:=(kg T z).fl) λk _=>uo _ _ _;have h3:Aj (kg T) 1 z=1+zs (Aj (kg T) 0) (kg T z).fl:=rfl;omega
 intro x hx;unfold qB at hx;split at hx
 . exact abo hT hN hl hw hh x hx
 . simp at hx
end Go.Proofs.YtmidaiklolmkcaaGreat.Fix
