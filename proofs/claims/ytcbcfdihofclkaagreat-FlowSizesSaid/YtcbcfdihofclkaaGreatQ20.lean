/- Proved here: what functions of the program do, in plain numbers (part 20); no conditions but those in sight. -/
import Derived.Test.YtcbcfdihofclkaaGreatQK
import Derived.Test.YtcbcfdihofclkaaGreatQ18
import Derived.Test.YtcbcfdihofclkaaGreatQ19
set_option linter.unusedVariables false
set_option linter.unusedSimpArgs false
set_option linter.unusedSectionVars false
set_option maxRecDepth 100000
namespace Go.Proofs.YtcbcfdihofclkaaGreat.Fix
open Go.ChangeShapes Go.WideShapes Go.ChangeAt Go.RowKit
def vE(Y:rV)(B:Int->Fw.Bx)(i0 k:Int):Im:=⟨⟨0,0,0,0,0⟩,⟨k,0,0,0,0,0,0⟩,Y.bl k,Fw.mg (B k).sty 0 0 i0,Fw.mg (B k).sty 0 1 i0,Fw.mg (B k).sty 1 0 i0,Fw.mg (B k).sty 1 1 i0⟩
def iw(Y:rV)(B:Int->Fw.Bx)(i0:Int)(l:List Int):List Im:=l.map (vE Y B i0)
section
variable {Y:rV} {B:Int->Fw.Bx} {D:Int->Prop} {KM:World->Nat->Prop}
theorem Rj{cs:Array Value}{l:List Im}{x:Im}(h:fu cs 0 l)(hf:l.length*17+17<=cs.size):fu (splice cs (l.length*17) (nJ x)) 0 (l++[x]):=by
 have hs:l.length*17+(nJ x).size<=cs.size:=by rw[rW];exact hf
 refine⟨by rw[je hs];simp;omega,λi hi j hj => ?_⟩;by_cases e:i<l.length
 . rw[List.getElem_append_left e,Nat.zero_add,iP hs (.inl ak)]
   have:=h.2 i e j hj
   rwa [Nat.zero_add]at this
 . have:i=l.length:=by simp at hi;omega
   subst this;rw[Nat.zero_add,nW hs (by rw[rW];exact hj)];simp
set_option maxHeartbeats 8000000 in
theorem abm(hK:∀(X X':World) (b:Nat),KM X b->Below X.heap.size X X'->KM X' b)(z i0 i1:Int)(hz:D z)(hdn:∀k∈(B z).fl,D k)(hl:(B z).fl.length<=10000)(w:World)(hR:RO w Y B D KM) :
  Calls Tryz.prog 226 #[.pointer (some ⟨Y.lb,0,none⟩),.agg #[.int .i64 z,.int .i64 i0,.int .i64 i1]] w λe w' =>
   (∃R cs,e=.returned (.slice (some ⟨R,0,none⟩) (B z).fl.length (B z).fl.length)/\w.heap.size<=R/\At w' R (.cells cs 283)/\fu cs 0 (iw Y B i0 (B z).fl)/\cs.size=(B z).fl.length*17)/\Below w.heap.size w w':=by
 have hb1:Below w.heap.size w (w.alloc (.cells #[.int .i64 z,.int .i64 i0,.int .i64 i1] 112)):=Below.alloc' (Below.refl _ _) _;have A0:At (w.alloc (.cells #[.int .i64 z,.int .i64 i0,.int .i64 i1] 112)) w.heap.size (.cells #[.int .i64 z,.int .i64 i0,.int .i64 i1] 112):=At.new _ _;have HR1:=Lib.hid (hR.keep hK hb1);have HR:=Lib.hid hR;have HDN:=Lib.hid hdn;obtain⟨hbx,hks,_⟩:=hR.box z hz;obtain⟨A,cp,hvf,hI,hle,hmx,hAn⟩:=hks.ints;rw[hvf]at hbx;have qw:=Lib.hid hbx;have HI:=Lib.hid hI;obtain⟨l,hll⟩:∃l,(B z).fl=l:=⟨_,rfl⟩;have Ri:=Lib.hid hll;rw[hll]at hl hle ⊢;obtain⟨m,hm⟩:∃m,l.length=m:=⟨_,rfl⟩;have HM:=Lib.hid hm;rw[hm]at hl hle ⊢;clear hR hbx hI hks hvf hdn hll;go_enter Tryz.func226,Tryz.ntmps226
 go_upto_region 1 with(fail)
 generalize w.alloc (.cells #[.int .i64 z,.int .i64 i0,.int .i64 i1] 112)=w1 at *;obtain⟨l0,c00,Y0,c02⟩:=At.three A0;have hl1:=HR1.out.look hz;have uy:=HR1.out.lay;have Br:=uy.lt;have EU:w1.cell? ⟨Y.lb,2,none⟩=some (.map (some Y.bm)):=uy.cell 2;have abP:=qw.out.keep hb1;have l71:=abP.lt;have qp:w1.cell? ⟨Y.bl z,71,none⟩=some (.slice A (B z).fl.length cp):=abP.ext 16;rw[Ri.out,hm]at qp;clear hm abP uy;have hL:=λX (hb:Below w1.heap.size w1 X)=>(HR1.out.keep hK hb).look hz;clear hl1;refine xP ?_
 (repeat (first|refine nN ?_ | refine nO ?_ (hc:=by intro w2 hS;first|with_reducible exact nI hS (jh _))|refine nP ?_))
 refine aj.bZ ?_;intro w2 hS;have hb2:Below w.heap.size w w2:=Below.ay hb1 (ah _) hS;have A1:=A0.keep hS;clear hS hL EU Br l0 c00 Y0 c02 l71 qp hb1 A0 HR1;obtain⟨cs0,hmk,xC⟩:=YX w2 m ak;have abQ:=qw.out.keep hb2;have l71:=abQ.lt;have qp:w2.cell? ⟨Y.bl z,71,none⟩=some (.slice A (B z).fl.length cp):=aF.ext abQ 16;rw[Ri.out,HM.out]at qp;have U7:=Lib.hid hmk;clear abQ hmk
 go_upto_region 3 with(refine mF aU _ _ 279 rfl U7.out ?_)
 obtain⟨R,hR0⟩:∃R,w2.heap.size=R:=⟨_,rfl⟩;rw[hR0];have A2:At (w2.alloc (.cells cs0 283)) R (.cells cs0 283):=At.new' _ hR0.symm;have A3:=A1.alloc (.cells cs0 283);have hb3:Below w.heap.size w (w2.alloc (.cells cs0 283)):=Below.alloc' hb2 _;have hwR:w.heap.size<R:=by have:=A1.lt;omega
 generalize w2.alloc (.cells cs0 283)=w3 at *;clear A1 hb2 hR0 U7 l71 qp;have Xx:=Lib.hid A3;have aht:=hb3.size
 go_upto_region 4 with(fail)
 go_loopw [25] (λiv wr=>∃(k:Nat) (cs:Array Value),k<=m/\iv=.int .i64 k/\At wr R (.cells cs 283)/\Hid (cs.size=m*17/\fu cs 0 (iw Y B i0 (l.take k)))/\At wr w.heap.size (.cells #[.int .i64 z,.int .i64 i0,.int .i64 i1] 112)/\Below w.heap.size w wr) (λiv _=>m-(intOf iv).toNat)
 case atStart=>exact⟨0,cs0,bJ _,rfl,A2,Lib.hid ⟨xC,by simp[fu,iw]⟩,A3,hb3⟩
 case round =>
  clear A2 A3 hb3 xC;obtain⟨k,cs,hk,rfl,A2,hC,A3,hB⟩:=hrel;by_cases hlt:k<m
  . have hltz:(k:Int)<(m:Int):=by omega
    have hkk:k<l.length:=by rw[HM.out];exact hlt
    have Rk:=HI.out.after hB;rw[Ri.out]at Rk;obtain⟨b1,o1,rfl,Ce,hc1⟩:=Rk.at_ (k:=k) hkk;obtain⟨x,hx⟩:∃x,l.getD k 0=x:=⟨_,rfl⟩;have hx2:l[k]=x:=by rw[<-hx,List.getD,List.getElem?_eq_getElem hkk];rfl
    rw[hx]at hc1;have hxD:D x:=HDN.out x (by rw[Ri.out];exact hx2▸List.getElem_mem _);have hRr:=HR.out.keep hK hB;have hlx:=hRr.look hxD;have EU:wr.cell? ⟨Y.lb,2,none⟩=some (.map (some Y.bm)):=hRr.lay.cell 2;have lyb:=hRr.lay.lt;have hbx:=Lib.hid (hRr.box x hxD).1;have adP:=fZ (Y.bl x) (B x).sty (Y.vf x) (Y.va x) (B x).ib i0 i1 wr hbx.out;have adQ:Hid (iw Y B i0 (l.take (k+1))=iw Y B i0 (l.take k)++[vE Y B i0 x]):=Lib.hid (by unfold iw;rw[List.take_succ_eq_append_getElem hkk,List.map_append,hx2];rfl);have hLen:Hid ((iw Y B i0 (l.take k)).length=k):=Lib.hid (by simp[iw];omega);obtain⟨l0,c00,Y0,c02⟩:=At.three A3;have hNI:Hid (vE Y B i0 x=⟨⟨0,0,0,0,0⟩,⟨x,0,0,0,0,0,0⟩,Y.bl x,Fw.mg (B x).sty 0 0 i0,Fw.mg (B x).sty 0 1 i0,Fw.mg (B x).sty 1 0 i0,Fw.mg (B x).sty 1 1 i0⟩):=Lib.hid rfl;generalize Fw.mg (B x).sty 0 0 i0=g0 at *;generalize Fw.mg (B x).sty 0 1 i0=g1 at *;generalize Fw.mg (B x).sty 1 0 i0=g2 at *;generalize Fw.mg (B x).sty 1 1 i0=g3 at *;generalize Y.bl x=bx at *;clear Rk hRr hx2 hxD hx;have HA2:=Lib.hid A2;have agi:=Lib.hid A3;clear A2 A3
    go_upto_region 7 with(fail)
    have hfit:k*17+17<=cs.size:=by have:=hC.out.1;omega
    go_upto_region 8 with(first|(go_at_call 182;(with_reducible refine adP.mono ?_);rintro e w5 ⟨rfl,hb5⟩)|(refine jk NJ aU _ _ rfl rfl rfl (HA2.out.keep hb5) rfl hfit Jk ?_))
    generalize hW:World.setRow _ _ _=W6;have A4:At W6 R (.cells (splice cs (k*17) (nJ (vE Y B i0 x))) 283):=by
     rw[hNI.out];exact hW▸At.setRow (HA2.out.keep hb5) _
    have A5:At W6 w.heap.size (.cells #[.int .i64 z,.int .i64 i0,.int .i64 i1] 112):=hW▸At.mY (agi.out.keep hb5) (dh hwR) _;have ED:Below w.heap.size w W6:=hW▸cO (Below.ay hB (ah _) hb5) (uH hwR) _
    have hC6:Hid ((splice cs (k*17) (nJ (vE Y B i0 x))).size=m*17/\fu (splice cs (k*17) (nJ (vE Y B i0 x))) 0 (iw Y B i0 (l.take (k+1)))):=Lib.hid ⟨by rw[je (by rw[rW];exact hfit)];exact hC.out.1,by
     rw[adQ.out];have h1:=Rj (x:=vE Y B i0 x) hC.out.2 (by rw[hLen.out];exact hfit);rw[hLen.out]at h1
     exact h1⟩
    clear hW hb5 adP hB hfit l0 c00 Y0 c02 hlx EU lyb hc1 Ce;go_wp2
    go_roundw
    case rel=>exact⟨k+1,_,by omega,by go_num,A4,hC6,A5,ED⟩
    case measure=>simp[intOf];omega
  . obtain rfl:k=m:=by omega
    have hfull:l.take k=l:=by rw[List.take_of_length_le (by rw[HM.out];exact ah _)]
    rw[hfull]at hC;go_wp2
    go_ret
    exact⟨⟨R,cs,rfl,uH hwR,A2,hC.out.2,hC.out.1⟩,hB⟩
end
theorem aJ{cs:Array Value}{i:Nat}{v:Value}(h:cs[i]? = some v):cs.setIfInBounds i v=cs:=by
 apply Array.ext_getElem?;intro j;rw[Array.getElem?_setIfInBounds];by_cases e:i=j
 . subst e
   have hlt:=(Array.getElem?_eq_some_iff.1 h).1;rw[if_pos rfl,if_pos hlt,h]
 . rw[if_neg e]
section
variable {Y:rV} {B:Int->Fw.Bx} {D:Int->Prop} {KM:World->Nat->Prop}
set_option maxHeartbeats 8000000 in
theorem Rl(hK:∀(X X':World) (b:Nat),KM X b->Below X.heap.size X X'->KM X' b)(z r0 r1 a0 a1:Int)(hz:D z)(R o:Nat)(cs:Array Value)(w:World)(hR:RO w Y B D KM)(hA:At w R (.cells cs 114))(ho:cs[o]? = some (.int .i64 z))(h5:cs[o+5]? = some (.int .i64 a0))(h6:cs[o+6]? = some (.int .i64 a1)) :
  Calls Tryz.prog 175 #[.pointer (some ⟨Y.lb,0,none⟩),.pointer (some ⟨R,o,none⟩),.agg #[.int .i64 r0,.int .i64 r1]] w λe w'=>e=.returned (.tuple #[])/\At w' R (.cells ((cs.setIfInBounds (o+5) (.int .i64 (if (B z).sty.c 1=1 then Fw.yZ (B z).sty 0 r0 a0 else a0))).setIfInBounds (o+6) (.int .i64 (if (B z).sty.c 1=1 then Fw.yZ (B z).sty 1 r1 a1 else a1))) 114)/\Out (λb=>b=R) w w':=by
 obtain⟨x0,HX0⟩:∃x,Hid ((if (B z).sty.c 1=1 then Fw.yZ (B z).sty 0 r0 a0 else a0)=x):=⟨_,Lib.hid rfl⟩;obtain⟨x1,EF⟩:∃x,Hid ((if (B z).sty.c 1=1 then Fw.yZ (B z).sty 1 r1 a1 else a1)=x):=⟨_,Lib.hid rfl⟩;rw[HX0.out,EF.out];obtain⟨es0,Ra,hpm⟩:=hR.Ey;have hbx:=(hR.box z hz).1;have hW1:Below w.heap.size w (w.alloc (.cells #[.int .i64 r0,.int .i64 r1] 108)):=Below.alloc' (Below.refl _ _) _;have hL:=λX (hb:Below (w.alloc (.cells #[.int .i64 r0,.int .i64 r1] 108)).heap.size (w.alloc (.cells #[.int .i64 r0,.int .i64 r1] 108)) X)=>(hR.keep hK (Below.after hW1 hb)).look hz;have A0:At (w.alloc (.cells #[.int .i64 r0,.int .i64 r1] 108)) w.heap.size (.cells #[.int .i64 r0,.int .i64 r1] 108):=At.new _ _;have A2:=hbx.alloc (.cells #[.int .i64 r0,.int .i64 r1] 108);have AR:=hA.alloc (.cells #[.int .i64 r0,.int .i64 r1] 108);have AL:=hR.lay.alloc (.cells #[.int .i64 r0,.int .i64 r1] 108);have hlR:=hA.lt;have hRb:R≠Y.bl z:=λq=>by have:=At.uniq hA (q▸hbx);cases this
 generalize hs:(B z).sty=s at *;generalize Y.vf z=vf at *;generalize Y.va z=va at *;generalize (B z).ib=ib at *;generalize Y.bl z=bz at *;go_enter Tryz.func175,Tryz.ntmps175
 go_upto_region 1 with(fail)
 generalize w.alloc (.cells #[.int .i64 r0,.int .i64 r1] 108)=W0 at *;obtain⟨l0,aA,aB⟩:=At.two A0;have Br:=AL.lt;have EU:W0.cell? ⟨Y.lb,2,none⟩=some (.map (some Y.bm)):=AL.cell 2;have lR:=AR.lt;have cR:W0.cell? ⟨R,o,none⟩=some (.int .i64 z):=(AR.cell o).trans ho;have l2:=A2.lt;have p1:W0.cell? ⟨bz,1,none⟩=some (.int .i64 (s.c 1)):=aF.int A2 1 aG rfl;refine xP ?_
 (repeat (first|refine nN ?_ | refine nO ?_ (hc:=by intro w2 hS;first|with_reducible exact nI hS (jh _))|refine nP ?_))
 refine aj.bZ ?_;intro w2 hS;have hQ:Out (λb=>b=R) W0 w2:=Out.of_below hS;replace A0:=At.keep A0 hS;replace A2:=At.keep A2 hS;replace AR:=At.keep AR hS;replace p1:=((kP hS).1 _ _ l2).trans p1;clear hS hL Br EU AL cR lR;replace l2:=A2.lt;have lR:=AR.lt;have cR:=(AR.cell (o+5)).trans h5;have zR:=AR.thaw (o+5);clear l0 aA aB;obtain⟨l0,aA,aB⟩:=At.two A0;have wF:R<w.heap.size:=hlR;by_cases hp:s.c 1=1
 . have HP:=Lib.hid hp
   have hp':(s.c 1 != 1)=false:=by simpa using hp
   clear hp
   go_upto_region 3 with(fail)
   clear p1 hp';go_wp2;refine wp_loop_rounds 3 ?_;cases Y1:Fw.Et s 0 0 r0
   . have NM:=Lib.hid Y1
     clear Y1;cases Y2:Fw.Et s 0 1 r0
     . have Va:=Lib.hid Y2
       clear Y2;rw[rounds_succ]
       go_upto_region 6 with(fail)
       go_upto_region 7 with((go_at_call 239;(with_reducible refine(vw bz s vf va ib r0 r1 _ A2).mono ?_);rintro e w3 ⟨rfl,hb⟩;replace hQ:=hQ.trans (Out.of_below hb);replace A0:=At.keep A0 hb;replace A2:=At.keep A2 hb;replace AR:=At.keep AR hb;clear hb))
       clear l0 aA aB lR cR zR;obtain⟨l0,aA,aB⟩:=At.two A0;have lR:=AR.lt;have cR:=(AR.cell (o+5)).trans h5;have zR:=AR.thaw (o+5);rw[NM.out]
       go_upto_region 10 with((go_at_call 239;(with_reducible refine(yB bz s vf va ib r0 r1 _ A2).mono ?_);rintro e w3 ⟨rfl,hb⟩;replace hQ:=hQ.trans (Out.of_below hb);replace A0:=At.keep A0 hb;replace A2:=At.keep A2 hb;replace AR:=At.keep AR hb;clear hb))
       clear l0 aA aB lR cR zR;obtain⟨l0,aA,aB⟩:=At.two A0;have lR:=AR.lt;have cR:=(AR.cell (o+5)).trans h5;have zR:=AR.thaw (o+5);rw[Va.out];rw[<-aJ h5,show a0=Fw.yZ s 0 r0 a0 from by unfold Fw.yZ;rw[if_neg (by rw[NM.out];simp),if_neg (by rw[Va.out];simp)]]at AR;exact Z3
     . have Va:=Lib.hid Y2
       clear Y2;rw[rounds_succ]
       go_upto_region 6 with(fail)
       go_upto_region 7 with((go_at_call 239;(with_reducible refine(vw bz s vf va ib r0 r1 _ A2).mono ?_);rintro e w3 ⟨rfl,hb⟩;replace hQ:=hQ.trans (Out.of_below hb);replace A0:=At.keep A0 hb;replace A2:=At.keep A2 hb;replace AR:=At.keep AR hb;clear hb))
       clear l0 aA aB lR cR zR;obtain⟨l0,aA,aB⟩:=At.two A0;have lR:=AR.lt;have cR:=(AR.cell (o+5)).trans h5;have zR:=AR.thaw (o+5);rw[NM.out]
       go_upto_region 10 with((go_at_call 239;(with_reducible refine(yB bz s vf va ib r0 r1 _ A2).mono ?_);rintro e w3 ⟨rfl,hb⟩;replace hQ:=hQ.trans (Out.of_below hb);replace A0:=At.keep A0 hb;replace A2:=At.keep A2 hb;replace AR:=At.keep AR hb;clear hb))
       clear l0 aA aB lR cR zR;obtain⟨l0,aA,aB⟩:=At.two A0;have lR:=AR.lt;have cR:=(AR.cell (o+5)).trans h5;have zR:=AR.thaw (o+5);rw[Va.out]
       go_upto_region 11 with(fail)
       refine wT 11 1 ?_
       (repeat (first|refine nN ?_ | refine nO ?_ (hc:=by intro w2 hS;first|with_reducible exact nI hS (jh _))|refine nP ?_))
       refine aj.dJ ?_;intro w2 hS;replace hQ:=hQ.trans (Out.of_below hS);replace A0:=At.keep A0 hS;replace A2:=At.keep A2 hS;replace AR:=At.keep AR hS;clear hS;clear l0 aA aB lR cR zR;obtain⟨l0,aA,aB⟩:=At.two A0;have lR:=AR.lt;have cR:=(AR.cell (o+5)).trans h5;have zR:=AR.thaw (o+5);refine xV ?_;intro K hK;go_simp;refine hK _ _ (aj.bP ?_);clear hK K;generalize hW:World.setCell _ _ _=W9;replace A0:At W9 _ _:=hW▸At.off A0 ak _ _;replace A2:At W9 _ _:=hW▸At.off A2 ak _ _;replace hQ:Out _ _ W9:=hW▸Out.set hQ rfl _ _;replace AR:At W9 R _:=hW▸At.set AR (o+5) _;clear hW;rw[qZ,show Fw.wr (a0-Fw.ins s 0 1 r0)=Fw.yZ s 0 r0 a0 from by unfold Fw.yZ;rw[if_neg (by rw[NM.out];simp),if_pos Va.out]]at AR;exact Z3
   . have NM:=Lib.hid Y1
     clear Y1;rw[rounds_succ]
     go_upto_region 6 with(fail)
     go_upto_region 7 with((go_at_call 239;(with_reducible refine(vw bz s vf va ib r0 r1 _ A2).mono ?_);rintro e w3 ⟨rfl,hb⟩;replace hQ:=hQ.trans (Out.of_below hb);replace A0:=At.keep A0 hb;replace A2:=At.keep A2 hb;replace AR:=At.keep AR hb;clear hb))
     clear l0 aA aB lR cR zR;obtain⟨l0,aA,aB⟩:=At.two A0;have lR:=AR.lt;have cR:=(AR.cell (o+5)).trans h5;have zR:=AR.thaw (o+5);rw[NM.out]
     go_upto_region 8 with(fail)
     refine wT 11 1 ?_
     (repeat (first|refine nN ?_ | refine nO ?_ (hc:=by intro w2 hS;first|with_reducible exact nI hS (jh _))|refine nP ?_))
     refine aj.dJ ?_;intro w2 hS;replace hQ:=hQ.trans (Out.of_below hS);replace A0:=At.keep A0 hS;replace A2:=At.keep A2 hS;replace AR:=At.keep AR hS;clear hS;clear l0 aA aB lR cR zR;obtain⟨l0,aA,aB⟩:=At.two A0;have lR:=AR.lt;have cR:=(AR.cell (o+5)).trans h5;have zR:=AR.thaw (o+5);refine xV ?_;intro K hK;go_simp;refine hK _ _ (aj.bP ?_);clear hK K;generalize hW:World.setCell _ _ _=W9;replace A0:At W9 _ _:=hW▸At.off A0 ak _ _;replace A2:At W9 _ _:=hW▸At.off A2 ak _ _;replace hQ:Out _ _ W9:=hW▸Out.set hQ rfl _ _;replace AR:At W9 R _:=hW▸At.set AR (o+5) _;clear hW;rw[qZ,show Fw.wr (a0+Fw.ins s 0 0 r0)=Fw.yZ s 0 r0 a0 from by unfold Fw.yZ;rw[if_pos NM.out]]at AR;exact Z3
 . have hp':(s.c 1 != 1)=true:=by simpa using hp
   go_wp2;refine bodyPost_ret (v:=.tuple #[]) (by simp[results,Tryz.results175,go_sem]) rfl ⟨rfl,?_,Out.trans' (Out.of_below hW1) hQ λb _ q=>q⟩;rw[show x0=a0 from by rw[<-HX0.out];exact if_neg hp,show x1=a1 from by rw[<-EF.out];exact if_neg hp,aJ h5,aJ h6];exact AR
end
def PN(W:World)(P:Nat->Prop)(A:Option Addr)(l:List Fw.Ld):Prop:=l=[]\/∃b cs,A=some ⟨b,0,none⟩/\P b/\At W b (.cells cs 114)/\∀i (h:i<l.length) j,j<7->cs[i*7+j]? = (eF l[i])[j]?
def CV(W:World)(P:Nat->Prop)(v:Value)(c:List Fw.Ld×Int):Prop:=∃A cap,v=.agg #[.slice A c.1.length cap,.int .i64 c.2]/\PN W P A c.1
def Kp(Y:rV)(B:Int->Fw.Bx)(F:Int->Nat)(n:Nat)(P:Nat->Prop)(W:World):Prop :=
 P Y.pm/\∃g,GM 112 W Y.pm n g/\∀z a b v,Wf z->Wf a->Wf b->g (klit z a b)=some v->CV W P v (Fw.cont B (F z) z a b)
theorem PN.out{W W':World}{P P' M:Nat->Prop}{A:Option Addr}{l:List Fw.Ld}(h:PN W P A l)(k:Out M W W')(hm:∀b,P b->¬ M b)(hp:∀b,P b->P' b):PN W' P' A l:=by
 rcases h with h|⟨b,cs,e,hb,hA,hc⟩
 . exact .inl h
 . exact .inr ⟨b,cs,e,hp b hb,hA.out (hm b hb) k,hc⟩
theorem CV.out{W W':World}{P P' M:Nat->Prop}{v:Value}{c:List Fw.Ld×Int}(h:CV W P v c)(k:Out M W W')(hm:∀b,P b->¬ M b)(hp:∀b,P b->P' b):CV W' P' v c:=by
 obtain⟨A,cap,e,h⟩:=h;exact⟨A,cap,e,h.out k hm hp⟩
theorem Kp.out{Y:rV}{B:Int->Fw.Bx}{F:Int->Nat}{n:Nat}{P M:Nat->Prop}{W W':World}(h:Kp Y B F n P W)(k:Out M W W')(hm:∀b,P b->¬ M b):Kp Y B F n P W':=by
 obtain⟨hp,g,h1,h2⟩:=h;exact⟨hp,g,h1.out (hm _ hp) k,λz a b v hz ha hb hg=>(h2 z a b v hz ha hb hg).out k hm λ_ q=>q⟩
theorem yF(W:World):(zeroValue 198).run Tryz.prog W=.ok (.agg #[.slice none 0 0,.int .i64 0]) W:=by kernel_rfl
section
variable {Y:rV} {B:Int->Fw.Bx} {D:Int->Prop} {KM:World->Nat->Prop}
set_option maxHeartbeats 8000000 in
theorem Iu(hK:∀(X X':World) (b:Nat),KM X b->Below X.heap.size X X'->KM X' b)(z i0 i1:Int)(hz:D z)(w:World)(hR:RO w Y B D KM)(hne:(B z).fl=[]) :
  Calls Tryz.prog 119 #[.pointer (some ⟨Y.lb,0,none⟩),.agg #[.int .i64 z,.int .i64 i0,.int .i64 i1]] w λe w'=>e=.returned (.agg #[.slice none 0 0,.int .i64 ((B z).sty.c 54)])/\Below w.heap.size w w':=by
 obtain⟨hbx,hks,_⟩:=hR.box z hz;obtain⟨es0,Ra,hpm⟩:=hR.Ey;have hbig:Below w.heap.size w ((w.alloc (.cells #[.int .i64 z,.int .i64 i0,.int .i64 i1] 112)).alloc (.cells #[.slice none 0 0,.int .i64 0] 198)):=Below.alloc' (Below.alloc' (Below.refl _ _) _) _;have hL:=λX (hb:Below ((w.alloc (.cells #[.int .i64 z,.int .i64 i0,.int .i64 i1] 112)).alloc (.cells #[.slice none 0 0,.int .i64 0] 198)).heap.size ((w.alloc (.cells #[.int .i64 z,.int .i64 i0,.int .i64 i1] 112)).alloc (.cells #[.slice none 0 0,.int .i64 0] 198)) X)=>(hR.keep hK (Below.after hbig hb)).look hz;have HR:=Lib.hid hR;have A0:At ((w.alloc (.cells #[.int .i64 z,.int .i64 i0,.int .i64 i1] 112)).alloc (.cells #[.slice none 0 0,.int .i64 0] 198)) w.heap.size (.cells #[.int .i64 z,.int .i64 i0,.int .i64 i1] 112):=At.alloc (At.new _ _) _;have A1:At ((w.alloc (.cells #[.int .i64 z,.int .i64 i0,.int .i64 i1] 112)).alloc (.cells #[.slice none 0 0,.int .i64 0] 198)) (w.heap.size+1) (.cells #[.slice none 0 0,.int .i64 0] 198):=At.new' _ Ev;have A2:=hbx.keep hbig;have AL:=hR.lay.keep hbig;have hB:=hbig;obtain⟨s,hs⟩:∃s,(B z).sty=s:=⟨_,rfl⟩;obtain⟨fl,hfl⟩:∃s,(B z).fl=s:=⟨_,rfl⟩;rw[hs]at A2;rw[hfl]at hks;obtain⟨A,cp,hvf,hI,hle,hmx,hAn⟩:=hks.ints;rw[hvf]at A2;generalize Y.va z=va at A2;generalize hib:(B z).ib=ib at A2;generalize hbz:Y.bl z=bz at *;have HS:=Lib.hid hs;have FK:=Lib.hid hfl;have qw:=Lib.hid hbx;clear hbx hR hks hs hfl hvf hib;go_enter Tryz.func119,Tryz.ntmps119
 go_upto_region 1 with(fail)
 generalize (w.alloc (.cells #[.int .i64 z,.int .i64 i0,.int .i64 i1] 112)).alloc (.cells #[.slice none 0 0,.int .i64 0] 198)=W0 at *;obtain⟨l0,aA,aB,bB⟩:=At.three A0;have Br:=AL.lt;have EU:W0.cell? ⟨Y.lb,2,none⟩=some (.map (some Y.bm)):=AL.cell 2;refine xP ?_
 (repeat (first|refine nN ?_ | refine nO ?_ (hc:=by intro w2 hS;first|with_reducible exact nI hS (jh _))|refine nP ?_))
 refine aj.bZ ?_;intro w2 hS;replace A0:=At.keep A0 hS;replace A1:=At.keep A1 hS;replace A2:=At.keep A2 hS;replace AL:=At.keep AL hS;replace hB:=Below.ay hB (ah _) hS;clear hS hL EU Br l0 aA aB bB hbig;have qp:w2.cell? ⟨bz,71,none⟩=some (.slice A fl.length cp):=aF.ext A2 16;have l2:=A2.lt;have c54:w2.cell? ⟨bz,54,none⟩=some (.int .i64 (s.c 54)):=aF.int A2 54 aG rfl;have l1:=A1.lt;have aL:w2.cell? ⟨w.heap.size+1,0,none⟩=some (.slice none 0 0):=A1.cell 0;have aM:w2.cell? ⟨w.heap.size+1,1,none⟩=some (.int .i64 0):=A1.cell 1;have fI:=A1.thaw 0;have fJ:=A1.thaw 1;have hlz:((fl.length:Int)==0)=true:=by rw[<-FK.out,hne];rfl
 have Rm:∀X,(Instr.build 198 #[(1,.int .i64 (s.c 54))]).run Tryz.prog X=.ok (.agg #[.slice none 0 0,.int .i64 (s.c 54)]) X:=λ_=>by kernel_rfl
 go_wp2;refine bodyPost_ret (v:=.agg #[.slice none 0 0,.int .i64 (s.c 54)]) Z54 rfl ⟨by rw[HS.out],?_⟩;exact Z5
set_option maxHeartbeats 8000000 in
theorem Iw(hK:∀(X X':World) (b:Nat),KM X b->Below X.heap.size X X'->KM X' b)(z i0 i1:Int)(hz:D z)(w:World)(hR:RO w Y B D KM)(n:Nat)(h0:Wf i0)(h1:Wf i1)(hne:(B z).fl≠[])
  (g:Lit->Option Value) (hg:GM 112 w Y.pm n g) (Av:Option Addr) (lv cv:Nat) (hv:Int) (hgv:g (klit z i0 i1)=some (.agg #[.slice Av lv cv,.int .i64 hv])) :
  Calls Tryz.prog 119 #[.pointer (some ⟨Y.lb,0,none⟩),.agg #[.int .i64 z,.int .i64 i0,.int .i64 i1]] w λe w'=>e=.returned (.agg #[.slice Av lv cv,.int .i64 hv])/\Below w.heap.size w w':=by
 obtain⟨hbx,hks,_⟩:=hR.box z hz;obtain⟨es0,Ra,hpm⟩:=hR.Ey;have hbig:Below w.heap.size w ((w.alloc (.cells #[.int .i64 z,.int .i64 i0,.int .i64 i1] 112)).alloc (.cells #[.slice none 0 0,.int .i64 0] 198)):=Below.alloc' (Below.alloc' (Below.refl _ _) _) _;have hL:=λX (hb:Below ((w.alloc (.cells #[.int .i64 z,.int .i64 i0,.int .i64 i1] 112)).alloc (.cells #[.slice none 0 0,.int .i64 0] 198)).heap.size ((w.alloc (.cells #[.int .i64 z,.int .i64 i0,.int .i64 i1] 112)).alloc (.cells #[.slice none 0 0,.int .i64 0] 198)) X)=>(hR.keep hK (Below.after hbig hb)).look hz;have HR:=Lib.hid hR;have A0:At ((w.alloc (.cells #[.int .i64 z,.int .i64 i0,.int .i64 i1] 112)).alloc (.cells #[.slice none 0 0,.int .i64 0] 198)) w.heap.size (.cells #[.int .i64 z,.int .i64 i0,.int .i64 i1] 112):=At.alloc (At.new _ _) _;have A1:At ((w.alloc (.cells #[.int .i64 z,.int .i64 i0,.int .i64 i1] 112)).alloc (.cells #[.slice none 0 0,.int .i64 0] 198)) (w.heap.size+1) (.cells #[.slice none 0 0,.int .i64 0] 198):=At.new' _ Ev;have A2:=hbx.keep hbig;have AL:=hR.lay.keep hbig;have hB:=hbig;obtain⟨s,hs⟩:∃s,(B z).sty=s:=⟨_,rfl⟩;obtain⟨fl,hfl⟩:∃s,(B z).fl=s:=⟨_,rfl⟩;rw[hs]at A2;rw[hfl]at hks;obtain⟨A,cp,hvf,hI,hle,hmx,hAn⟩:=hks.ints;rw[hvf]at A2;generalize Y.va z=va at A2;generalize hib:(B z).ib=ib at A2;generalize hbz:Y.bl z=bz at *;have HS:=Lib.hid hs;have FK:=Lib.hid hfl;have qw:=Lib.hid hbx;clear hbx hR hks hs hfl hvf hib;go_enter Tryz.func119,Tryz.ntmps119
 go_upto_region 1 with(fail)
 generalize (w.alloc (.cells #[.int .i64 z,.int .i64 i0,.int .i64 i1] 112)).alloc (.cells #[.slice none 0 0,.int .i64 0] 198)=W0 at *;obtain⟨l0,aA,aB,bB⟩:=At.three A0;have Br:=AL.lt;have EU:W0.cell? ⟨Y.lb,2,none⟩=some (.map (some Y.bm)):=AL.cell 2;refine xP ?_
 (repeat (first|refine nN ?_ | refine nO ?_ (hc:=by intro w2 hS;first|with_reducible exact nI hS (jh _))|refine nP ?_))
 refine aj.bZ ?_;intro w2 hS;replace A0:=At.keep A0 hS;replace A1:=At.keep A1 hS;replace A2:=At.keep A2 hS;replace AL:=At.keep AL hS;replace hB:=Below.ay hB (ah _) hS;clear hS hL EU Br l0 aA aB bB hbig;have qp:w2.cell? ⟨bz,71,none⟩=some (.slice A fl.length cp):=aF.ext A2 16;have l2:=A2.lt;have c54:w2.cell? ⟨bz,54,none⟩=some (.int .i64 (s.c 54)):=aF.int A2 54 aG rfl;have l1:=A1.lt;have aL:w2.cell? ⟨w.heap.size+1,0,none⟩=some (.slice none 0 0):=A1.cell 0;have aM:w2.cell? ⟨w.heap.size+1,1,none⟩=some (.int .i64 0):=A1.cell 1;have fI:=A1.thaw 0;have fJ:=A1.thaw 1;have hlz:((fl.length:Int)==0)=false:=by rw[<-FK.out];simp;exact hne
 go_upto_region 4 with(fail)
 obtain⟨l0,aA,aB,bB⟩:=At.three A0;have Br:=AL.lt;have ly4:w2.cell? ⟨Y.lb,4,none⟩=some (.map (some Y.pm)):=AL.cell 4;have hzf:=HR.out.wf z hz;have hKL:=λX (hb:Below w2.heap.size w2 X)=>(hg.keep (Below.ay hB (ah _) hb)).look_ok BZ Tryz.underlying118 (yF X) (KG hzf h0 h1);simp only[hgv,Option.getD_some,Option.isSome_some,NH]at hKL;have hS0:Below w2.heap.size w2 w2.drew:=Below.drew (Below.refl _ _);refine kQ (S:=λX=>Below w2.heap.size w2 X) 12 ?_ ?_
 . exact hS0
 intro hS1;clear hS0;refine aH 0 ?_;refine aH 1 ?_;refine aH 2 ?_;refine aH 3 ?_;refine aH 4 ?_;refine aH 5 ?_;refine aH 6 ?_;refine aH 7 ?_;refine aH 8 ?_;refine tk1 9 ?_;refine aj.Step.value dQ ?_;have AN:At (w2.alloc (.cells #[.slice none 0 0,.int .i64 0] 198)).drew w2.heap.size (.cells #[.slice none 0 0,.int .i64 0] 198):=At.drew (At.new _ _);have hS2:Below w2.heap.size w2 (w2.alloc (.cells #[.slice none 0 0,.int .i64 0] 198)).drew:=Below.drew (Below.alloc' (Below.refl _ _) _);have Y3:=At.keep A1 hS2;have l1w:=l1;refine⟨λ_=>hS2,?_⟩
 (try simp only[bF,bG,bH,tks])
 generalize (w2.alloc (.cells #[.slice none 0 0,.int .i64 0] 198)).drew=w3 at *;obtain⟨ln,cn0,cn1⟩:=At.two AN;have zn0:=AN.thaw 0;have zn1:=AN.thaw 1;clear aL aM fI fJ l1;refine tk1 10 ?_;refine aj.Step.skip dQ ?_;have uG:Below w2.heap.size w2 ((w3.setCell ⟨w2.heap.size,0,none⟩ (.slice Av lv cv)).setCell ⟨w2.heap.size,1,none⟩ (.int .i64 hv)):=Below.setCell (Below.setCell hS2 eY _) eY _;have AN2:=At.set (At.set AN 0 (.slice Av lv cv)) 1 (.int .i64 hv);replace Y3:=At.off (At.off Y3 (n:=w2.heap.size) ak 0 (.slice Av lv cv)) (n:=w2.heap.size) ak 1 (.int .i64 hv);refine⟨λ_=>uG,?_⟩
 (try simp only[Act.put])
 generalize (w3.setCell ⟨w2.heap.size,0,none⟩ (.slice Av lv cv)).setCell ⟨w2.heap.size,1,none⟩ (.int .i64 hv)=w4 at *;clear hS2 AN ln cn0 cn1 zn0 zn1 hS1;refine aH 11 ?_;refine jY ?_;replace hB:=Below.ay hB (ah _) uG;clear uG;obtain⟨ln,cn0,cn1⟩:=At.two (x:=.slice Av lv cv) (y:=.int .i64 hv) AN2;obtain⟨l1,aL,aM⟩:=At.two Y3;have fI:=At.thaw Y3 0;have fJ:=At.thaw Y3 1;clear qp l2 c54 l0 aA aB bB Br ly4;go_wp2;refine bodyPost_ret (v:=.agg #[.slice Av lv cv,.int .i64 hv]) Z54 rfl ⟨rfl,?_⟩;exact Z5
end
theorem GM.put{k t e:TypeId}{W:World}{b n:Nat}{g:Lit->Option Value}(h:GM k W b n g)(K:Maps.Keyed Tryz.prog k)(ht:Tryz.prog.underlying t=some (.map k e))(hn:n<maxLen){key v:Value}{kl:Lit}(hkey:keyOf Tryz.prog k key=some kl) :
  ∃W' n',n'<=n+1/\(Instr.mapUpdate t (.map (some b)) key v).run Tryz.prog W=.ok () W'/\GM k W' b n' (xB g kl v)/\Out (λx=>x=b) W W':=by
 obtain⟨D,h1,h2,h3⟩:=h;obtain⟨W',hr,ho,ht⟩:=h1.store K ht hn hkey (val:=v) rfl;have hle:=ho.size_le;refine⟨W',Maps.size (D.put kl (.held v)),hle,hr,⟨_,UQ ho,rfl,λy hy => ?_⟩,Out.turned ht⟩;exact Z2a
section
variable {Y:rV} {B:Int->Fw.Bx} {D:Int->Prop} {KM:World->Nat->Prop}
theorem RO.fresh(qL:∀(X X':World) (b:Nat),KM X b->Out (λq=>q≠b) X X'->KM X' b){W W':World}(h:RO W Y B D KM)(hkm:Y.km<W.heap.size)(k:Out (λb=>b=Y.pm\/W.heap.size<=b) W W')(hp:∃es ck,At W' Y.pm (.map es ck)):RO W' Y B D KM:=by
 obtain⟨es0,Ra,hpm⟩:=h.Ey
 have cell:∀{b:Nat} {cs:Array Value} {T:TypeId},At W b (.cells cs T)->¬ (b=Y.pm\/W.heap.size<=b):=λ{b cs T} ha q=>by
  rcases q with rfl|q
  . have:=At.uniq ha hpm;cases this
  . exact absurd ha.lt ak
 have ks:∀{v:Value} {l:List Int},KS W v l->KS W' v l:=λ{v l} hk=>hk.out (λg hg q=>by
  obtain⟨cur,ha⟩:=hk.rowAt hg
  exact cell ha q) k
 refine⟨h.lay.out (cell h.lay) k,?_,λz hz => ?_,?_,h.wf,hp,h.pmb,h.pmk,h.pmr⟩
 . obtain⟨n,g,h1,h2⟩:=h.boxes
   exact⟨n,g,h1.out (λq=>by rcases q with q|q;exact h.pmb q.symm;exact absurd h1.lt ak) k,h2⟩
 . obtain⟨h1,h2,h3⟩:=h.box z hz
   exact⟨At.out h1 (cell h1) k,ks h2,ks h3⟩
 . refine qL _ _ _ h.kinds ⟨k.1,λb hb hn => ?_⟩
   have hb':b=Y.km:=Classical.byContradiction hn;subst hb';exact k.2 _ hb (λq=>by rcases q with q|q;exact h.pmk q.symm;omega)
end
def oL(cs:Array Value)(l:List Fw.Ld):Prop:=l.length*7<=cs.size/\∀i (h:i<l.length) j,j<7->cs[i*7+j]? = (eF l[i])[j]?
theorem oL.step{cs:Array Value}{l:List Fw.Ld}(h:oL cs l){k:Nat}(hk:k<l.length)(x0 x1:Int) :
  oL ((cs.setIfInBounds (k*7+5) (.int .i64 x0)).setIfInBounds (k*7+6) (.int .i64 x1)) (l.set k { l[k]with a0:=x0,a1:=x1 }):=by
 refine⟨by simpa using h.1,λi hi j hj => ?_⟩;have hi':i<l.length:=by simpa using hi
 have hs:=h.1;simp only[Array.getElem?_setIfInBounds,Array.size_setIfInBounds,List.getElem_set];by_cases e:k=i
 . subst e
   rw[if_pos rfl];have h0:=h.2 k hi' j hj;by_cases e6:k*7+6=k*7+j
   . obtain rfl:j=6:=by omega
     rw[if_pos rfl,if_pos ak];rfl
   . rw[if_neg e6]
     by_cases e5:k*7+5=k*7+j
     . obtain rfl:j=5:=by omega
       rw[if_pos rfl,if_pos ak];rfl
     . rw[if_neg e5,h0]
       rcases(show j=0\/j=1\/j=2\/j=3\/j=4 by omega)with rfl|rfl|rfl|rfl|rfl<;>rfl
 . rw[if_neg e,if_neg ak,if_neg ak]
   exact h.2 i hi' j hj
def NP(f:Fw.Ld->Fw.Ld)(l:List Fw.Ld)(k:Nat):List Fw.Ld:=(l.take k).map f++l.drop k
theorem Vb(f:Fw.Ld->Fw.Ld)(l:List Fw.Ld):NP f l 0=l:=by simp[NP]
theorem Y4(f:Fw.Ld->Fw.Ld)(l:List Fw.Ld):NP f l l.length=l.map f:=by simp[NP]
theorem Dz(f:Fw.Ld->Fw.Ld)(l:List Fw.Ld)(k:Nat):(NP f l k).length=l.length:=by simp[NP];omega
theorem Y5(f:Fw.Ld->Fw.Ld)(l:List Fw.Ld){k:Nat}(hk:k<l.length):(NP f l k)[k]'(by rw[Dz];exact hk)=l[k]:=by
 simp only[NP];rw[List.getElem_append_right jH];simp only[List.length_map,List.length_take,List.getElem_drop];congr 1;omega
theorem Vd(f:Fw.Ld->Fw.Ld)(l:List Fw.Ld){k:Nat}(hk:k<l.length):(NP f l k).set k (f l[k])=NP f l (k+1):=by
 apply List.ext_getElem
 . simp[NP];omega
 . intro i h1 h2
   simp only[NP,List.getElem_set,List.getElem_append,List.length_map,List.length_take,List.getElem_map,List.getElem_take,List.getElem_drop];by_cases e:k=i
   . subst e;rw[if_pos rfl,dif_pos ak]
   . rw[if_neg e]
     by_cases hl:i<k
     . rw[dif_pos ak,dif_pos ak]
     . rw[dif_neg ak,dif_neg ak]
       congr 1;omega
end Go.Proofs.YtcbcfdihofclkaaGreat.Fix
