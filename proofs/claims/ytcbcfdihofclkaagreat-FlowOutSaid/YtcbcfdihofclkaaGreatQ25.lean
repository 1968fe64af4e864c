/- Proved here: what functions of the program do, in plain numbers (part 25); no conditions but those in sight. -/
import Derived.Test.YtcbcfdihofclkaaGreatQK
import Derived.Test.YtcbcfdihofclkaaGreatQ21
import Derived.Test.YtcbcfdihofclkaaGreatQ22
import Derived.Test.YtcbcfdihofclkaaGreatQ24
set_option linter.unusedVariables false
set_option linter.unusedSimpArgs false
set_option linter.unusedSectionVars false
set_option maxRecDepth 100000
namespace Go.Proofs.YtcbcfdihofclkaaGreat.Fix
open Go.ChangeShapes Go.WideShapes Go.ChangeAt Go.RowKit
theorem Vr(W:World):(isAgg 190).run Tryz.prog W=.ok true W:=by kernel_rfl
theorem Vs(W:World):(sizeOf 190).run Tryz.prog W=.ok 6 W:=by kernel_rfl
theorem pO{ops:Array Oper}{S:World->Prop}{o:Oper}{a:Act}(p:Operand){b:Nat}{s:Re.St}{fl ap:Value}{ib:Bool}(hw:Region.wanted o (yielded ops a.tmps)=true)(ho:o.op=.load 190 p)(hp:a.eval p=.pointer (some ⟨b,55,none⟩))(h:∀X,S X->aF X b s fl ap ib):aj.Reads Tryz.prog ops S o (.agg #[.int .i64 (s.c 3),.int .i64 (s.c 4),.int .i64 (s.c 7),.int .i64 (s.c 8),.int .i64 (s.c 11),.int .i64 (s.c 12)]) a :=
 .inl ⟨hw,λX hX=>nC Vr Vs p ho hp rfl λj hj=>by
  obtain⟨l2,c0,c1,c2,c3,c4,c5,_⟩:=At.bx0 (h X hX)
  match j,hj with
  | 0,_=>exact c0
  | 1,_=>exact c1
  | 2,_=>exact c2
  | 3,_=>exact c3
  | 4,_=>exact c4
  | 5,_=>exact c5⟩
theorem NZ{ops:Array Oper}{S:World->Prop}{o:Oper}{a:Act}(p:Operand){b:Nat}{s:Re.St}{fl ap:Value}{ib:Bool}(hw:Region.wanted o (yielded ops a.tmps)=true)(ho:o.op=.load 190 p)(hp:a.eval p=.pointer (some ⟨b,61,none⟩))(h:∀X,S X->aF X b s fl ap ib):aj.Reads Tryz.prog ops S o (.agg #[.int .i64 (s.c 5),.int .i64 (s.c 6),.int .i64 (s.c 9),.int .i64 (s.c 10),.int .i64 (s.c 13),.int .i64 (s.c 14)]) a :=
 .inl ⟨hw,λX hX=>nC Vr Vs p ho hp rfl λj hj=>by
  obtain⟨l2,c0,c1,c2,c3,c4,c5,_⟩:=At.bx1 (h X hX)
  match j,hj with
  | 0,_=>exact c0
  | 1,_=>exact c1
  | 2,_=>exact c2
  | 3,_=>exact c3
  | 4,_=>exact c4
  | 5,_=>exact c5⟩
section
variable {Y:rV} {B:Int->Fw.Bx} {D:Int->Prop} {KM:World->Nat->Prop}
set_option maxHeartbeats 8000000 in
theorem PV(hK:∀(X X':World) (b:Nat),KM X b->Below X.heap.size X X'->KM X' b)(z k i0 i1:Int)(hz:D z)(hk:D k)(bk:Nat)(hbk:bk=Y.bl k)(w:World)(hR:RO w Y B D KM) :
  Calls Tryz.prog 232 #[.pointer (some ⟨Y.lb,0,none⟩),.agg #[.int .i64 z,.int .i64 i0,.int .i64 i1],.pointer (some ⟨bk,0,none⟩)] w λe w'=>e=.returned (.agg #[.int .i64 (Fw.gY B z i0 k),.int .i64 (-1)])/\Below w.heap.size w w':=by
 obtain⟨ans,iK⟩:∃a,Fw.gY B z i0 k=a:=⟨_,rfl⟩;rw[iK];unfold Fw.gY Fw.GZ at iK;obtain⟨sk,hsk⟩:∃s,(B k).sty=s:=⟨_,rfl⟩;obtain⟨sz,hsz⟩:∃s,(B z).sty=s:=⟨_,rfl⟩;rw[hsk,hsz]at iK;simp only[Nat.mul_zero,Nat.add_zero]at iK;have gX:=Lib.hid iK;have HBK:=Lib.hid hbk;have HSK:=Lib.hid hsk;have HSZ:=Lib.hid hsz;clear iK hbk hsk hsz;go_enter Tryz.func232,Tryz.ntmps232
 go_upto_region 1 with(fail)
 generalize hW:World.alloc _ _=W0;have A0:At W0 w.heap.size (.cells #[.int .i64 z,.int .i64 i0,.int .i64 i1] 112):=hW▸At.alloc (At.new _ _) _;have A1:At W0 (w.heap.size+1) (.cells #[.int .i64 0,.int .i64 0] 108):=hW▸At.new' _ eY;have hB0:Below w.heap.size w W0:=hW▸Below.alloc' (Below.alloc' (Below.refl _ _) _) _;clear hW
 go_upto_region 2 with(go_at_call 63;(with_reducible refine(iT _).mono ?_);rintro e' w4 ⟨rfl,hb4⟩)
 generalize hW:World.alloc _ _=W1;have A2:At W1 w4.heap.size (.cells #[.int .i64 (-1),.int .i64 (-1)] 108):=hW▸At.new _ _;have hb5:Below W0.heap.size W0 W1:=hW▸(hb4.trans (Below.mono (Below.alloc' (Below.refl _ _) _) hb4.size));clear hW;have gS:W0.heap.size<=w4.heap.size:=hb4.size;generalize w4.heap.size=T at *;clear hb4;have l1':=A1.lt;have hnT:w.heap.size+1≠T:=by omega
 have ahD:w.heap.size≠T:=by omega
 have hgT:w.heap.size<=T:=by omega
 replace A0:=A0.keep hb5;replace A1:=A1.keep hb5;have hB1:Below w.heap.size w W1:=Below.ay hB0 (ah _) hb5;have pF:=hR.keep hK hB1;have hbx:=(pF.box k hk).1;rw[<-HBK.out,HSK.out]at hbx;have hbz:=(pF.box z hz).1;obtain⟨bz,ab5⟩:∃b,Y.bl z=b:=⟨_,rfl⟩;rw[ab5,HSZ.out]at hbz;have hlk:=λX (h:Below W1.heap.size W1 X)=>(pF.keep hK h).look hz;simp only[ab5]at hlk;have c44:W1.cell? ⟨bz,44,none⟩=some (.int .i64 (sz.c 44)):=aF.int hbz 44 ak rfl;have Jj:=aF.lt hbz;have II:=pF.lay;generalize Y.vf k=vf at hbx;generalize Y.va k=va at hbx;generalize (B k).ib=ib at hbx;have qw:=Lib.hid hbx;obtain⟨l2,aN,aO,aP,aQ,aZ,bq,aX,aY⟩:=At.bx0 hbx;obtain⟨lY,wV,wW,zf,zh,zi,zk⟩:=At.six II;obtain⟨l0,aA,aB,bB⟩:=At.three A0;clear hbx hbz II pF hR hB0 ab5 hb5;have hSd:Below W1.heap.size W1 W1.drew:=Below.drew (Below.refl _ _);cases hfx:Fx.mX (sk.c 3) i0 with
 | true =>
   have E:Hid (-1=ans):=Lib.hid (by rw[<-gX.out,hfx];simp);have SA:=Lib.hid hfx;clear hfx gX;refine kQ (S:=λX=>Below W1.heap.size W1 X) 24 ?_ ?_
   . exact hSd
   intro hx;clear hSd;refine aH 0 ?_;refine aH 1 ?_;refine aH 2 ?_;refine aH 3 ?_;refine rD 4 rfl (pO (.tmp 12) aU rfl rfl (λX h=>qw.out.keep h)) ?_;refine aH 5 ?_;refine aH 6 ?_;refine aH 7 ?_;refine tk1 8 ?_;refine aj.Step.call Z4t (ji _ _ _ _ _ _ _ _) ?_;rintro e' w6 ⟨rfl,hb⟩;rw[SA.out];replace hx:=Below.ay hx (ah _) hb;clear hb;refine⟨_,rfl,λ_=>hx,?_⟩
   (try simp only[bF,bG,bH,tks])
   refine aH 9 ?_;refine aH 10 ?_;refine aH 11 ?_;refine aH 12 ?_;refine aH 13 ?_;refine aH 14 ?_;refine aH 15 ?_;refine aH 16 ?_;refine aH 17 ?_;exact Zz
 | false =>
   have SA:=Lib.hid hfx;by_cases h44:sz.c 44=0
   . have E:Hid (-1=ans):=Lib.hid (by rw[<-gX.out,hfx,h44];simp)
     clear hfx gX;refine kQ (S:=λX=>Below W1.heap.size W1 X) 24 ?_ ?_
     . exact hSd
     intro hx;clear hSd;refine aH 0 ?_;refine aH 1 ?_;refine aH 2 ?_;refine aH 3 ?_;refine rD 4 rfl (pO (.tmp 12) aU rfl rfl (λX h=>qw.out.keep h)) ?_;refine aH 5 ?_;refine aH 6 ?_;refine aH 7 ?_;refine tk1 8 ?_;refine aj.Step.call Z4t (ji _ _ _ _ _ _ _ _) ?_;rintro e' w6 ⟨rfl,hb⟩;rw[SA.out];replace hx:=Below.ay hx (ah _) hb;clear hb;refine⟨_,rfl,λ_=>hx,?_⟩
     (try simp only[bF,bG,bH,tks])
     refine aH 9 ?_;refine aH 10 ?_;refine aH 11 ?_;refine aH 12 ?_;refine aH 13 ?_;refine aH 14 ?_;refine aH 15 ?_;refine aH 16 ?_;refine rD 17 rfl (dZ aU rfl rfl rfl (λX h=>hlk X h)) ?_;exact Zz
   . have E:Hid (Fw.X9 sk i0=ans):=Lib.hid (by rw[<-gX.out,hfx,if_pos ⟨rfl,h44⟩])
     clear hfx gX;refine kQ (S:=λX=>Below W1.heap.size W1 X) 24 ?_ ?_
     . exact hSd
     intro hx;clear hSd;refine aH 0 ?_;refine aH 1 ?_;refine aH 2 ?_;refine aH 3 ?_;refine rD 4 rfl (pO (.tmp 12) aU rfl rfl (λX h=>qw.out.keep h)) ?_;refine aH 5 ?_;refine aH 6 ?_;refine aH 7 ?_;refine tk1 8 ?_;refine aj.Step.call Z4t (ji _ _ _ _ _ _ _ _) ?_;rintro e' w6 ⟨rfl,hb⟩;rw[SA.out];replace hx:=Below.ay hx (ah _) hb;clear hb;refine⟨_,rfl,λ_=>hx,?_⟩
     (try simp only[bF,bG,bH,tks])
     refine aH 9 ?_;refine aH 10 ?_;refine aH 11 ?_;refine aH 12 ?_;refine aH 13 ?_;refine aH 14 ?_;refine aH 15 ?_;refine aH 16 ?_;refine rD 17 rfl (dZ aU rfl rfl rfl (λX h=>hlk X h)) ?_;refine aH 18 ?_;refine aH 19 ?_;refine aH 20 ?_;refine aH 21 ?_;refine aH 22 ?_;refine aH 23 ?_;refine jY ?_;replace A0:=A0.keep hx;replace A1:=A1.keep hx;replace A2:=A2.keep hx;have hBx:Below w.heap.size w _:=Below.ay hB1 (ah _) hx;clear l0 aA aB bB lY wV wW zf zh zi zk l2 aN aO aP aQ aZ bq aX aY c44 Jj hlk;have agv:=Lib.hid (qw.out.keep hx);obtain⟨l0,aA,aB,bB⟩:=At.three A0
     go_upto_region 4 with(go_at_call 179;(with_reducible refine(Kr bk sk vf va ib i0 i1 _ agv.out).mono ?_);rintro e' w7 ⟨rfl,hb⟩;replace A1:=A1.keep hb;replace A2:=A2.keep hb;obtain⟨l3,bL,bM⟩:=At.two A2;have zT:=A2.thaw 0)
     generalize hW:World.setCell _ _ _=W8;replace A2:At W8 T (.cells #[.int .i64 (Fw.X9 sk i0),.int .i64 (-1)] 108):=hW▸At.set A2 0 _;replace A1:At W8 (w.heap.size+1) (.cells #[.int .i64 0,.int .i64 0] 108):=hW▸At.off A1 hnT _ _;have hB9:Below w.heap.size w W8:=by
      rw[<-hW];exact Below.setCell (Below.ay hBx (ah _) hb) hgT _
     clear hW zT l3 bL bM l0 aA aB bB hb;obtain⟨l3,bL,bM⟩:=At.two A2;obtain⟨l4,fA,fB⟩:=At.two A1;have iQ:=A1.thaw 0;have iR:=A1.thaw 1;have lw:w.heap.size+1<w.heap.size+1+1:=by omega
     go_wp2;generalize hW:World.setCell _ _ _=W6;replace A1:At W6 (w.heap.size+1) (.cells #[.int .i64 (Fw.X9 sk i0),.int .i64 (-1)] 108):=hW▸At.set (At.set A1 0 _) 1 _;have ED:Below w.heap.size w W6:=by
      rw[<-hW];exact Below.setCell (Below.setCell hB9 (Nat.le_succ _) _) (Nat.le_succ _) _
     exact Z2u
end
def wI(l:List Fw.Ld):List Value:=l.flatMap λx=>(eF x).toList
theorem Gg(l:List Fw.Ld)(x:Fw.Ld):wI (l++[x])=wI l++(eF x).toList:=by simp[wI]
theorem Vt(l:List Fw.Ld):∀i (h:i<l.length) j,j<7->(wI l)[i*7+j]? = (eF l[i])[j]? := by
 induction l with
 | nil=>intro i h;simp at h
 | cons x l ih =>
   intro i h j hj;have e:wI (x::l)=(eF x).toList++wI l:=rfl;rw[e];cases i with
   | zero =>
     rw[List.getElem?_append_left (by simp[eF];omega),Array.getElem?_toList];simp
   | succ i =>
     rw[List.getElem?_append_right (by simp[eF];omega)];have e2:(i+1)*7+j-(eF x).toList.length=i*7+j:=by simp[eF];omega
     rw[e2,ih i (by simpa using h) j hj];rfl
theorem Rx{W:World}{base:Nat}{v:Value}{l:List Fw.Ld}(x:Fw.Ld)(hown:W.ownsRow base 114 7 v l.length (wI l))(hbase:base<=W.heap.size)(hk:l.length<=10000) :
  ∃g c w',(Builtin.append_ #[196,196] 196 #[v,.slice (some ⟨W.heap.size,0,none⟩) 1 1]).run Tryz.prog (W.alloc (.cells (eF x) 114))=.ok (.slice (some ⟨g,0,none⟩) (l.length+1) c) w'/\w'.ownsRow base 114 7 (.slice (some ⟨g,0,none⟩) (l.length+1) c) (l++[x]).length (wI (l++[x]))/\Out (λb=>v.ownBlock=some b) (W.alloc (.cells (eF x) 114)) w':=by
 obtain⟨i0,hi0,hz0,hz1,hz2⟩:=info_parts NK;have hA:=At.new W (.cells (eF x) 114)
 obtain⟨v',w',hr,ho,hg,_,_⟩:=run_append_own_at (P:=Tryz.prog) (w:=W.alloc (.cells (eF x) 114)) base 196 196 114 i0 _ 7 56 Tryz.underlying196 hi0 hz0 hz1 hz2 rfl aG v l.length _ (hown.alloc _) ⟨W.heap.size,0,none⟩ 1 1 (eF x).toList rfl
  (by intro j u hj
      rw[addr_add,Nat.zero_add,hA.cell,<-hj,Array.getElem?_toList])
  (o8 x) OZ ak jH
 obtain⟨g,c,rfl⟩:=ownsRow_succ ho;refine⟨g,c,w',hr,?_,Out.grown hg λb h=>h⟩;rw[Gg,List.length_append];exact ho
theorem K6{w:World}{base:Nat}{v:Value}{l:List Fw.Ld}(h:w.ownsRow base 114 7 v l.length (wI l))(hl:l≠[]):∃R cap cs,v=.slice (some ⟨R,0,none⟩) l.length cap/\v.ownBlock=some R/\base<=R/\At w R (.cells cs 114)/\oL cs l:=by
 rcases h.2 with⟨rfl,h0⟩|⟨g,cap,cur,rfl,hb,hgb,hnc,hcm,hsz,htk⟩
 . exact absurd (List.length_eq_zero_iff.1 h0) hl
 . refine⟨g,cap,cur,rfl,rfl,hb,hgb,?_,λi hi j hj => ?_⟩
   . rw[hsz];exact Nat.mul_le_mul_right 7 hnc
   . have e:=Vt l i hi j hj
     rw[<-htk,List.getElem?_take,if_pos ak,Array.getElem?_toList]at e;exact e
theorem uq{ops:Array Oper}{rest:List Oper}{o:Oper}{a:Act}{Q:Exit->Act->World->Prop}{w:World}(hw:Region.wanted o (yielded ops a.tmps)=true)(x:Operand)(ho:o.op=.buildSlice 196 1 #[(0,x)]){y:Fw.Ld}(hx:a.eval x=.agg (eF y))
  (h:wpList Tryz.prog ops Q rest (a.put o.dst (.slice (some ⟨w.heap.size,0,none⟩) 1 1)) (w.alloc (.cells (eF y) 114))):wpList Tryz.prog ops Q (o::rest) a w:=by
 have hrun:(execOp a.eval o).run Tryz.prog w=.ok (.value (.slice (some ⟨w.heap.size,0,none⟩) 1 1)) (w.alloc (.cells (eF y) 114)):=by
  unfold execOp;simp only[ho];generalize a.eval=ev at *;unfold eF at hx ⊢;go_simp
 exact Z3b
theorem N7{r:Int}{e e':Nat->Int}{n:Nat}(h:∀i,i<n->e i=e' i):pQ r e n=pQ r e' n:=by
 induction n with
 | zero=>rfl
 | succ n ih=>simp only[pQ];rw[ih λi hi=>h i ak,h n ak]
theorem Gh(h:Int->Int)(r:Int)(l:List Int):l.foldl (λa k=>Fw.wr (a-h k)) r=pQ r (λi=>h (l.getD i 0)) l.length:=by
 have key:∀n,n<=l.length->(l.take n).foldl (λa k=>Fw.wr (a-h k)) r=pQ r (λi=>h (l.getD i 0)) n:=by
  intro n
  induction n with
  | zero=>intro _;rfl
  | succ n ih =>
    intro hn;have hn':n<l.length:=hn;rw[List.take_succ_eq_append_getElem hn',List.foldl_append,ih ak];simp[pQ,List.getD,List.getElem?_eq_getElem hn']
 have:=key l.length (ah _)
 rwa [List.take_length]at this
def Gi(B:Int->Fw.Bx)(f:Nat)(z i0 i1 k:Int):Fe.It:=Fw.SF (B k).sty 1 (Fw.wr ((Fw.lay B f k i0 i1 (Fw.gY B z i0 k) (-1)).s1-Fw.nR (B k).sty 1)) i1
def SN(B:Int->Fw.Bx)(f:Nat)(z i0 i1:Int)(x:Im):Im:={ x with it:=Gi B f z i0 i1 x.ld.id,ld:=Fw.lay B f x.ld.id i0 i1 (Fw.gY B z i0 x.ld.id) (-1) }
def XC(B:Int->Fw.Bx)(f:Nat)(z i0 i1:Int)(sz:List Int)(i:Nat)(x:Im):Im:={ x with ld:=Fw.lay B f x.ld.id i0 i1 (Fw.gY B z i0 x.ld.id) (Fw.wr (sz.getD i 0+Fw.nR (B x.ld.id).sty 1)) }
def clE(al i0:Int)(st:List Int)(i:Nat)(x:Im):Fw.Ld:={ x.ld with a0:=Fw.wr (Ju.across al (Ah x) i0+x.m0),a1:=Fw.wr (st.getD i 0+x.m2) }
def clS(B:Int->Fw.Bx)(f:Nat)(z i0 i1:Int)(fl:List Int):List Int:=yI (λi=>Gi B f z i0 i1 (fl.getD i 0)) (λi=>Fw.FX B i0 1 (fl.getD i 0)) fl.length i1 ((B z).sty.c 46)
theorem K8(B:Int->Fw.Bx)(i0 r gap:Int)(it:Int->Fe.It)(fl:List Int):yI (λi=>it (fl.getD i 0)) (λi=>Fw.FX B i0 1 (fl.getD i 0)) fl.length r gap=if r ≠ -1/\fl.length<=64 then Fw.mM B i0 r gap 1 it fl else fl.map λk=>Fe.clamp (it k) (it k).b:=by
 unfold yI Fw.mM Fw.left;split
 . rw[Gh];rfl
 . unfold Ju.row
   exact List.ext_getElem eY λi h1 h2=>by
    have h3:i<fl.length:=by simpa using h2
    simp[List.getD,List.getElem?_eq_getElem h3]
theorem EZ(Y:rV)(B:Int->Fw.Bx)(f:Nat)(z i0 i1:Int)(fl:List Int)(hfl:(B z).fl=fl)(sz:List Int)(hsz:clS B f z i0 i1 fl=sz)(zs:List Im)(hzs:((iw Y B i0 fl).map (SN B f z i0 i1)).mapIdx (XC B f z i0 i1 sz)=zs)(high:Int)(hh:Li.long ((B z).sty.c 46) (oK zs)=high) :
  Fw.mo B (Fw.lay B f) z i0 i1=(zs.mapIdx (clE ((B z).sty.c 44) i0 (Ju.row (Ju.starts ((B z).sty.c 43) (if i1 = -1 then high else i1) ((B z).sty.c 46) (oK zs)) zs.length)),high):=by
 unfold Fw.mo;simp only[hfl];have e1:=K8 B i0 i1 ((B z).sty.c 46) (Gi B f z i0 i1) fl;have e2:clS B f z i0 i1 fl=_:=e1;rw[hsz]at e2;have e3:(if i1 ≠ -1/\fl.length<=64 then Fw.mM B i0 i1 ((B z).sty.c 46) 1 (λk=>Fw.SF (B k).sty 1 (Fw.wr ((Fw.lay B f k i0 i1 (Fw.gY B z i0 k) (-1)).s1-Fw.nR (B k).sty 1)) i1) fl else fl.map λk=>Fe.clamp ((λk=>Fw.SF (B k).sty 1 (Fw.wr ((Fw.lay B f k i0 i1 (Fw.gY B z i0 k) (-1)).s1-Fw.nR (B k).sty 1)) i1) k) ((λk=>Fw.SF (B k).sty 1 (Fw.wr ((Fw.lay B f k i0 i1 (Fw.gY B z i0 k) (-1)).s1-Fw.nR (B k).sty 1)) i1) k).b)=sz:=e2.symm;simp only[]at e3 ⊢;rw[e3];have hlen:zs.length=fl.length:=by rw[<-hzs];simp[iw]
 have hget:∀i (h:i<zs.length) (h':i<fl.length),zs[i]=XC B f z i0 i1 sz i (SN B f z i0 i1 (vE Y B i0 fl[i])):=λi h h'=>by
  subst hzs;simp[iw]
 have hlong:(fl.mapIdx λi k=>Fw.lay B f k i0 i1 (Fw.gY B z i0 k) (Fw.wr (sz.getD i 0+Fw.nR (B k).sty 1))).map (Fw.wC B i0 1)=oK zs:=by
  unfold oK
  exact List.ext_getElem (by simp[hlen]) λi h1 h2=>by
   have h3:i<fl.length:=by simpa using h1
   have h4:i<zs.length:=by rw[hlen];exact h3
   simp only[List.getElem_map,List.getElem_mapIdx];rw[hget i h4 h3];rfl
 rw[hlong,hh];congr 1
 exact List.ext_getElem (by simp[hlen]) λi h1 h2=>by
  have h3:i<fl.length:=by simpa using h1
  have h4:i<zs.length:=by rw[hlen];exact h3
  simp only[List.getElem_mapIdx];rw[hget i h4 h3];unfold clE;rw[Ju.Hl _ h4];rfl
theorem Vu{B:Int->Fw.Bx}{f:Nat}{l l':List Im}(h:l.map (·.ld.id)=l'.map (·.ld.id))(k:Nat):jd B f l k=jd B f l' k:=by
 unfold jd;have e:∀m:List Im,(m.take k).map (λx=>Fw.cst B f x.ld.id)=((m.map (·.ld.id)).take k).map (Fw.cst B f):=λm=>by rw[<-List.map_take,List.map_map];rfl
 rw[e,e,h]
section
variable {Y:rV} {B:Int->Fw.Bx} {F:Int->Nat} {D:Int->Prop} {f:Nat}
theorem PW{i0 k:Int}(hd:D k)(hf:F k=f):KQ Y B D F f i0 (vE Y B i0 k):=⟨hd,hf,rfl,rfl,rfl,rfl,rfl⟩
theorem ZC{z i0 i1:Int}{x:Im}(h:KQ Y B D F f i0 x):KQ Y B D F f i0 (SN B f z i0 i1 x):=⟨h.d,h.f,h.bx,h.m0,h.m1,h.m2,h.m3⟩
theorem ZE{z i0 i1:Int}{sz:List Int}{x:Im}(i:Nat)(h:KQ Y B D F f i0 x):KQ Y B D F f i0 (XC B f z i0 i1 sz i x):=⟨h.d,h.f,h.bx,h.m0,h.m1,h.m2,h.m3⟩
end
end Go.Proofs.YtcbcfdihofclkaaGreat.Fix
namespace Go.Proofs.YtcbcfdihofclkaaGreat.Fe
theorem ad7{S T:Nat->St}{n:Nat}(h:∀i,i<n->S i=T i):∀k,k<=n->pl S k=pl T k:=by
 intro k
 induction k with
 | zero=>intro _;rfl
 | succ k ih=>intro hk;simp only[pl];rw[ih ak,h k ak]
theorem ad8{S T:Nat->St}{n:Nat}(gr:Bool)(h:∀i,i<n->S i=T i):∀k,k<=n->ws gr S k=ws gr T k:=by
 intro k
 induction k with
 | zero=>intro _;rfl
 | succ k ih=>intro hk;simp only[ws];rw[ih ak,h k ak]
theorem ZF{S T:Nat->St}{n:Nat}(room:Int)(h:∀i,i<n->S i=T i):∀k,k<=n->left room S k=left room T k:=by
 intro k
 induction k with
 | zero=>intro _;rfl
 | succ k ih=>intro hk;simp only[left];rw[ih ak,h k ak]
theorem ZG{S T:Nat->St}{n:Nat}(h:∀i,i<n->S i=T i):∀k,k<=n->made S k=made T k:=by
 intro k
 induction k with
 | zero=>intro _;rfl
 | succ k ih=>intro hk;simp only[made];rw[ih ak,h k ak]
theorem ZH{l l':Nat->It}{n:Nat}(h:∀i,i<n->l i=l' i):∀k,k<=n->x8 l k=x8 l' k:=by
 intro k
 induction k with
 | zero=>intro _;rfl
 | succ k ih=>intro hk;simp only[x8];rw[ih ak,h k ak]
theorem Vv{S T:Nat->St}{n:Nat}(gr:Bool)(room:Int)(h:∀i,i<n->S i=T i):∀i,i<n->round gr room n S i=round gr room n T i:=by
 have h1:∀i,i<n->shared gr room n S i=shared gr room n T i:=by
  intro i hi;unfold shared fO parts free want;rw[ZF room h n (ah _),ad8 gr h n (ah _),ad7 h i ak,h i hi]
 intro i hi;unfold round froze;rw[ZG h1 n (ah _),h1 i hi]
theorem Ry{S T:Nat->St}{n:Nat}(gr:Bool)(room:Int)(h:∀i,i<n->S i=T i)(k:Nat):∀i,i<n->rounds gr room n S k i=rounds gr room n T k i:=by
 induction k with
 | zero=>exact h
 | succ k ih=>exact Vv gr room ih
theorem ab6{l l':Nat->It}{n:Nat}(room:Int)(h:∀i,i<n->l i=l' i):∀i,i<n->fin l n room i=fin l' n room i:=by
 have hg:x9 l n room=x9 l' n room:=by unfold x9;rw[ZH h n (ah _)]
 intro i hi;unfold fin;rw[hg];exact Ry _ _ (λi hi=>by unfold begun;rw[h i hi]) n i hi
end Go.Proofs.YtcbcfdihofclkaaGreat.Fe
namespace Go.Proofs.YtcbcfdihofclkaaGreat.Fix
open Go.ChangeShapes Go.WideShapes Go.ChangeAt Go.RowKit
theorem E5{l l':Nat->Fe.It}{n:Nat}(x:Int)(h:∀i,i<n->l i=l' i):mD l n x=mD l' n x:=by
 unfold mD;exact List.map_congr_left λi hi=>by rw[Fe.ab6 _ h i (by simpa using hi)]
def ZI(Y:rV)(B:Int->Fw.Bx)(i0 k:Int):Im:={ vE Y B i0 k with it:=Fw.nS B i0 k }
theorem Rz(Y:rV)(B:Int->Fw.Bx)(i0 gap:Int)(ks:List Int):lnS B i0 gap (ks.map (ZI Y B i0))=Fw.mM B i0 i0 gap 0 (Fw.nS B i0) ks:=by
 unfold lnS Fw.mM Fw.left;rw[Gh,List.length_map];have hg:∀i,i<ks.length->(ks.map (ZI Y B i0)).getD i default=ZI Y B i0 (ks.getD i 0):=λi h=>by simp[List.getD,List.getElem?_eq_getElem h]
 rw[N7 (e':=λi=>Fw.FX B i0 0 (ks.getD i 0)) λi h=>by rw[hg i h];rfl];exact E5 _ λi h=>by rw[hg i h];rfl
theorem E8(Y:rV)(B:Int->Fw.Bx)(f:Nat)(z i0 i1 high:Int)(ks:List Int)(s:Re.St)(hs:(B z).sty=s)(xs1 xs2:List Im)(deep:Int)(h1:DN B f s i0 i1 high (ks.map (ZI Y B i0))=xs1)(h2:IB high xs1=deep)(h3:tK B f s i0 i1 deep xs1=xs2) :
  Fw.jw B (Fw.lay B f) z i0 i1 high ks=((tL s i0 deep xs2).map (·.ld),deep):=by
 unfold Fw.jw;simp only[hs];unfold DN at h1;rw[Rz]at h1;obtain⟨sz,hsz⟩:∃l,Fw.mM B i0 i0 (s.c 46) 0 (Fw.nS B i0) ks=l:=⟨_,rfl⟩;rw[hsz]at h1 ⊢;have l1:xs1.length=ks.length:=by rw[<-h1];simp
 have g1:∀i (h:i<xs1.length) (h':i<ks.length),xs1[i]=XA B f i0 i1 sz i (ZI Y B i0 ks[i]):=λi h h'=>by subst h1;simp
 have e1:(ks.mapIdx λi k=>Fw.lay B f k i0 i1 (Fw.wr (sz.getD i 0+Fw.nR (B k).sty 0)) (-1))=xs1.map (·.ld):=List.ext_getElem (by simp[l1]) λi a b=>by
  have a':i<ks.length:=by simpa using a
  simp only[List.getElem_mapIdx,List.getElem_map];rw[g1 i (by rw[l1];exact a') a'];rfl
 rw[e1]
 have m1:∀x∈xs1,x.m0=Fw.mg (B x.ld.id).sty 0 0 i0/\x.m1=Fw.mg (B x.ld.id).sty 0 1 i0/\x.m2=Fw.mg (B x.ld.id).sty 1 0 i0/\x.m3=Fw.mg (B x.ld.id).sty 1 1 i0:=λx hx=>by
  obtain⟨i,hi,rfl⟩:=List.getElem_of_mem hx;rw[g1 i hi ak];exact⟨rfl,rfl,rfl,rfl⟩
 have o1:∀x:Im,(x.m0=Fw.mg (B x.ld.id).sty 0 0 i0/\x.m1=Fw.mg (B x.ld.id).sty 0 1 i0/\x.m2=Fw.mg (B x.ld.id).sty 1 0 i0/\x.m3=Fw.mg (B x.ld.id).sty 1 1 i0)->Ah x=Fw.wC B i0 0 x.ld/\Ai x=Fw.wC B i0 1 x.ld/\ext1 x (B x.ld.id).sty=Fw.FX B i0 1 x.ld.id:=λx ⟨q0,q1,q2,q3⟩=>by
  unfold Ah Ai ext1 Fw.wC Fw.FX Fw.X8;rw[q0,q1,q2,q3];exact⟨rfl,rfl,rfl⟩
 have e2:(if high = -1 then ((xs1.map (·.ld)).map (Fw.wC B i0 1)).foldl max 0 else high)=deep:=by
  rw[<-h2];unfold IB oK;congr 2;rw[List.map_map];exact List.map_congr_left λx hx=>((o1 x (m1 x hx)).2.1).symm
 rw[e2];have e3:(if s.c 44=0 then (xs1.map (·.ld)).map (λx=>if Fw.GZ (B x.id).sty 1 i1=true then x else Fw.lay B f x.id i0 i1 x.s0 (Fw.wr (Fw.lim (B x.id).sty 1 (max (Fw.wr (deep-Fw.FX B i0 1 x.id)) 0) i1+Fw.nR (B x.id).sty 1)))else xs1.map (·.ld))=xs2.map (·.ld):=by
  rw[<-h3];unfold tK;split
  . rw[List.map_map,List.map_map]
    refine List.map_congr_left λx hx => ?_;simp only[Function.comp];unfold Bu;have q:=(o1 x (m1 x hx)).2.2;by_cases hfx:Fx.mX ((B x.ld.id).sty.c 5) i1=true
    . rw[if_pos hfx,if_pos (show Fw.GZ (B x.ld.id).sty 1 i1=true from hfx)]
    . rw[if_neg hfx,if_neg (show¬ Fw.GZ (B x.ld.id).sty 1 i1=true from hfx),q]
      rfl
  . rfl
 rw[e3]
 have m2:∀x∈xs2,x.m0=Fw.mg (B x.ld.id).sty 0 0 i0/\x.m1=Fw.mg (B x.ld.id).sty 0 1 i0/\x.m2=Fw.mg (B x.ld.id).sty 1 0 i0/\x.m3=Fw.mg (B x.ld.id).sty 1 1 i0:=λx hx=>by
  rw[<-h3]at hx;unfold tK at hx;split at hx
  . obtain⟨y,hy,rfl⟩:=List.mem_map.1 hx
    have:=m1 y hy;unfold Bu;split
    . exact this
    . exact this
  . exact m1 x hx
 have e4:(xs2.map (·.ld)).map (Fw.wC B i0 0)=uj xs2:=by
  unfold uj;rw[List.map_map];exact List.map_congr_left λx hx=>((o1 x (m2 x hx)).1).symm
 rw[e4];congr 1;unfold tL
 exact List.ext_getElem eY λi a b=>by
  have a':i<xs2.length:=by simpa using a
  simp only[List.getElem_mapIdx,List.getElem_map];have q:=m2 xs2[i] (List.getElem_mem _);have o:=o1 _ q;unfold lnB;simp only[];rw[Ju.Hl _ a',o.2.1,q.1,q.2.2.1]
theorem E9{B:Int->Fw.Bx}{lay:Int->Int->Int->Int->Int->Fw.Ld}{z i0 i1 high:Int}{fl:List Int}{fst:Bool}{y:Int}{p:Nat×Nat}{ps:List (Nat×Nat)}{out:List Fw.Ld}{tot:List Fw.Ld×Int}(h:tot=(out++(Fw.cu B lay z i0 i1 high fl fst y (p::ps)).1,(Fw.cu B lay z i0 i1 high fl fst y (p::ps)).2))
  {y1:Int} (hy:(if fst=true then y else Fw.wr (y+(B z).sty.c 46))=y1) {l:List Fw.Ld} {d:Int} (hl:Fw.jw B lay z i0 i1 high ((fl.drop p.1).take (p.2-p.1))=(l,d)) :
  tot=((out++l.map (λx=>{ x with a1:=Fw.wr (x.a1+y1) }))++(Fw.cu B lay z i0 i1 high fl false (Fw.wr (y1+d)) ps).1,(Fw.cu B lay z i0 i1 high fl false (Fw.wr (y1+d)) ps).2):=by
 rw[h];simp only[Fw.cu,hy,hl,List.append_assoc]
theorem IJ{B:Int->Fw.Bx}{lay:Int->Int->Int->Int->Int->Fw.Ld}{z i0 i1 high:Int}{fl:List Int}{fst:Bool}{y:Int}:Fw.cu B lay z i0 i1 high fl fst y []=([],y):=rfl
theorem fu.front{cs:Array Value}{q n:Nat}{l:List Im}(h:fu cs q l)(hn:n<=l.length):fu cs q (l.take n):=by
 refine⟨by have:=h.1;rw[List.length_take];omega,λi hi j hj => ?_⟩;have hi2:i<l.length:=by rw[List.length_take]at hi;omega
 rw[List.getElem_take];exact h.2 i hi2 j hj
theorem fu.rest{cs cs':Array Value}{q n:Nat}{l:List Im}(h:fu cs q l)(hs:jV q n cs cs')(hn:n<=l.length):fu cs' (q+n*17) (l.drop n):=by
 refine⟨by have:=h.1;have:=hs.1;rw[List.length_drop];omega,λi hi j hj => ?_⟩;have hi2:n+i<l.length:=by rw[List.length_drop]at hi;omega
 rw[List.getElem_drop,hs.2 _ (.inr ak),show q+n*17+i*17+j=q+(n+i)*17+j by omega];exact h.2 (n+i) hi2 j hj
theorem N8{W:World}{base:Nat}{v:Value}{l:List Fw.Ld}(x:Fw.Ld)(hown:W.ownsRow base 114 7 v l.length (wI l))(hbase:base<=W.heap.size)(hk:l.length<=10000) :
  ∃g c w',(Builtin.append_ #[196,196] 196 #[v,.slice (some ⟨W.heap.size,0,none⟩) 1 1]).run Tryz.prog (W.alloc (.cells (eF x) 114))=.ok (.slice (some ⟨g,0,none⟩) (l.length+1) c) w'/\w'.ownsRow base 114 7 (.slice (some ⟨g,0,none⟩) (l.length+1) c) (l++[x]).length (wI (l++[x]))/\Out (λb=>v.ownBlock=some b) (W.alloc (.cells (eF x) 114)) w'/\(v.ownBlock=some g\/W.heap.size<=g):=by
 obtain⟨i0,hi0,hz0,hz1,hz2⟩:=info_parts NK;have hA:=At.new W (.cells (eF x) 114)
 obtain⟨v',w',hr,ho,hg,_,hblk⟩:=run_append_own_at (P:=Tryz.prog) (w:=W.alloc (.cells (eF x) 114)) base 196 196 114 i0 _ 7 56 Tryz.underlying196 hi0 hz0 hz1 hz2 rfl aG v l.length _ (hown.alloc _) ⟨W.heap.size,0,none⟩ 1 1 (eF x).toList rfl
  (by intro j u hj
      rw[addr_add,Nat.zero_add,hA.cell,<-hj,Array.getElem?_toList])
  (o8 x) OZ ak jH
 obtain⟨g,c,rfl⟩:=ownsRow_succ ho;refine⟨g,c,w',hr,?_,Out.grown hg λb h=>h,?_⟩
 . rw[Gg,List.length_append]
   exact ho
 . rcases hblk with h|h
   . exact .inl h.symm
   . right
     have e:g=W.heap.size+1:=by simpa[Value.ownBlock]using h
     omega
end Go.Proofs.YtcbcfdihofclkaaGreat.Fix
namespace Go.Proofs.YtcbcfdihofclkaaGreat.aj
open Go Fix
section
variable {P:Program} {ops:Array Oper} {Q:Exit->Act->World->Prop} {md:Region.Mode} {S:World->Prop} {m:Nat}
theorem yJ{i j k:Nat}{o o2 o3:Oper}{fuel:Nat}{listed:Array Bool}{a:Act}{w:World}(hr:Region.ready md ops listed=[i,j,k])(hi0:ops.toList[i]? = some o)(hj0:ops.toList[j]? = some o2)(hk0:ops.toList[k]? = some o3)(hw:Region.wanted o (yielded ops a.tmps)=true)(hw2:Region.wanted o2 (yielded ops a.tmps)=true)(hw3:Region.wanted o3 (yielded ops a.tmps)=true)
  (h:Step P (λu w'=>(i<m->S w')/\aV P md ops Q S m fuel (listed.setIfInBounds i true) (a.put o.dst u) w') ((execOp a.eval o).run P w))
  (h2:Step P (λu w'=>(j<m->S w')/\aV P md ops Q S m fuel (listed.setIfInBounds j true) (a.put o2.dst u) w') ((execOp a.eval o2).run P w))
  (h3:Step P (λu w'=>(k<m->S w')/\aV P md ops Q S m fuel (listed.setIfInBounds k true) (a.put o3.dst u) w') ((execOp a.eval o3).run P w)):aV P md ops Q S m (fuel+1) listed a w :=
 ⟨by rw[hr];simp,λq hq=>by
  rw[hr]at hq;rcases(show q=i\/q=j\/q=k by simpa using hq)with rfl|rfl|rfl
  . exact⟨o,mq hi0,.inl ⟨hw,h⟩⟩
  . exact⟨o2,mq hj0,.inl ⟨hw2,h2⟩⟩
  . exact⟨o3,mq hk0,.inl ⟨hw3,h3⟩⟩⟩
theorem Vw{i j k q:Nat}{o o2 o3 o4:Oper}{fuel:Nat}{listed:Array Bool}{a:Act}{w:World}(hr:Region.ready md ops listed=[i,j,k,q])(hi0:ops.toList[i]? = some o)(hj0:ops.toList[j]? = some o2)(hk0:ops.toList[k]? = some o3)(hq0:ops.toList[q]? = some o4)(hw:Region.wanted o (yielded ops a.tmps)=true)(hw2:Region.wanted o2 (yielded ops a.tmps)=true)(hw3:Region.wanted o3 (yielded ops a.tmps)=true)(hw4:Region.wanted o4 (yielded ops a.tmps)=true)
  (h:Step P (λu w'=>(i<m->S w')/\aV P md ops Q S m fuel (listed.setIfInBounds i true) (a.put o.dst u) w') ((execOp a.eval o).run P w))
  (h2:Step P (λu w'=>(j<m->S w')/\aV P md ops Q S m fuel (listed.setIfInBounds j true) (a.put o2.dst u) w') ((execOp a.eval o2).run P w))
  (h3:Step P (λu w'=>(k<m->S w')/\aV P md ops Q S m fuel (listed.setIfInBounds k true) (a.put o3.dst u) w') ((execOp a.eval o3).run P w))
  (h4:Step P (λu w'=>(q<m->S w')/\aV P md ops Q S m fuel (listed.setIfInBounds q true) (a.put o4.dst u) w') ((execOp a.eval o4).run P w)):aV P md ops Q S m (fuel+1) listed a w :=
 ⟨by rw[hr];simp,λp hp=>by
  rw[hr]at hp;rcases(show p=i\/p=j\/p=k\/p=q by simpa using hp)with rfl|rfl|rfl|rfl
  . exact⟨o,mq hi0,.inl ⟨hw,h⟩⟩
  . exact⟨o2,mq hj0,.inl ⟨hw2,h2⟩⟩
  . exact⟨o3,mq hk0,.inl ⟨hw3,h3⟩⟩
  . exact⟨o4,mq hq0,.inl ⟨hw4,h4⟩⟩⟩
end
end Go.Proofs.YtcbcfdihofclkaaGreat.aj
namespace Go.Proofs.YtcbcfdihofclkaaGreat.Fix
open Go.ChangeShapes Go.WideShapes Go.ChangeAt Go.RowKit
set_option maxHeartbeats 8000000 in
theorem La(ww wh:Int)(w:World):Calls Tryz.prog 59 #[.agg #[.int .i64 ww,.int .i64 wh]] w λe w'=>(∃lb bm km pm rm,e=.returned (.pointer (some ⟨lb,0,none⟩))/\(w.heap.size<=lb/\w.heap.size<=bm/\w.heap.size<=km/\w.heap.size<=pm/\w.heap.size<=rm)/\(lb≠bm/\lb≠km/\lb≠pm/\lb≠rm/\bm≠km/\bm≠pm/\bm≠rm/\km≠pm/\km≠rm/\pm≠rm) /\
  At w' lb (.cells #[.int .i64 ww,.int .i64 wh,.map (some bm),.map (some km),.map (some pm),.map (some rm)] 120)/\GM 3 w' bm 0 (λ_=>none)/\mW w' km/\GM 112 w' pm 0 (λ_=>none)/\GM 3 w' rm 0 (λ_=>none))/\Below w.heap.size w w':=by
 have hmm:=@run_makeMap Tryz.prog;go_enter Tryz.func59,Tryz.ntmps59
 go_upto_region 1 with(fail)
 have A0:At (w.alloc (.cells #[.int .i64 ww,.int .i64 wh] 108)) w.heap.size (.cells #[.int .i64 ww,.int .i64 wh] 108):=At.new _ _;have hB1:Below w.heap.size w (w.alloc (.cells #[.int .i64 ww,.int .i64 wh] 108)):=Below.alloc' (Below.refl _ _) _;generalize w.alloc (.cells #[.int .i64 ww,.int .i64 wh] 108)=w1 at *;obtain⟨l0,c00,Y0⟩:=At.two A0;have hBW:∀X,Below w1.heap.size w1 X->Below w.heap.size w X:=λX h=>Below.ay hB1 (ah _) h;have hws:=hB1.size
 refine aj.kg (λa0 a W5=>∃(lb bm km pm rm:Nat) (u3 u4 u5 u6 u7 u8 u9:Value),a={ a0 with tmps:=(((((((a0.tmps.setIfInBounds 3 u3).setIfInBounds 4 u4).setIfInBounds 5 u5).setIfInBounds 6 u6).setIfInBounds 7 u7).setIfInBounds 8 u8).setIfInBounds 9 u9).setIfInBounds 2 (.pointer (some ⟨lb,0,none⟩)) } /\
  (w1.heap.size<=lb/\w1.heap.size<=bm/\w1.heap.size<=km/\w1.heap.size<=pm/\w1.heap.size<=rm)/\(lb≠bm/\lb≠km/\lb≠pm/\lb≠rm/\bm≠km/\bm≠pm/\bm≠rm/\km≠pm/\km≠rm/\pm≠rm) /\
  At W5 lb (.cells #[.int .i64 ww,.int .i64 wh,.map (some bm),.map (some km),.map (some pm),.map (some rm)] 120)/\GM 3 W5 bm 0 (λ_=>none)/\mW W5 km/\GM 112 W5 pm 0 (λ_=>none)/\GM 3 W5 rm 0 (λ_=>none)/\Below w1.heap.size w1 W5) ?_ ?_
 . refine kQ (S:=Below w1.heap.size w1) 8 ?_ ?_
   . exact(Below.refl _ _).drew
   intro hx;refine aH 0 ?_;clear l0 c00 Y0 hBW hws hB1 A0;generalize w1.drew=W0 at *;refine aj.Vw (i:=1) (j:=2) (k:=3) (q:=4) fV rfl rfl rfl rfl aU aU aU aU ?_ ?_ ?_ ?_
   . refine aj.Step.value (u:=.map (some W0.heap.size)) (w':=W0.alloc (.map #[] 0)) dQ ?_
     obtain⟨cZ,bA,Gb,hb,dB⟩:∃w9,w9=W0.alloc (.map #[] 0)/\GM 3 w9 W0.heap.size 0 (λ_=>none)/\Below W0.heap.size W0 w9/\W0.heap.size<w9.heap.size:=⟨_,rfl,GM.made _ _,Below.alloc' (Below.refl _ _) _,by simp⟩;rw[<-bA];clear bA;obtain⟨mb,hmb⟩:∃q,W0.heap.size=q:=⟨_,rfl⟩;rw[hmb]at Gb;rw[hmb];have gb:W0.heap.size<=mb:=Nat.le_of_eq hmb;have lb:mb<cZ.heap.size:=hmb▸dB;clear hmb dB;replace gb:w1.heap.size<=mb:=by have:=hx.size;omega
     replace hx:=Below.ay hx (ah _) hb;clear hb;refine⟨λ_=>hx,?_⟩
     (try simp only[bF,bG,bH,tks])
     refine aj.yJ (i:=2) (j:=3) (k:=4) fV rfl rfl rfl aU aU aU ?_ ?_ ?_
     . refine aj.Step.call dQ (jI _) ?_
       rintro e bQ ⟨⟨mk,rfl,gk,Gk⟩,hb⟩;have lk:mk<bQ.heap.size:=by obtain⟨_,_,q,_⟩:=Gk;exact q.lt
       have XL:mb<mk:=by omega
       replace Gb:=Gb.keep hb;replace lb:mb<bQ.heap.size:=by have:=hb.size;omega
       replace gk:w1.heap.size<=mk:=by have:=hx.size;omega
       replace hx:=Below.ay hx (ah _) hb;clear hb;refine⟨_,rfl,λ_=>hx,?_⟩;exact Zn
     . refine aj.Step.value (u:=.map (some cZ.heap.size)) (w':=cZ.alloc (.map #[] 0)) dQ ?_
       obtain⟨bQ,bA,Gp,hb,dB⟩:∃w9,w9=cZ.alloc (.map #[] 0)/\GM 112 w9 cZ.heap.size 0 (λ_=>none)/\Below cZ.heap.size cZ w9/\cZ.heap.size<w9.heap.size:=⟨_,rfl,GM.made _ _,Below.alloc' (Below.refl _ _) _,by simp⟩;rw[<-bA];clear bA;obtain⟨mp,hmp⟩:∃q,cZ.heap.size=q:=⟨_,rfl⟩;rw[hmp]at Gp;rw[hmp];have gp:cZ.heap.size<=mp:=Nat.le_of_eq hmp;have lp:mp<bQ.heap.size:=hmp▸dB;clear hmp dB;have Xn:mb<mp:=by omega
       replace Gb:=Gb.keep hb;replace lb:mb<bQ.heap.size:=by have:=hb.size;omega
       replace gp:w1.heap.size<=mp:=by have:=hx.size;omega
       exact Zs
     . refine aj.Step.value (u:=.map (some cZ.heap.size)) (w':=cZ.alloc (.map #[] 0)) dQ ?_
       obtain⟨bQ,bA,Gr,hb,dB⟩:∃w9,w9=cZ.alloc (.map #[] 0)/\GM 3 w9 cZ.heap.size 0 (λ_=>none)/\Below cZ.heap.size cZ w9/\cZ.heap.size<w9.heap.size:=⟨_,rfl,GM.made _ _,Below.alloc' (Below.refl _ _) _,by simp⟩;rw[<-bA];clear bA;obtain⟨mr,hmr⟩:∃q,cZ.heap.size=q:=⟨_,rfl⟩;rw[hmr]at Gr;rw[hmr];have gr:cZ.heap.size<=mr:=Nat.le_of_eq hmr;have lr:mr<bQ.heap.size:=hmr▸dB;clear hmr dB;have Xo:mb<mr:=by omega
       replace Gb:=Gb.keep hb;replace lb:mb<bQ.heap.size:=by have:=hb.size;omega
       replace gr:w1.heap.size<=mr:=by have:=hx.size;omega
       exact Zr
   . refine aj.Step.call dQ (jI _) ?_
     rintro e cZ ⟨⟨mk,rfl,gk,Gk⟩,hb⟩;have lk:mk<cZ.heap.size:=by obtain⟨_,_,q,_⟩:=Gk;exact q.lt
     replace gk:w1.heap.size<=mk:=by have:=hx.size;omega
     replace hx:=Below.ay hx (ah _) hb;clear hb;refine⟨_,rfl,λ_=>hx,?_⟩
     (try simp only[bF,bG,bH,tks])
     refine aj.yJ (i:=1) (j:=3) (k:=4) fV rfl rfl rfl aU aU aU ?_ ?_ ?_
     . refine aj.Step.value (u:=.map (some cZ.heap.size)) (w':=cZ.alloc (.map #[] 0)) dQ ?_
       obtain⟨bQ,bA,Gb,hb,dB⟩:∃w9,w9=cZ.alloc (.map #[] 0)/\GM 3 w9 cZ.heap.size 0 (λ_=>none)/\Below cZ.heap.size cZ w9/\cZ.heap.size<w9.heap.size:=⟨_,rfl,GM.made _ _,Below.alloc' (Below.refl _ _) _,by simp⟩;rw[<-bA];clear bA;obtain⟨mb,hmb⟩:∃q,cZ.heap.size=q:=⟨_,rfl⟩;rw[hmb]at Gb;rw[hmb];have gb:cZ.heap.size<=mb:=Nat.le_of_eq hmb;have lb:mb<bQ.heap.size:=hmb▸dB;clear hmb dB;have XL:mk<mb:=by omega
       replace Gk:=mW.keep _ _ _ Gk hb;replace lk:mk<bQ.heap.size:=by have:=hb.size;omega
       replace gb:w1.heap.size<=mb:=by have:=hx.size;omega
       replace hx:=Below.ay hx (ah _) hb;clear hb;refine⟨λ_=>hx,?_⟩;exact Zn
     . refine aj.Step.value (u:=.map (some cZ.heap.size)) (w':=cZ.alloc (.map #[] 0)) dQ ?_
       obtain⟨bQ,bA,Gp,hb,dB⟩:∃w9,w9=cZ.alloc (.map #[] 0)/\GM 112 w9 cZ.heap.size 0 (λ_=>none)/\Below cZ.heap.size cZ w9/\cZ.heap.size<w9.heap.size:=⟨_,rfl,GM.made _ _,Below.alloc' (Below.refl _ _) _,by simp⟩;rw[<-bA];clear bA;obtain⟨mp,hmp⟩:∃q,cZ.heap.size=q:=⟨_,rfl⟩;rw[hmp]at Gp;rw[hmp];have gp:cZ.heap.size<=mp:=Nat.le_of_eq hmp;have lp:mp<bQ.heap.size:=hmp▸dB;clear hmp dB;have Td:mk<mp:=by omega
       replace Gk:=mW.keep _ _ _ Gk hb;replace lk:mk<bQ.heap.size:=by have:=hb.size;omega
       replace gp:w1.heap.size<=mp:=by have:=hx.size;omega
       replace hx:=Below.ay hx (ah _) hb;clear hb;refine⟨λ_=>hx,?_⟩;exact Zp
     . refine aj.Step.value (u:=.map (some cZ.heap.size)) (w':=cZ.alloc (.map #[] 0)) dQ ?_
       obtain⟨bQ,bA,Gr,hb,dB⟩:∃w9,w9=cZ.alloc (.map #[] 0)/\GM 3 w9 cZ.heap.size 0 (λ_=>none)/\Below cZ.heap.size cZ w9/\cZ.heap.size<w9.heap.size:=⟨_,rfl,GM.made _ _,Below.alloc' (Below.refl _ _) _,by simp⟩;rw[<-bA];clear bA;obtain⟨mr,hmr⟩:∃q,cZ.heap.size=q:=⟨_,rfl⟩;rw[hmr]at Gr;rw[hmr];have gr:cZ.heap.size<=mr:=Nat.le_of_eq hmr;have lr:mr<bQ.heap.size:=hmr▸dB;clear hmr dB;have XK:mk<mr:=by omega
       replace Gk:=mW.keep _ _ _ Gk hb;replace lk:mk<bQ.heap.size:=by have:=hb.size;omega
       replace gr:w1.heap.size<=mr:=by have:=hx.size;omega
       replace hx:=Below.ay hx (ah _) hb;clear hb;refine⟨λ_=>hx,?_⟩;exact Zo
   . refine aj.Step.value (u:=.map (some W0.heap.size)) (w':=W0.alloc (.map #[] 0)) dQ ?_
     obtain⟨cZ,bA,Gp,hb,dB⟩:∃w9,w9=W0.alloc (.map #[] 0)/\GM 112 w9 W0.heap.size 0 (λ_=>none)/\Below W0.heap.size W0 w9/\W0.heap.size<w9.heap.size:=⟨_,rfl,GM.made _ _,Below.alloc' (Below.refl _ _) _,by simp⟩;rw[<-bA];clear bA;obtain⟨mp,hmp⟩:∃q,W0.heap.size=q:=⟨_,rfl⟩;rw[hmp]at Gp;rw[hmp];have gp:W0.heap.size<=mp:=Nat.le_of_eq hmp;have lp:mp<cZ.heap.size:=hmp▸dB;clear hmp dB;replace gp:w1.heap.size<=mp:=by have:=hx.size;omega
     replace hx:=Below.ay hx (ah _) hb;clear hb;refine⟨λ_=>hx,?_⟩
     (try simp only[bF,bG,bH,tks])
     refine aj.yJ (i:=1) (j:=2) (k:=4) fV rfl rfl rfl aU aU aU ?_ ?_ ?_
     . refine aj.Step.value (u:=.map (some cZ.heap.size)) (w':=cZ.alloc (.map #[] 0)) dQ ?_
       obtain⟨bQ,bA,Gb,hb,dB⟩:∃w9,w9=cZ.alloc (.map #[] 0)/\GM 3 w9 cZ.heap.size 0 (λ_=>none)/\Below cZ.heap.size cZ w9/\cZ.heap.size<w9.heap.size:=⟨_,rfl,GM.made _ _,Below.alloc' (Below.refl _ _) _,by simp⟩;rw[<-bA];clear bA;obtain⟨mb,hmb⟩:∃q,cZ.heap.size=q:=⟨_,rfl⟩;rw[hmb]at Gb;rw[hmb];have gb:cZ.heap.size<=mb:=Nat.le_of_eq hmb;have lb:mb<bQ.heap.size:=hmb▸dB;clear hmb dB;have Xn:mp<mb:=by omega
       replace Gp:=Gp.keep hb;replace lp:mp<bQ.heap.size:=by have:=hb.size;omega
       replace gb:w1.heap.size<=mb:=by have:=hx.size;omega
       exact Zs
     . refine aj.Step.call dQ (jI _) ?_
       rintro e bQ ⟨⟨mk,rfl,gk,Gk⟩,hb⟩;have lk:mk<bQ.heap.size:=by obtain⟨_,_,q,_⟩:=Gk;exact q.lt
       have Td:mp<mk:=by omega
       replace Gp:=Gp.keep hb;replace lp:mp<bQ.heap.size:=by have:=hb.size;omega
       replace gk:w1.heap.size<=mk:=by have:=hx.size;omega
       replace hx:=Below.ay hx (ah _) hb;clear hb;refine⟨_,rfl,λ_=>hx,?_⟩;exact Zp
     . refine aj.Step.value (u:=.map (some cZ.heap.size)) (w':=cZ.alloc (.map #[] 0)) dQ ?_
       obtain⟨bQ,bA,Gr,hb,dB⟩:∃w9,w9=cZ.alloc (.map #[] 0)/\GM 3 w9 cZ.heap.size 0 (λ_=>none)/\Below cZ.heap.size cZ w9/\cZ.heap.size<w9.heap.size:=⟨_,rfl,GM.made _ _,Below.alloc' (Below.refl _ _) _,by simp⟩;rw[<-bA];clear bA;obtain⟨mr,hmr⟩:∃q,cZ.heap.size=q:=⟨_,rfl⟩;rw[hmr]at Gr;rw[hmr];have gr:cZ.heap.size<=mr:=Nat.le_of_eq hmr;have lr:mr<bQ.heap.size:=hmr▸dB;clear hmr dB;have Jg:mp<mr:=by omega
       replace Gp:=Gp.keep hb;replace lp:mp<bQ.heap.size:=by have:=hb.size;omega
       replace gr:w1.heap.size<=mr:=by have:=hx.size;omega
       exact Zt
   . refine aj.Step.value (u:=.map (some W0.heap.size)) (w':=W0.alloc (.map #[] 0)) dQ ?_
     obtain⟨cZ,bA,Gr,hb,dB⟩:∃w9,w9=W0.alloc (.map #[] 0)/\GM 3 w9 W0.heap.size 0 (λ_=>none)/\Below W0.heap.size W0 w9/\W0.heap.size<w9.heap.size:=⟨_,rfl,GM.made _ _,Below.alloc' (Below.refl _ _) _,by simp⟩;rw[<-bA];clear bA;obtain⟨mr,hmr⟩:∃q,W0.heap.size=q:=⟨_,rfl⟩;rw[hmr]at Gr;rw[hmr];have gr:W0.heap.size<=mr:=Nat.le_of_eq hmr;have lr:mr<cZ.heap.size:=hmr▸dB;clear hmr dB;replace gr:w1.heap.size<=mr:=by have:=hx.size;omega
     replace hx:=Below.ay hx (ah _) hb;clear hb;refine⟨λ_=>hx,?_⟩
     (try simp only[bF,bG,bH,tks])
     refine aj.yJ (i:=1) (j:=2) (k:=3) fV rfl rfl rfl aU aU aU ?_ ?_ ?_
     . refine aj.Step.value (u:=.map (some cZ.heap.size)) (w':=cZ.alloc (.map #[] 0)) dQ ?_
       obtain⟨bQ,bA,Gb,hb,dB⟩:∃w9,w9=cZ.alloc (.map #[] 0)/\GM 3 w9 cZ.heap.size 0 (λ_=>none)/\Below cZ.heap.size cZ w9/\cZ.heap.size<w9.heap.size:=⟨_,rfl,GM.made _ _,Below.alloc' (Below.refl _ _) _,by simp⟩;rw[<-bA];clear bA;obtain⟨mb,hmb⟩:∃q,cZ.heap.size=q:=⟨_,rfl⟩;rw[hmb]at Gb;rw[hmb];have gb:cZ.heap.size<=mb:=Nat.le_of_eq hmb;have lb:mb<bQ.heap.size:=hmb▸dB;clear hmb dB;have Xo:mr<mb:=by omega
       replace Gr:=Gr.keep hb;replace lr:mr<bQ.heap.size:=by have:=hb.size;omega
       replace gb:w1.heap.size<=mb:=by have:=hx.size;omega
       exact Zr
     . refine aj.Step.call dQ (jI _) ?_
       rintro e bQ ⟨⟨mk,rfl,gk,Gk⟩,hb⟩;have lk:mk<bQ.heap.size:=by obtain⟨_,_,q,_⟩:=Gk;exact q.lt
       have XK:mr<mk:=by omega
       replace Gr:=Gr.keep hb;replace lr:mr<bQ.heap.size:=by have:=hb.size;omega
       replace gk:w1.heap.size<=mk:=by have:=hx.size;omega
       replace hx:=Below.ay hx (ah _) hb;clear hb;refine⟨_,rfl,λ_=>hx,?_⟩;exact Zo
     . refine aj.Step.value (u:=.map (some cZ.heap.size)) (w':=cZ.alloc (.map #[] 0)) dQ ?_
       obtain⟨bQ,bA,Gp,hb,dB⟩:∃w9,w9=cZ.alloc (.map #[] 0)/\GM 112 w9 cZ.heap.size 0 (λ_=>none)/\Below cZ.heap.size cZ w9/\cZ.heap.size<w9.heap.size:=⟨_,rfl,GM.made _ _,Below.alloc' (Below.refl _ _) _,by simp⟩;rw[<-bA];clear bA;obtain⟨mp,hmp⟩:∃q,cZ.heap.size=q:=⟨_,rfl⟩;rw[hmp]at Gp;rw[hmp];have gp:cZ.heap.size<=mp:=Nat.le_of_eq hmp;have lp:mp<bQ.heap.size:=hmp▸dB;clear hmp dB;have Jg:mr<mp:=by omega
       replace Gr:=Gr.keep hb;replace lr:mr<bQ.heap.size:=by have:=hb.size;omega
       replace gp:w1.heap.size<=mp:=by have:=hx.size;omega
       exact Zt
 . rintro a W5 ⟨lb,bm,km,pm,rm,u3,u4,u5,u6,u7,u8,u9,rfl,hge,hne,hA,h1,h2,h3,h4,ru⟩
   simp only[List.setIfInBounds_toArray,List.set_cons_zero,List.set_cons_succ];have HF:=Lib.hid (show(w.heap.size<=lb/\w.heap.size<=bm/\w.heap.size<=km/\w.heap.size<=pm/\w.heap.size<=rm)from⟨by omega,by omega,by omega,by omega,by omega⟩);have HBW:=Lib.hid (hBW W5 ru);go_wp2
   go_ret
   exact⟨⟨lb,bm,km,pm,rm,rfl,HF.out,hne,hA,h1,h2,h3,h4⟩,HBW.out⟩
end Go.Proofs.YtcbcfdihofclkaaGreat.Fix
