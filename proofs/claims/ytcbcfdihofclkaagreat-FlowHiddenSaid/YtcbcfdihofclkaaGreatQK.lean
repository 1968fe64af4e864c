/- Short names for steps that come often in the proofs about the program's boxes. -/
import Derived.ArgAppend
import Derived.Below
import Derived.BigQuiet
import Derived.BigRegion
import Derived.ChangeOld
import Derived.ChangeSame
import Derived.Deep.Cut
import Derived.Deep.CutRange
import Derived.Deep.MidRow
import Derived.Deep.OwnRows
import Derived.Deep.QuietTactic
import Derived.Deep.RegionWith
import Derived.Deep.Slices
import Derived.DeepKeys
import Derived.DeepKeys3
import Derived.DeepKeys4
import Derived.Laws.CopyOwn
import Derived.Laws.EntriesVeiled
import Derived.Laws.Externs
import Derived.Laws.IdiomArrays
import Derived.Laws.IdiomCopy
import Derived.Laws.StructEq
import Derived.Lib.AppendZerosOnto
import Derived.Lib.Hide
import Derived.Lib.MinMax
import Derived.Lib.Overlaps
import Derived.Lib.SliceRun
import Derived.Lib.SmallJoins
import Derived.LoopIn
import Derived.LoopNIn
import Derived.Maps.AppendAt
import Derived.Maps.OwnIn
import Derived.Maps.OwnSet
import Derived.Maps.RangeWalk
import Derived.OpenShut
import Derived.Orders
import Derived.OwnWalkIn
import Derived.ProofKit
import Derived.RangeFuncBox
import Derived.RangeFuncCalls
import Derived.RangeFuncLeaves
import Derived.ScopeJumps
import Derived.Shelf.Abstract
import Derived.ShutString
import Derived.Sort.CutIn
import Derived.TacticsInMore
import Derived.WalkKit
import Derived.WalkLawsBesides
import Derived.WalkMore
set_option linter.unusedVariables false
set_option linter.unusedSimpArgs false
set_option linter.unusedSectionVars false
set_option maxRecDepth 100000
open Go Go.ChangeShapes Go.WideShapes Go.ChangeAt Go.RowKit
namespace Go.Proofs.YtcbcfdihofclkaaGreat
variable {P:Prop}
theorem ah:∀n:Nat,n<=n:=@Nat.le_refl
theorem aR:∀{n m k:Nat},n<m->m<=k->n<k:=@Nat.lt_of_lt_of_le
theorem aC:∀{n m k:Nat},n<=m->m<=k->n<=k:=@Nat.le_trans
theorem dh:∀{a b:Nat},a<b->a≠b:=@Nat.ne_of_lt
theorem uH:∀{n m:Nat},n<m->n<=m:=@Nat.le_of_lt
theorem bJ:∀n:Nat,0<=n:=@Nat.zero_le
theorem Z0(h:P:=by
 (try simp only[bF,bG,bH,tks])
 refine aH 5 ?_;refine tk1 6 ?_;refine aj.Step.value (u:=.pointer (some ⟨wK.heap.size,0,none⟩)) (w':=wK.alloc (.cells #[.int .i64 ww,.int .i64 wh,.map (some mb),.map (some mk),.map (some mp),.map (some mr)] 120)) dQ ?_;refine⟨λ_=>Below.alloc' hx _,?_⟩
 (try simp only[bF,bG,bH,tks])
 refine tk1 7 ?_;refine uF ?_ (hS:=by first|(intro hlt;exact absurd hlt aG)|(intro _;exact Below.alloc' hx _));refine jY ?_;have hxs:=hx.size;have fT:Below wK.heap.size wK (wK.alloc (.cells #[.int .i64 ww,.int .i64 wh,.map (some mb),.map (some mk),.map (some mp),.map (some mr)] 120)):=Below.alloc' (Below.refl _ _) _
 exact⟨rfl,wK.heap.size,mb,mk,mp,mr,_,_,_,_,_,_,_,rfl,⟨by omega,gb,gk,gp,gr⟩,⟨by omega,by omega,by omega,by omega,by omega,by omega,by omega,by omega,by omega,by omega⟩,At.new _ _,Gb.keep fT,mW.keep _ _ _ Gk fT,Gp.keep fT,Gr.keep fT,Below.alloc' hx _⟩):P:=h
theorem Z1(h:P:=by
 (try simp only[bF,bG,bH,tks])
 refine tk1 8 ?_;have yY:Tp≠Tq:=by omega
 have lp:=Ap.lt;have lq:=Aq.lt;have zp0:=Ap.thaw 0;have zp1:=Ap.thaw 1;have zp2:=Ap.thaw 2;have zp3:=Ap.thaw 3;obtain⟨_,Mt,Mv,cp2,Xm⟩:=At.four Ap;refine aj.Step.skip dQ ?_;generalize hW:World.setCell _ _ _=x1;have Ap2:At x1 Tp (.cells #[.int .i64 (s.c 34),.int .i64 (s.c 32),.int .i64 (s.c 31),.int .i64 (s.c 33)] 193):=hW▸At.set (At.set (At.set (At.set Ap 0 _) 1 _) 2 _) 3 _;have S9:At x1 Tq (.cells #[.int .i64 0,.int .i64 0,.int .i64 0,.int .i64 0] 193):=hW▸At.off (At.off (At.off (At.off Aq yY.symm _ _) yY.symm _ _) yY.symm _ _) yY.symm _ _;have hx1:Below w1.heap.size w1 x1:=by rw[<-hW];exact Below.setCell (Below.setCell (Below.setCell (Below.setCell hx gp _) gp _) gp _) gp _
 clear hW zp0 zp1 zp2 zp3 Mt Mv cp2 Xm lp lq;refine⟨λ_=>hx1,?_⟩
 (try simp only[bF,bG,bH,tks])
 refine tk1 9 ?_;have lq:=S9.lt;have zq0:=S9.thaw 0;have zq1:=S9.thaw 1;have zq2:=S9.thaw 2;have zq3:=S9.thaw 3;obtain⟨_,cq0,cq1,cq2,cq3⟩:=At.four S9;refine aj.Step.skip dQ ?_;generalize hW:World.setCell _ _ _=x2;have Aq3:At x2 Tq (.cells #[.int .i64 (s.c 38),.int .i64 (s.c 36),.int .i64 (s.c 35),.int .i64 (s.c 37)] 193):=hW▸At.set (At.set (At.set (At.set S9 0 _) 1 _) 2 _) 3 _;have Ap3:At x2 Tp (.cells #[.int .i64 (s.c 34),.int .i64 (s.c 32),.int .i64 (s.c 31),.int .i64 (s.c 33)] 193):=hW▸At.off (At.off (At.off (At.off Ap2 yY _ _) yY _ _) yY _ _) yY _ _;have hx2:Below w1.heap.size w1 x2:=by rw[<-hW];exact Below.setCell (Below.setCell (Below.setCell (Below.setCell hx1 gq _) gq _) gq _) gq _
 refine⟨λ_=>hx2,?_⟩
 (try simp only[bF,bG,bH,tks])
 refine jY ?_
 exact⟨rfl,Tp,Tq,_,_,_,_,_,_,rfl,gp,gq,yY,Ap3,Aq3,hx2⟩):P:=h
theorem Z2(h:P:=by
 (try simp only[bF,bG,bH,tks])
 refine tk1 17 ?_;refine aj.Step.skip (eZ (q:=0) nU (.tmp 12) (.tmp 66) rfl rfl rfl Ap (dw ly) eY (o8 ly)) ?_;rw[Ci (cs:=#[.int .i64 0,.int .i64 0,.int .i64 0,.int .i64 0,.int .i64 0,.int .i64 0,.int .i64 0]) (vs:=eF ly) rfl];have yY:Tp≠Tq:=by omega
 have Ap2:At (x14.setRow Tp (eF ly)) Tp (.cells (eF ly) 114):=At.setRow Ap _;have S9:=At.mY Aq yY.symm (eF ly);have iA:Out (λb=>b=Tp) x14 (x14.setRow Tp (eF ly)):=Out.setRow (M:=λb=>b=Tp) (Out.refl _ _) rfl _;replace oN:=oN.own iA λb hb h=>by subst h;exact⟨np,by omega⟩
 replace hx:=Out.trans' hx iA λb hb h=>by omega
 generalize x14.setRow Tp (eF ly)=y1 at *;clear iA Ap Aq;refine⟨λ_=>hx,?_⟩
 (try simp only[bF,bG,bH,tks])
 refine tk1 18 ?_;refine aj.Step.skip (mZ (.tmp 13) (.tmp 75) rfl rfl rfl S9) ?_;have Aq3:At (y1.setRow Tq (cells sk)) Tq (.cells (cells sk) 51):=At.setRow S9 _;have Ap3:=At.mY Ap2 yY (cells sk);have hO2:Out (λb=>b=Tq) y1 (y1.setRow Tq (cells sk)):=Out.setRow (M:=λb=>b=Tq) (Out.refl _ _) rfl _;replace oN:=oN.own hO2 λb hb h=>by subst h;exact⟨nq,by omega⟩
 replace hx:=Out.trans' hx hO2 λb hb h=>by omega
 generalize y1.setRow Tq (cells sk)=y2 at *;clear hO2 Ap2 S9;refine⟨λ_=>hx,?_⟩
 (try simp only[bF,bG,bH,tks])
 refine jY ?_
 exact⟨rfl,Tp,Tq,n2,P2,_,_,_,_,_,_,_,_,_,_,_,_,_,_,_,rfl,gp,gq,yY,Ap3,Aq3,hn2,oN,Cj,np,nq,hx⟩):P:=h
theorem Z3(h:P:=by
 generalize hc1:cs.setIfInBounds (o+5) (Value.int IntKind.i64 (Fw.yZ s 0 r0 a0))=cs1 at *;have h6':cs1[o+6]? = some (.int .i64 a1):=by rw[<-hc1,Array.getElem?_setIfInBounds,if_neg ak];exact h6
 replace h6:=h6';clear h6' h5;have Ta:=Lib.hid hc1;clear hc1;clear l0 aA aB lR cR zR;obtain⟨l0,aA,aB⟩:=At.two A0;have lR:=AR.lt;have cR:=(AR.cell (o+6)).trans h6;have zR:=AR.thaw (o+6);go_wp2;cases XI:Fw.Et s 1 0 r1
 . have Mw:=Lib.hid XI
   clear XI;cases XJ:Fw.Et s 1 1 r1
   . have Tc:=Lib.hid XJ
     clear XJ;rw[rounds_succ]
     go_upto_region 6 with(fail)
     go_upto_region 7 with((go_at_call 239;(with_reducible refine(uI bz s vf va ib r0 r1 _ A2).mono ?_);rintro e w3 ⟨rfl,hb⟩;replace hQ:=hQ.trans (Out.of_below hb);replace A0:=At.keep A0 hb;replace A2:=At.keep A2 hb;replace AR:=At.keep AR hb;clear hb))
     clear l0 aA aB lR cR zR;obtain⟨l0,aA,aB⟩:=At.two A0;have lR:=AR.lt;have cR:=(AR.cell (o+6)).trans h6;have zR:=AR.thaw (o+6);rw[Mw.out]
     go_upto_region 10 with((go_at_call 239;(with_reducible refine(xU bz s vf va ib r0 r1 _ A2).mono ?_);rintro e w3 ⟨rfl,hb⟩;replace hQ:=hQ.trans (Out.of_below hb);replace A0:=At.keep A0 hb;replace A2:=At.keep A2 hb;replace AR:=At.keep AR hb;clear hb))
     clear l0 aA aB lR cR zR;obtain⟨l0,aA,aB⟩:=At.two A0;have lR:=AR.lt;have cR:=(AR.cell (o+6)).trans h6;have zR:=AR.thaw (o+6);rw[Tc.out];rw[<-aJ h6,show a1=Fw.yZ s 1 r1 a1 from by unfold Fw.yZ;rw[if_neg (by rw[Mw.out];simp),if_neg (by rw[Tc.out];simp)]]at AR;exact Z1k
   . have Tc:=Lib.hid XJ
     clear XJ;rw[rounds_succ]
     go_upto_region 6 with(fail)
     go_upto_region 7 with((go_at_call 239;(with_reducible refine(uI bz s vf va ib r0 r1 _ A2).mono ?_);rintro e w3 ⟨rfl,hb⟩;replace hQ:=hQ.trans (Out.of_below hb);replace A0:=At.keep A0 hb;replace A2:=At.keep A2 hb;replace AR:=At.keep AR hb;clear hb))
     clear l0 aA aB lR cR zR;obtain⟨l0,aA,aB⟩:=At.two A0;have lR:=AR.lt;have cR:=(AR.cell (o+6)).trans h6;have zR:=AR.thaw (o+6);rw[Mw.out]
     go_upto_region 10 with((go_at_call 239;(with_reducible refine(xU bz s vf va ib r0 r1 _ A2).mono ?_);rintro e w3 ⟨rfl,hb⟩;replace hQ:=hQ.trans (Out.of_below hb);replace A0:=At.keep A0 hb;replace A2:=At.keep A2 hb;replace AR:=At.keep AR hb;clear hb))
     clear l0 aA aB lR cR zR;obtain⟨l0,aA,aB⟩:=At.two A0;have lR:=AR.lt;have cR:=(AR.cell (o+6)).trans h6;have zR:=AR.thaw (o+6);rw[Tc.out]
     go_upto_region 11 with(fail)
     refine wT 11 1 ?_
     (repeat (first|refine nN ?_ | refine nO ?_ (hc:=by intro w2 hS;first|with_reducible exact nI hS (jh _))|refine nP ?_))
     refine aj.dJ ?_;intro w2 hS;replace hQ:=hQ.trans (Out.of_below hS);replace A0:=At.keep A0 hS;replace A2:=At.keep A2 hS;replace AR:=At.keep AR hS;clear hS;clear l0 aA aB lR cR zR;obtain⟨l0,aA,aB⟩:=At.two A0;have lR:=AR.lt;have cR:=(AR.cell (o+6)).trans h6;have zR:=AR.thaw (o+6);refine xV ?_;intro K hK;go_simp;refine hK _ _ (aj.bP ?_);clear hK K;generalize hW:World.setCell _ _ _=W9;replace A0:At W9 _ _:=hW▸At.off A0 ak _ _;replace A2:At W9 _ _:=hW▸At.off A2 ak _ _;replace hQ:Out _ _ W9:=hW▸Out.set hQ rfl _ _;replace AR:At W9 R _:=hW▸At.set AR (o+6) _;clear hW;rw[qZ,show Fw.wr (a1-Fw.ins s 1 1 r1)=Fw.yZ s 1 r1 a1 from by unfold Fw.yZ;rw[if_neg (by rw[Mw.out];simp),if_pos Tc.out]]at AR;exact Z1k
 . have Mw:=Lib.hid XI
   clear XI;rw[rounds_succ]
   go_upto_region 6 with(fail)
   go_upto_region 7 with((go_at_call 239;(with_reducible refine(uI bz s vf va ib r0 r1 _ A2).mono ?_);rintro e w3 ⟨rfl,hb⟩;replace hQ:=hQ.trans (Out.of_below hb);replace A0:=At.keep A0 hb;replace A2:=At.keep A2 hb;replace AR:=At.keep AR hb;clear hb))
   clear l0 aA aB lR cR zR;obtain⟨l0,aA,aB⟩:=At.two A0;have lR:=AR.lt;have cR:=(AR.cell (o+6)).trans h6;have zR:=AR.thaw (o+6);rw[Mw.out]
   go_upto_region 8 with(fail)
   refine wT 11 1 ?_
   (repeat (first|refine nN ?_ | refine nO ?_ (hc:=by intro w2 hS;first|with_reducible exact nI hS (jh _))|refine nP ?_))
   refine aj.dJ ?_;intro w2 hS;replace hQ:=hQ.trans (Out.of_below hS);replace A0:=At.keep A0 hS;replace A2:=At.keep A2 hS;replace AR:=At.keep AR hS;clear hS;clear l0 aA aB lR cR zR;obtain⟨l0,aA,aB⟩:=At.two A0;have lR:=AR.lt;have cR:=(AR.cell (o+6)).trans h6;have zR:=AR.thaw (o+6);refine xV ?_;intro K hK;go_simp;refine hK _ _ (aj.bP ?_);clear hK K;generalize hW:World.setCell _ _ _=W9;replace A0:At W9 _ _:=hW▸At.off A0 ak _ _;replace A2:At W9 _ _:=hW▸At.off A2 ak _ _;replace hQ:Out _ _ W9:=hW▸Out.set hQ rfl _ _;replace AR:At W9 R _:=hW▸At.set AR (o+6) _;clear hW;rw[qZ,show Fw.wr (a1+Fw.ins s 1 0 r1)=Fw.yZ s 1 r1 a1 from by unfold Fw.yZ;rw[if_pos Mw.out]]at AR
   exact Z1k):P:=h
theorem Z4(h:P:=by
 go_enter Tryz.func239,Tryz.ntmps239
 go_upto_region 1 with(fail)
 generalize hW:World.alloc _ _=W0;have A0:At W0 w.heap.size (.cells #[.int .i64 r0,.int .i64 r1] 108):=hW▸At.new _ _;have A2:aF W0 b s fl ap ib:=hW▸aF.alloc h _;have hB:Below w.heap.size w W0:=hW▸Below.alloc' (Below.refl _ _) _;clear hW h;obtain⟨l0,aA,aB⟩:=A0.two;obtain⟨l2,aN,aO,aP,aQ,aZ,bq,aX,aY⟩:=At.bxi A2;refine Mx [0,1,2,3,4,5,6,7,8] 9 10 ?_ (norm:=[⟨_,_,_,_,_,_⟩,⟨_,_,_,_,_,_⟩,⟨_,_,_,_,_,_⟩,⟨_,_,_,_,_,_⟩,⟨_,_,_,_,_,_⟩,⟨_,_,_,_,_,_⟩,⟨_,_,_,_,_,_⟩,⟨_,_,_,_,_,_⟩,⟨_,_,_,_,_,_⟩]) (tail:=[⟨_,_,_,_,_,_⟩]) (x:=.cells #[.int .i64 0,.int .i64 0] 43) (so:=⟨_,_,_,_,_,_⟩)
 (repeat (first|refine sbk ?_ | refine sbc ?_ (hc:=by intro w2 hS;first|with_reducible exact(jh _)|with_reducible exact(GJ _)|with_reducible exact(GK _)|with_reducible exact(GL _))|refine sbv ?_))
 refine aj.pK ?_;intro n0 w2 hn hA hS;(try simp only[bF,bG,bH,tks])
 ((have hB0:=hB);have oO:=dh (aR A0.lt hn);have oP:=dh (aR A2.lt hn);(clear l0 aA aB l2 aN aO aP aQ aZ bq aX aY);(replace hB:=Below.ay yT (ah _) hS);replace A0:=At.keep BJ hS;replace A2:=At.keep AZ hS;clear hS;obtain⟨l0,aA,aB⟩:=At.two A0;obtain⟨l2,aN,aO,aP,aQ,aZ,bq,aX,aY⟩:=At.bxi A2;have A3:=hA;clear hA;obtain⟨l3,bL,bM⟩:=At.two A3;have gV:=A3.thaw 0;have gW:=A3.thaw 1;have g0:=aC Z4u hn;clear hB0)
 refine xV ?_;intro K hK;go_simp;refine hK _ _ (aj.bP ?_);clear hK K
 (generalize hW:World.setCell (World.setCell _ _ _) _ _=W1;clear l0 aA aB l2 aN aO aP aQ aZ bq aX aY l3 bL bM gV gW;replace A3:At W1 _ _:=hW▸(At.Qk A3 _ _);replace A0:At W1 _ _:=hW▸(At.off (At.off A0 oO _ _) oO _ _);replace A2:At W1 _ _:=hW▸(At.off (At.off A2 oP _ _) oP _ _);replace hB:Below w.heap.size w W1:=hW▸(Below.setCell (Below.setCell hB g0 _) g0 _);clear hW oO oP;obtain⟨l0,aA,aB⟩:=At.two A0;obtain⟨l2,aN,aO,aP,aQ,aZ,bq,aX,aY⟩:=At.bxi A2;obtain⟨l3,bL,bM⟩:=At.two A3)
 go_upto_region 2 with(fail)
 refine xP ?_
 (repeat (first|refine nN ?_ | refine nO ?_ (hc:=by intro w2 hS;first|with_reducible exact nI hS (ng _ _ _ _ _)|with_reducible exact nI hS (rA _ _ _ _))|refine nP ?_))
 refine aj.bZ ?_;intro w2 hS;go_wp2
 refine bodyPost_ret (v:=.tuple #[.int .i64 _,.bool _]) (by simp[results,Tryz.results239,go_sem, *];first|done|exact⟨rfl,rfl⟩|rfl) rfl ⟨rfl,Below.ay hB (ah _) hS⟩):P:=h
theorem Z5(h:P:=by(repeat (first|exact Below.refl _ _ | assumption|refine Below.drew ?_ | refine Below.drewN ?_ _ | refine Below.alloc' ?_ _ | refine Below.setCell ?_ Z53 _ | refine Below.ay ?_ (ah _) (by assumption)))):P:=h
theorem Z6(h:P:=by
 go_enter Tryz.func225,Tryz.ntmps225
 go_upto_region 2 with(first|(refine dF aU rfl ?_)|(refine fC aU rfl ?_)|(refine aS aU _ rfl rfl za ?_)|(refine fD aU _ _ rfl rfl rfl za ?_)|(refine eu aU _ _ rfl rfl rfl za ?_)|(refine fG aU _ rfl rfl xW.out ?_))
 generalize hW:World.setRow _ _ _=W1;have A1:At W1 w.heap.size (.cells (cells s) 51):=hW▸(At.new w (.cells (cells Re.zero) 51)).setRow _;have hB:Below w.heap.size w W1:=hW▸below_setRow (Below.alloc' (Below.refl _ _) _) (ah _) _;clear hW;replace d0:=(Below.cell_ hB l0 _).trans d0;replace d1:=(Below.cell_ hB l0 _).trans d1;have l1:=A1.lt;have g0:=A1.st 0 aG rfl;have g2:=A1.st 2 aG rfl;have g5:=A1.st 5 aG rfl;have g9:=A1.st 9 aG rfl;replace l0:=aR l0 hB.size;clear xW;go_wp2
 go_ret
 refine⟨fM (by unfold Fw.opn;rw[show Fw.sd 1 1=2 from rfl];simp[*]),hB⟩):P:=h
theorem Z7(h:P:=by
 (try simp only[bF,bG,bH,tks])
 refine tk1 3 ?_
 . refine aj.Step.value (u:=.map (some eD.heap.size)) (w':=eD.alloc (.map #[] 0)) dQ ?_
   obtain⟨wK,bA,Gp,hb,dB⟩:∃w9,w9=eD.alloc (.map #[] 0)/\GM 112 w9 eD.heap.size 0 (λ_=>none)/\Below eD.heap.size eD w9/\eD.heap.size<w9.heap.size:=⟨_,rfl,GM.made _ _,Below.alloc' (Below.refl _ _) _,by simp⟩;rw[<-bA];clear bA;obtain⟨mp,hmp⟩:∃q,eD.heap.size=q:=⟨_,rfl⟩;rw[hmp]at Gp;rw[hmp];have gp:eD.heap.size<=mp:=Nat.le_of_eq hmp;have lp:mp<wK.heap.size:=hmp▸dB;clear hmp dB;have Xn:mb<mp:=by omega
   replace Gb:=Gb.keep hb;replace lb:mb<wK.heap.size:=by have:=hb.size;omega
   have Td:mk<mp:=by omega
   replace Gk:=mW.keep _ _ _ Gk hb;replace lk:mk<wK.heap.size:=by have:=hb.size;omega
   have Jg:mr<mp:=by omega
   replace Gr:=Gr.keep hb;replace lr:mr<wK.heap.size:=by have:=hb.size;omega
   replace gp:w1.heap.size<=mp:=by have:=hx.size;omega
   exact Z3n):P:=h
theorem Z8(h:P:=by
 (try simp only[bF,bG,bH,tks])
 refine tk1 4 ?_
 . refine aj.Step.value (u:=.map (some eD.heap.size)) (w':=eD.alloc (.map #[] 0)) dQ ?_
   obtain⟨wK,bA,Gr,hb,dB⟩:∃w9,w9=eD.alloc (.map #[] 0)/\GM 3 w9 eD.heap.size 0 (λ_=>none)/\Below eD.heap.size eD w9/\eD.heap.size<w9.heap.size:=⟨_,rfl,GM.made _ _,Below.alloc' (Below.refl _ _) _,by simp⟩;rw[<-bA];clear bA;obtain⟨mr,hmr⟩:∃q,eD.heap.size=q:=⟨_,rfl⟩;rw[hmr]at Gr;rw[hmr];have gr:eD.heap.size<=mr:=Nat.le_of_eq hmr;have lr:mr<wK.heap.size:=hmr▸dB;clear hmr dB;have Xo:mb<mr:=by omega
   replace Gb:=Gb.keep hb;replace lb:mb<wK.heap.size:=by have:=hb.size;omega
   have XK:mk<mr:=by omega
   replace Gk:=mW.keep _ _ _ Gk hb;replace lk:mk<wK.heap.size:=by have:=hb.size;omega
   have Jg:mp<mr:=by omega
   replace Gp:=Gp.keep hb;replace lp:mp<wK.heap.size:=by have:=hb.size;omega
   replace gr:w1.heap.size<=mr:=by have:=hx.size;omega
   exact Z3n):P:=h
theorem Z9(h:P:=by
 (try simp only[bF,bG,bH,tks])
 refine tk1 1 ?_
 . refine aj.Step.value (u:=.map (some eD.heap.size)) (w':=eD.alloc (.map #[] 0)) dQ ?_
   obtain⟨wK,bA,Gb,hb,dB⟩:∃w9,w9=eD.alloc (.map #[] 0)/\GM 3 w9 eD.heap.size 0 (λ_=>none)/\Below eD.heap.size eD w9/\eD.heap.size<w9.heap.size:=⟨_,rfl,GM.made _ _,Below.alloc' (Below.refl _ _) _,by simp⟩;rw[<-bA];clear bA;obtain⟨mb,hmb⟩:∃q,eD.heap.size=q:=⟨_,rfl⟩;rw[hmb]at Gb;rw[hmb];have gb:eD.heap.size<=mb:=Nat.le_of_eq hmb;have lb:mb<wK.heap.size:=hmb▸dB;clear hmb dB;have XL:mk<mb:=by omega
   replace Gk:=mW.keep _ _ _ Gk hb;replace lk:mk<wK.heap.size:=by have:=hb.size;omega
   have Xn:mp<mb:=by omega
   replace Gp:=Gp.keep hb;replace lp:mp<wK.heap.size:=by have:=hb.size;omega
   have Xo:mr<mb:=by omega
   replace Gr:=Gr.keep hb;replace lr:mr<wK.heap.size:=by have:=hb.size;omega
   replace gb:w1.heap.size<=mb:=by have:=hx.size;omega
   exact Z3n):P:=h
theorem Za(h:P:=by
 go_enter Tryz.func225,Tryz.ntmps225
 go_upto_region 2 with(first|(refine dF aU rfl ?_)|(refine fC aU rfl ?_)|(refine aS aU _ rfl rfl za ?_)|(refine fD aU _ _ rfl rfl rfl za ?_)|(refine eu aU _ _ rfl rfl rfl za ?_)|(refine fG aU _ rfl rfl xW.out ?_))
 generalize hW:World.setRow _ _ _=W1;have A1:At W1 w.heap.size (.cells (cells s) 51):=hW▸(At.new w (.cells (cells Re.zero) 51)).setRow _;have hB:Below w.heap.size w W1:=hW▸below_setRow (Below.alloc' (Below.refl _ _) _) (ah _) _;clear hW;replace d0:=(Below.cell_ hB l0 _).trans d0;replace d1:=(Below.cell_ hB l0 _).trans d1;have l1:=A1.lt;have g0:=A1.st 0 aG rfl;have g2:=A1.st 2 aG rfl;have g5:=A1.st 5 aG rfl;have g9:=A1.st 9 aG rfl;replace l0:=aR l0 hB.size;clear xW;go_wp2
 go_ret
 refine⟨fM (by unfold Fw.opn;rw[show Fw.sd 1 0=0 from rfl];simp[*]),hB⟩):P:=h
theorem Zb(h:P:=by
 go_region_with (refine(hA.call xs x _ (hA.keep _ _ _ hI (Below.drew (Below.refl _ _))) hx).mono ?_;rintro e w1 ⟨rfl,hI1,iA⟩;replace iA:=(Out.of_below (M:=mine) (Below.drew (Below.refl w.heap.size w))).trans iA;have a1:=At.out a n1 iA;have aw1:=At.out aw n2 iA;have A9:w1.cell? ⟨b,o,none⟩=some (.int .i64 x):=(a1.cell o).trans ho;have hf1:=a1.thaw o)
 all_goals (refine bodyPost_end (results_none rfl _ _ _) rfl ⟨rfl,⟨hA.set _ _ _ _ _ hI1 n1,At.set a1 _ _,At.off aw1 (Ne.symm n3) _ _⟩,Out.set (iA.mono λ_ _ h => .inl h) (.inr rfl) _ _⟩)):P:=h
theorem Zc(h:P:=by
 replace hx:=Below.ay hx (ah _) hb;clear hb;refine⟨λ_=>hx,?_⟩
 (try simp only[bF,bG,bH,tks])
 refine tk1 2 ?_
 . refine aj.Step.call dQ (jI _) ?_
   rintro e wK ⟨⟨mk,rfl,gk,Gk⟩,hb⟩;have lk:mk<wK.heap.size:=by obtain⟨_,_,q,_⟩:=Gk;exact q.lt
   have XL:mb<mk:=by omega
   replace Gb:=Gb.keep hb;replace lb:mb<wK.heap.size:=by have:=hb.size;omega
   have Td:mp<mk:=by omega
   replace Gp:=Gp.keep hb;replace lp:mp<wK.heap.size:=by have:=hb.size;omega
   have XK:mr<mk:=by omega
   replace Gr:=Gr.keep hb;replace lr:mr<wK.heap.size:=by have:=hb.size;omega
   replace gk:w1.heap.size<=mk:=by have:=hx.size;omega
   replace hx:=Below.ay hx (ah _) hb;clear hb;refine⟨_,rfl,λ_=>hx,?_⟩
   exact Z0):P:=h
theorem Zd(h:P:=by
 have XM:=HK.out.2.1;have hne:iu≠k':=λe=>by have:=HU.out;rw[e,XM]at this;cases this
 obtain⟨W5,hst,Jp,hD5,hG5⟩:=HD.out.abk hkd XM (iu:Int);have c4:=HD.out.cT;have HST:=Lib.hid hst;have HBD:=Lib.hid (Ck (iu:Int));have HG5:=Lib.hid (((DG.of_below HB1.out).trans HG.out).trans hG5);have hU5:Tr.set T (k':Int) ⟨iu,[],Re.zero⟩ iu=some p:=(Tr.aD _ _ ak).trans HU.out;have hKu:(if (iu:Int)=(k':Int)then (Value.slice none 0 0)else K iu)=.slice A nk cc:=by rw[if_neg ak];exact HV.out
 have c5:=hD5.cT;have c6:=hD5.lF hU5;have jJ:=hD5.row _ _ hU5;simp only[hKu]at c6 jJ;have HD5:=Lib.hid hD5;have HU5:=Lib.hid hU5;have Ba:=Lib.hid jJ;have HV5:Hid ((if (iu:Int)=(k':Int)then (Value.slice none 0 0)else K iu)=.slice A nk cc):=Lib.hid hKu;clear c0 hst Jp hD5 hG5 HD HG hU5 hKu XM jJ hne HV Bb;generalize fU (iu:Int) (.slice none 0 0) Re.zero=dc at *;have af0:Hid ((λz:Int=>if z=(k':Int)then (Value.slice none 0 0)else K z) iu=.slice A nk cc):=HV5;clear HV5;generalize (λz:Int=>if z=(k':Int)then (Value.slice none 0 0)else K z)=K5 at *;generalize hT5:Tr.set T (k':Int) ⟨iu,[],Re.zero⟩=T5 at *;have HT5:=Lib.hid hT5;clear hT5
 go_upto_region 15 with(first|(refine wpList_build aU 180 _ rfl #[(0,.bool true),(1,.int .i64 (iu:Int))] XO (HBD.out _) ?_)|(refine oD aU (sM (.tmp 64) (.tmp 63) rfl rfl rfl HST.out) ?_))
 clear HST HBD c4;refine kQ (S:=(λW'=>W'.cell? ⟨r,0,none⟩=some (.slice (some ⟨gd,0,none⟩) md cd)/\W'.cell? ⟨gd,iu*58+2,none⟩=some (.slice A nk cc)/\Below W5.heap.size W5 W')) 16 ?_ ?_
 . exact⟨c5,c6,Below.drew (Below.refl _ _)⟩
 intro hS0;clear c5 c6;refine aT 0 ?_;refine aT 1 ?_;refine aT 2 ?_;refine aT 3 ?_;refine aT 4 ?_;refine aT 5 ?_;refine aT 6 ?_;refine aT 7 ?_;refine aT 8 ?_;refine aT 9 ?_;refine aT 10 ?_;refine aT 11 ?_;refine aT 12 ?_;refine aT 13 ?_;refine aT 14 ?_;refine tk1 15 ?_;refine aj.Step.call dQ (Fy (Ba.out.after hS0.2.2) (by rw[HNK.out];exact ads.out) (by rw[HNK.out];exact hil.out) (k':Int)) ?_;rintro e w6 ⟨⟨v6,rfl,yU⟩,hb6⟩;have hS1:=hS0.2.2.trans (hb6.mono hS0.2.2.size);have hn6:=aC hS0.2.2.size (ah _);have Jq:=fE yU (bJ _);have hown6:=λb hb=>aC hn6 (World.ownsRow.lt yU b hb).1;obtain⟨A6,c6,rfl⟩:=fH yU;have hD6:=HD5.out.after hS1;have c7:=hD6.cT;have c8:=hD6.lF HU5.out;rw[af0.out]at c8;obtain⟨cur,hcur,_⟩:=hD6.cur;have hth:=hcur.thaw (iu*58+2);have hD7:=Lib.hid (hD6.sN HU5.out Jq)
 have MB:DG r gd K5 T5 W5 (w6.setCell ⟨gd,iu*58+2,none⟩ (.slice A6 (Tr.wi p.kids i k').length c6)) gd (λz=>if z=(iu:Int)then .slice A6 (Tr.wi p.kids i k').length c6 else K5 z) (Tr.set T5 iu { p with kids:=Tr.wi p.kids i k' }) :=
  ⟨(Out.of_below hS1).trans ((Out.refl _ _).set (M:=jq r gd K5 T5) (.inr (.inl rfl)) _ _),λb hb=>(qC HU5.out hb).elim .inl λq => .inr (hown6 b q)⟩
 have HG7:=Lib.hid (HG5.out.trans MB);refine⟨_,rfl,λ_=>⟨c7,c8,hS1⟩,?_⟩;clear MB hS0 hS1 hn6 Jq hown6 yU hb6 hcur hD6 HG5 Ba HB1;generalize hnl:(Tr.wi p.kids i (k':Int)).length=nl at *
 (try simp only[bF,bG,bH,tks])
 refine tk1 16 ?_;refine uF ?_ (hS:=by first|(intro hlt;exact absurd hlt aG)|(intro _;exact hlt));refine tk1 17 ?_;refine uF ?_ (hS:=by first|(intro hlt;exact absurd hlt aG)|(intro _;exact hlt));refine tk1 18 ?_;refine aj.Step.skip Z4o ?_;refine⟨by first|(intro hlt;exact absurd hlt aG)|(intro _;exact hlt),?_⟩;(try simp only[Act.put]);refine jY ?_;go_wp2
 go_ret2
 rw[HT5.out]
 exact⟨rfl,_,_,_,_,hD7.out,hml,HG7.out⟩):P:=h
theorem Ze(h:P:=by
 (try simp only[bF,bG,bH,tks])
 refine tk1 5 ?_;have jZ:=ni hL qL sO.out hkm oN kid i0 i1 (-1) (-1) hdk.out.1 hdk.out.2 ak;rw[uy]at jZ;refine aj.Step.call dQ jZ ?_;rintro e x14 ⟨rfl,n2,P2,hn2,Cm,wU,hO⟩;have Cj:∀b,b<wr.heap.size->P2 b->P' b:=λb hb h=>wU b (aR hb hx.size) h;have lp:=Ap.lt;replace np:¬ P2 Tp:=λh=>np (wU Tp lp h);replace Ap:=At.out (M:=λb=>b=Y.pm) Ap ak hO;clear lp;have lq:=Aq.lt;replace nq:¬ P2 Tq:=λh=>nq (wU Tq lq h);replace Aq:=At.out (M:=λb=>b=Y.pm) Aq ak hO;clear lq;replace oN:=Cm;clear Cm wU jZ;replace hx:=hx.trans hO;clear hO;refine⟨_,rfl,λ_=>hx,?_⟩
 exact Z2):P:=h
theorem Zf(h:P:=by
 refine bodyPost_end (results_none rfl _ _ _) rfl ⟨rfl,?_,Out.set (hO.mono λ_ _ q=>q.elim .inl λq => .inr (.inl q)) (.inr (.inr rfl)) _ _⟩;rw[wu.out];simp only[Bool.not_false,Bool.or_true]
 exact Here.held hA h1' hp _):P:=h
theorem Zg(h:P:=by
 obtain⟨v0,vs0,d0,ds0,p0,q0,hargs,rfl,rfl,h0,r0⟩:=trodAll_cons hA;obtain⟨v1,vs1,d1,ds1,p1,q1,rfl,rfl,rfl,h1,r1⟩:=trodAll_cons r0;obtain⟨v2,vs2,d2,ds2,p2,q2,rfl,rfl,rfl,h2,r2⟩:=trodAll_cons r1;obtain⟨v3,vs3,d3,ds3,p3,q3,rfl,rfl,rfl,h3,r3⟩:=trodAll_cons r2;obtain⟨v4,vs4,d4,ds4,p4,q4,rfl,rfl,rfl,h4,r4⟩:=trodAll_cons r3;obtain⟨v5,vs5,d5,ds5,p5,q5,rfl,rfl,rfl,h5,r5⟩:=trodAll_cons r4;obtain⟨rfl,rfl,rfl⟩:=trodAll_nil r5;obtain rfl:args=#[v0,v1,v2,v3,v4,v5]:=by cases args;simp_all
 obtain⟨rfl,rfl⟩:=trodVars_none hV;have k0:=h0;have lt0:∀x∈p0,x.block<W.heap.size:=by obtain⟨m,hm⟩:=k0;exact DataW.trod_lt m _ _ _ hm
 have k1:=h1;have lt1:∀x∈p1,x.block<W.heap.size:=by obtain⟨m,hm⟩:=k1;exact DataW.trod_lt m _ _ _ hm
 have k2:=h2;have lt2:∀x∈p2,x.block<W.heap.size:=by obtain⟨m,hm⟩:=k2;exact DataW.trod_lt m _ _ _ hm
 have k3:=h3;have lt3:∀x∈p3,x.block<W.heap.size:=by obtain⟨m,hm⟩:=k3;exact DataW.trod_lt m _ _ _ hm
 have k4:=h4;have lt4:∀x∈p4,x.block<W.heap.size:=by obtain⟨m,hm⟩:=k4;exact DataW.trod_lt m _ _ _ hm
 have k5:=h5;have lt5:∀x∈p5,x.block<W.heap.size:=by obtain⟨m,hm⟩:=k5;exact DataW.trod_lt m _ _ _ hm
 obtain⟨a0,jB,cap0,rfl⟩:=okWide_slice Tryz.underlying22 (hval 0 22 v0 rfl rfl);have w0:Fix.ze W a0 jB cap0:=by
  exact Z41
 obtain⟨a1,rfl,rfl,rfl,w1⟩:=open_int Tryz.underlying3 (hval 1 3 v1 rfl rfl) h1;obtain⟨a2,rfl,rfl,rfl,w2⟩:=open_int Tryz.underlying3 (hval 2 3 v2 rfl rfl) h2;obtain⟨yV,rfl,_⟩:=okWide_struct Tryz.underlying51 (hval 3 51 v3 rfl rfl);obtain⟨a3,e3,w3⟩:=Fix.Cn h3;injection e3 with e3;subst e3;obtain⟨a4,rfl,rfl,rfl,w4⟩:=open_int Tryz.underlying3 (hval 4 3 v4 rfl rfl) h4;obtain⟨a5,rfl,rfl,rfl,w5⟩:=open_int Tryz.underlying3 (hval 5 3 v5 rfl rfl) h5;clear Mg hval0;simp only[List.append_nil]at hW';refine(walk a0 jB cap0 a1 a2 a3 a4 a5 W w0 w1 w2 w3 w4 w5).mono λe W' ⟨he,Sz⟩ => ?_;subst he
 exact⟨_,rfl,_,_,_,[],_,[],hW',trodAll_mk1 (shut_bool Tryz.underlying4 _),(trodAll_cons_mk (Below.trod laidOut fV (of_decide_eq_true fV) k0 Sz lt0) (trodAll_cons_mk (Below.trod laidOut fV (of_decide_eq_true fV) k1 Sz lt1) (trodAll_cons_mk (Below.trod laidOut fV (of_decide_eq_true fV) k2 Sz lt2) (trodAll_cons_mk (Below.trod laidOut fV (of_decide_eq_true fV) k3 Sz lt3) (trodAll_cons_mk (Below.trod laidOut fV (of_decide_eq_true fV) k4 Sz lt4) (trodAll_cons_mk (Below.trod laidOut fV (of_decide_eq_true fV) k5 Sz lt5) trodAll_mk0)))))),rfl,Sz.frame _,λh=>by cases h⟩):P:=h
theorem Zh(h:P:=by
 have Xp:Hid (ny T (ks.take (k+1))=ny T (ks.take k)):=Lib.hid (by rw[Ql,Qm,if_neg (by rw[n0,no];decide),List.append_nil]);have HKA:Hid (oZ T (ks.take (k+1))=oZ T (ks.take k)++[x]):=Lib.hid (by rw[Qn,Qo,if_pos (by rw[n0,no];rfl)]);clear Ql Qn Qm Qo
 go_upto_region 4 with(fail)
 go_upto_region 6 with(first|(go_at_call 21;(with_reducible refine key2.mono ?_);rintro e w2 ⟨rfl,hb2⟩)|(refine dF aU rfl ?_)|(refine fC aU rfl ?_)|(refine aS aU _ rfl rfl za ?_)|(refine fD aU _ _ rfl rfl rfl za ?_)|(refine eu aU _ _ rfl rfl rfl za ?_))
 (try simp only[bF,bG,bH,tks])
 generalize hW:World.setRow _ _ _=w3;have A3:At w3 w2.heap.size (.cells (cells sx) 51):=by rw[<-hW];exact At.setRow (At.new w2 (.cells (cells Re.zero) 51)) (cells sx)
 have hb3:Below wr.heap.size wr w3:=by rw[<-hW];exact below_setRow (hb2.alloc hb2.size (.cells (cells Re.zero) 51)) hb2.size (cells sx)
 clear hW;have hv3:=bD (M:=λ_=>False) hv (λ_ _ q=>q) (Out.of_below hb3);have hu3:=bD (M:=λ_=>False) hu (λ_ _ q=>q) (Out.of_below hb3);have hB3:Below w1.heap.size w1 w3:=Below.ay hB (ah _) hb3;have l3:=A3.lt;have d0:=A3.st 0 aG rfl;have d1:=A3.st 1 aG rfl;have hlen1:(ny T (ks.take k)).length<=10000:=GN T ks k HL.out;have Te:(oZ T (ks.take k)).length<=10000:=GQ T ks k HL.out;obtain⟨g,c,w4,hr,ho4,hp4,ha4,hb4,hs4⟩:=Co x hu3 hv3 hap (by have:=hB3.size;omega) Te;have HRR:=Lib.hid hr;clear hr
 go_wp2_with (at_builtin;refine wpList_append_run aU _ _ 30 rfl rfl rfl HRR.out ?_)
 (try simp only[bF,bG,bH,tks])
 (try simp only[Act.put,List.setIfInBounds_toArray,List.set_cons_zero,List.set_cons_succ,List.size_toArray,Array.getD_eq_getD_getElem?])
 go_roundw
 case rel =>
  refine⟨k+1,Nat.succ_le_of_lt Jh.out,?_,?_⟩
  . exact Z3q
  . rw[Xp.out,HKA.out]
    exact⟨hp4,by rw[List.length_append];exact ho4,ha4,hB3.trans hb4⟩
 case measure =>
  exact Z2l):P:=h
theorem Zi(h:P:=by
 (try simp only[bF,bG,bH,tks])
 refine tk2 5 7 ?_ ?_
 . refine aj.Step.call XP (iO _ _ _ _ _) ?_
   rintro e eD ⟨rfl,hb⟩;replace Ap:=Ap.keep hb;replace hx:=Below.ay hx (ah _) hb;clear hb;refine⟨_,rfl,λ_=>hx,?_⟩;exact Z1b
 . refine aj.Step.value (u:=.pointer (some ⟨bQ.heap.size,0,none⟩)) (w':=bQ.alloc (.cells #[.int .i64 0,.int .i64 0,.int .i64 0,.int .i64 0] 193)) dQ ?_
   obtain⟨eD,bA,Aq,hb⟩:∃w9,w9=bQ.alloc (.cells #[.int .i64 0,.int .i64 0,.int .i64 0,.int .i64 0] 193)/\At w9 bQ.heap.size (.cells #[.int .i64 0,.int .i64 0,.int .i64 0,.int .i64 0] 193)/\Below bQ.heap.size bQ w9:=⟨_,rfl,At.new _ _,Below.alloc' (Below.refl _ _) _⟩;rw[<-bA];clear bA;have gq:=hx.size;obtain⟨Tq,oF⟩:∃q,bQ.heap.size=q:=⟨_,rfl⟩;rw[oF]at Aq gq;rw[oF];have kq:bQ.heap.size<=Tq:=Nat.le_of_eq oF;clear oF;have Qp:Tp≠Tq:=by have:=Ap.lt;omega
   replace Ap:=Ap.keep hb;replace hx:=Below.ay hx (ah _) hb;clear hb;refine⟨λ_=>hx,?_⟩
   exact Zy):P:=h
theorem Zj(h:P:=by
 (try simp only[bF,bG,bH,tks])
 refine tk2 5 6 ?_ ?_
 . refine aj.Step.call XP (iO _ _ _ _ _) ?_
   rintro e eD ⟨rfl,hb⟩;replace Aq:=Aq.keep hb;replace hx:=Below.ay hx (ah _) hb;clear hb;refine⟨_,rfl,λ_=>hx,?_⟩;exact Z1c
 . refine aj.Step.value (u:=.pointer (some ⟨bQ.heap.size,0,none⟩)) (w':=bQ.alloc (.cells #[.int .i64 0,.int .i64 0,.int .i64 0,.int .i64 0] 193)) dQ ?_
   obtain⟨eD,bA,Ap,hb⟩:∃w9,w9=bQ.alloc (.cells #[.int .i64 0,.int .i64 0,.int .i64 0,.int .i64 0] 193)/\At w9 bQ.heap.size (.cells #[.int .i64 0,.int .i64 0,.int .i64 0,.int .i64 0] 193)/\Below bQ.heap.size bQ w9:=⟨_,rfl,At.new _ _,Below.alloc' (Below.refl _ _) _⟩;rw[<-bA];clear bA;have gp:=hx.size;obtain⟨Tp,lG⟩:∃q,bQ.heap.size=q:=⟨_,rfl⟩;rw[lG]at Ap gp;rw[lG];have kp:bQ.heap.size<=Tp:=Nat.le_of_eq lG;clear lG;have Qp:Tq≠Tp:=by have:=Aq.lt;omega
   replace Aq:=Aq.keep hb;replace hx:=Below.ay hx (ah _) hb;clear hb;refine⟨λ_=>hx,?_⟩
   exact Zy):P:=h
theorem Zk(h:P:=by
 (try simp only[bF,bG,bH,tks])
 refine tk2 5 15 ?_ ?_
 . have jZ:=ni hL qL sO.out hkm oN kid i0 i1 (-1) (-1) hdk.out.1 hdk.out.2 ak
   rw[uy]at jZ;refine aj.Step.call dQ jZ ?_;rintro e EC ⟨rfl,n2,P2,hn2,Cm,wU,hO⟩;have Cj:∀b,b<wr.heap.size->P2 b->P' b:=λb hb h=>wU b (aR hb hx.size) h;have lq:=Aq.lt;replace nq:¬ P2 Tq:=λh=>nq (wU Tq lq h);replace Aq:=At.out (M:=λb=>b=Y.pm) Aq ak hO;clear lq;replace oN:=Cm;clear Cm wU jZ;replace hx:=hx.trans hO;clear hO;refine⟨_,rfl,λ_=>hx,?_⟩;exact Z10
 . refine aj.Step.value (u:=.pointer (some ⟨oQ.heap.size,0,none⟩)) (w':=oQ.alloc (.cells #[.int .i64 0,.int .i64 0,.int .i64 0,.int .i64 0,.int .i64 0,.int .i64 0,.int .i64 0] 114)) dQ ?_
   obtain⟨EC,bA,Ap,hb⟩:∃w9,w9=oQ.alloc (.cells #[.int .i64 0,.int .i64 0,.int .i64 0,.int .i64 0,.int .i64 0,.int .i64 0,.int .i64 0] 114)/\At w9 oQ.heap.size (.cells #[.int .i64 0,.int .i64 0,.int .i64 0,.int .i64 0,.int .i64 0,.int .i64 0,.int .i64 0] 114)/\Below oQ.heap.size oQ w9:=⟨_,rfl,At.new _ _,Below.alloc' (Below.refl _ _) _⟩;rw[<-bA];clear bA;have gp:=hx.size;obtain⟨Tp,lG⟩:∃q,oQ.heap.size=q:=⟨_,rfl⟩;have np:¬ P' Tp:=λh=>by have:=oN.lt _ h;omega
   rw[lG]at Ap gp;rw[lG];have Qp:Tq<Tp:=by have:=Aq.lt;omega
   clear lG;replace Aq:=Aq.keep hb
   exact Z3u):P:=h
theorem Zl(h:P:=by
 (try simp only[bF,bG,bH,tks])
 refine tk2 5 16 ?_ ?_
 . have jZ:=ni hL qL sO.out hkm oN kid i0 i1 (-1) (-1) hdk.out.1 hdk.out.2 ak
   rw[uy]at jZ;refine aj.Step.call dQ jZ ?_;rintro e EC ⟨rfl,n2,P2,hn2,Cm,wU,hO⟩;have Cj:∀b,b<wr.heap.size->P2 b->P' b:=λb hb h=>wU b (aR hb hx.size) h;have lp:=Ap.lt;replace np:¬ P2 Tp:=λh=>np (wU Tp lp h);replace Ap:=At.out (M:=λb=>b=Y.pm) Ap ak hO;clear lp;replace oN:=Cm;clear Cm wU jZ;replace hx:=hx.trans hO;clear hO;refine⟨_,rfl,λ_=>hx,?_⟩;exact Z1g
 . refine aj.Step.value (eO rfl) ?_
   obtain⟨EC,bA,Aq,hb⟩:∃w9,w9=oQ.alloc (.cells (cells Re.zero) 51)/\At w9 oQ.heap.size (.cells (cells Re.zero) 51)/\Below oQ.heap.size oQ w9:=⟨_,rfl,At.new _ _,Below.alloc' (Below.refl _ _) _⟩;rw[<-bA];clear bA;have gq:=hx.size;obtain⟨Tq,oF⟩:∃q,oQ.heap.size=q:=⟨_,rfl⟩;have nq:¬ P' Tq:=λh=>by have:=oN.lt _ h;omega
   rw[oF]at Aq gq;rw[oF];have Qp:Tp<Tq:=by have:=Ap.lt;omega
   clear oF;replace Ap:=Ap.keep hb
   exact Z3u):P:=h
theorem Zm(h:P:=by
 go_enter Tryz.func280,Tryz.ntmps280
 go_upto_region 2 with(fail)
 generalize hW:World.alloc (World.alloc (World.alloc (World.alloc _ _) _) _) _=W1;have hX:bW W1 w.heap.size (w.heap.size+1) (w.heap.size+1+1) (w.heap.size+1+1+1) left 0 0 1:=hW▸nV w left;have hB:Below w.heap.size w W1:=hW▸mQ w _ _ _ _;clear hW;obtain⟨m2,m3,m4⟩:w.heap.size<=w.heap.size+1/\w.heap.size<=w.heap.size+1+1/\w.heap.size<=w.heap.size+1+1+1:=⟨by omega,by omega,by omega⟩;generalize w.heap.size+1+1+1=b4 at *;generalize w.heap.size+1+1=b3 at *;generalize w.heap.size+1=b2 at *;have HX:=Lib.hid hX;obtain⟨c1,c2,c3,c4⟩:=hX.cells;obtain⟨z2,z3,z4,l2,l3,l4⟩:=hX.Fz;have l1:=hX.a1.lt;have n23:=hX.n23;have n24:=hX.n24;have n34:=hX.n34;have n32:=hX.n23.symm;have n42:=hX.n24.symm;have n43:=hX.n34.symm;clear hX;go_wp2
 go_ret
 exact⟨⟨_,_,_,_,rfl,((HX.out.Qk (1)).Tf (2))⟩,(Below.setCell (Below.setCell hB m2 _) m4 _)⟩):P:=h
theorem Zn(h:P:=by
 (try simp only[bF,bG,bH,tks])
 refine tk2 3 4 ?_ ?_
 . refine aj.Step.value (u:=.map (some bQ.heap.size)) (w':=bQ.alloc (.map #[] 0)) dQ ?_
   obtain⟨eD,bA,Gp,hb,dB⟩:∃w9,w9=bQ.alloc (.map #[] 0)/\GM 112 w9 bQ.heap.size 0 (λ_=>none)/\Below bQ.heap.size bQ w9/\bQ.heap.size<w9.heap.size:=⟨_,rfl,GM.made _ _,Below.alloc' (Below.refl _ _) _,by simp⟩;rw[<-bA];clear bA;obtain⟨mp,hmp⟩:∃q,bQ.heap.size=q:=⟨_,rfl⟩;rw[hmp]at Gp;rw[hmp];have gp:bQ.heap.size<=mp:=Nat.le_of_eq hmp;have lp:mp<eD.heap.size:=hmp▸dB;clear hmp dB;have Xn:mb<mp:=by omega
   replace Gb:=Gb.keep hb;replace lb:mb<eD.heap.size:=by have:=hb.size;omega
   have Td:mk<mp:=by omega
   replace Gk:=mW.keep _ _ _ Gk hb;replace lk:mk<eD.heap.size:=by have:=hb.size;omega
   replace gp:w1.heap.size<=mp:=by have:=hx.size;omega
   replace hx:=Below.ay hx (ah _) hb;clear hb;refine⟨λ_=>hx,?_⟩;exact Z8
 . refine aj.Step.value (u:=.map (some bQ.heap.size)) (w':=bQ.alloc (.map #[] 0)) dQ ?_
   obtain⟨eD,bA,Gr,hb,dB⟩:∃w9,w9=bQ.alloc (.map #[] 0)/\GM 3 w9 bQ.heap.size 0 (λ_=>none)/\Below bQ.heap.size bQ w9/\bQ.heap.size<w9.heap.size:=⟨_,rfl,GM.made _ _,Below.alloc' (Below.refl _ _) _,by simp⟩;rw[<-bA];clear bA;obtain⟨mr,hmr⟩:∃q,bQ.heap.size=q:=⟨_,rfl⟩;rw[hmr]at Gr;rw[hmr];have gr:bQ.heap.size<=mr:=Nat.le_of_eq hmr;have lr:mr<eD.heap.size:=hmr▸dB;clear hmr dB;have Xo:mb<mr:=by omega
   replace Gb:=Gb.keep hb;replace lb:mb<eD.heap.size:=by have:=hb.size;omega
   have XK:mk<mr:=by omega
   replace Gk:=mW.keep _ _ _ Gk hb;replace lk:mk<eD.heap.size:=by have:=hb.size;omega
   replace gr:w1.heap.size<=mr:=by have:=hx.size;omega
   replace hx:=Below.ay hx (ah _) hb;clear hb;refine⟨λ_=>hx,?_⟩
   exact Z7):P:=h
theorem Zo(h:P:=by
 (try simp only[bF,bG,bH,tks])
 refine tk2 1 3 ?_ ?_
 . refine aj.Step.value (u:=.map (some bQ.heap.size)) (w':=bQ.alloc (.map #[] 0)) dQ ?_
   obtain⟨eD,bA,Gb,hb,dB⟩:∃w9,w9=bQ.alloc (.map #[] 0)/\GM 3 w9 bQ.heap.size 0 (λ_=>none)/\Below bQ.heap.size bQ w9/\bQ.heap.size<w9.heap.size:=⟨_,rfl,GM.made _ _,Below.alloc' (Below.refl _ _) _,by simp⟩;rw[<-bA];clear bA;obtain⟨mb,hmb⟩:∃q,bQ.heap.size=q:=⟨_,rfl⟩;rw[hmb]at Gb;rw[hmb];have gb:bQ.heap.size<=mb:=Nat.le_of_eq hmb;have lb:mb<eD.heap.size:=hmb▸dB;clear hmb dB;have XL:mk<mb:=by omega
   replace Gk:=mW.keep _ _ _ Gk hb;replace lk:mk<eD.heap.size:=by have:=hb.size;omega
   have Xo:mr<mb:=by omega
   replace Gr:=Gr.keep hb;replace lr:mr<eD.heap.size:=by have:=hb.size;omega
   replace gb:w1.heap.size<=mb:=by have:=hx.size;omega
   replace hx:=Below.ay hx (ah _) hb;clear hb;refine⟨λ_=>hx,?_⟩;exact Z7
 . refine aj.Step.value (u:=.map (some bQ.heap.size)) (w':=bQ.alloc (.map #[] 0)) dQ ?_
   obtain⟨eD,bA,Gp,hb,dB⟩:∃w9,w9=bQ.alloc (.map #[] 0)/\GM 112 w9 bQ.heap.size 0 (λ_=>none)/\Below bQ.heap.size bQ w9/\bQ.heap.size<w9.heap.size:=⟨_,rfl,GM.made _ _,Below.alloc' (Below.refl _ _) _,by simp⟩;rw[<-bA];clear bA;obtain⟨mp,hmp⟩:∃q,bQ.heap.size=q:=⟨_,rfl⟩;rw[hmp]at Gp;rw[hmp];have gp:bQ.heap.size<=mp:=Nat.le_of_eq hmp;have lp:mp<eD.heap.size:=hmp▸dB;clear hmp dB;have Td:mk<mp:=by omega
   replace Gk:=mW.keep _ _ _ Gk hb;replace lk:mk<eD.heap.size:=by have:=hb.size;omega
   have Jg:mr<mp:=by omega
   replace Gr:=Gr.keep hb;replace lr:mr<eD.heap.size:=by have:=hb.size;omega
   replace gp:w1.heap.size<=mp:=by have:=hx.size;omega
   replace hx:=Below.ay hx (ah _) hb;clear hb;refine⟨λ_=>hx,?_⟩
   exact Z9):P:=h
theorem Zp(h:P:=by
 (try simp only[bF,bG,bH,tks])
 refine tk2 1 4 ?_ ?_
 . refine aj.Step.value (u:=.map (some bQ.heap.size)) (w':=bQ.alloc (.map #[] 0)) dQ ?_
   obtain⟨eD,bA,Gb,hb,dB⟩:∃w9,w9=bQ.alloc (.map #[] 0)/\GM 3 w9 bQ.heap.size 0 (λ_=>none)/\Below bQ.heap.size bQ w9/\bQ.heap.size<w9.heap.size:=⟨_,rfl,GM.made _ _,Below.alloc' (Below.refl _ _) _,by simp⟩;rw[<-bA];clear bA;obtain⟨mb,hmb⟩:∃q,bQ.heap.size=q:=⟨_,rfl⟩;rw[hmb]at Gb;rw[hmb];have gb:bQ.heap.size<=mb:=Nat.le_of_eq hmb;have lb:mb<eD.heap.size:=hmb▸dB;clear hmb dB;have XL:mk<mb:=by omega
   replace Gk:=mW.keep _ _ _ Gk hb;replace lk:mk<eD.heap.size:=by have:=hb.size;omega
   have Xn:mp<mb:=by omega
   replace Gp:=Gp.keep hb;replace lp:mp<eD.heap.size:=by have:=hb.size;omega
   replace gb:w1.heap.size<=mb:=by have:=hx.size;omega
   replace hx:=Below.ay hx (ah _) hb;clear hb;refine⟨λ_=>hx,?_⟩;exact Z8
 . refine aj.Step.value (u:=.map (some bQ.heap.size)) (w':=bQ.alloc (.map #[] 0)) dQ ?_
   obtain⟨eD,bA,Gr,hb,dB⟩:∃w9,w9=bQ.alloc (.map #[] 0)/\GM 3 w9 bQ.heap.size 0 (λ_=>none)/\Below bQ.heap.size bQ w9/\bQ.heap.size<w9.heap.size:=⟨_,rfl,GM.made _ _,Below.alloc' (Below.refl _ _) _,by simp⟩;rw[<-bA];clear bA;obtain⟨mr,hmr⟩:∃q,bQ.heap.size=q:=⟨_,rfl⟩;rw[hmr]at Gr;rw[hmr];have gr:bQ.heap.size<=mr:=Nat.le_of_eq hmr;have lr:mr<eD.heap.size:=hmr▸dB;clear hmr dB;have XK:mk<mr:=by omega
   replace Gk:=mW.keep _ _ _ Gk hb;replace lk:mk<eD.heap.size:=by have:=hb.size;omega
   have Jg:mp<mr:=by omega
   replace Gp:=Gp.keep hb;replace lp:mp<eD.heap.size:=by have:=hb.size;omega
   replace gr:w1.heap.size<=mr:=by have:=hx.size;omega
   replace hx:=Below.ay hx (ah _) hb;clear hb;refine⟨λ_=>hx,?_⟩
   exact Z9):P:=h
theorem Zq(h:P:=by
 go_enter Tryz.func280,Tryz.ntmps280
 go_upto_region 2 with(fail)
 generalize hW:World.alloc (World.alloc (World.alloc (World.alloc _ _) _) _) _=W1;have hX:bW W1 w.heap.size (w.heap.size+1) (w.heap.size+1+1) (w.heap.size+1+1+1) left 0 0 1:=hW▸nV w left;have hB:Below w.heap.size w W1:=hW▸mQ w _ _ _ _;clear hW;obtain⟨m2,m3,m4⟩:w.heap.size<=w.heap.size+1/\w.heap.size<=w.heap.size+1+1/\w.heap.size<=w.heap.size+1+1+1:=⟨by omega,by omega,by omega⟩;generalize w.heap.size+1+1+1=b4 at *;generalize w.heap.size+1+1=b3 at *;generalize w.heap.size+1=b2 at *;have HX:=Lib.hid hX;obtain⟨c1,c2,c3,c4⟩:=hX.cells;obtain⟨z2,z3,z4,l2,l3,l4⟩:=hX.Fz;have l1:=hX.a1.lt;have n23:=hX.n23;have n24:=hX.n24;have n34:=hX.n34;have n32:=hX.n23.symm;have n42:=hX.n24.symm;have n43:=hX.n34.symm;clear hX;go_wp2
 go_ret
 exact⟨⟨_,_,_,_,rfl,HX.out⟩,hB⟩):P:=h
theorem Zr(h:P:=by
 replace hx:=Below.ay hx (ah _) hb;clear hb;refine⟨λ_=>hx,?_⟩
 (try simp only[bF,bG,bH,tks])
 refine tk2 2 3 ?_ ?_
 . refine aj.Step.call dQ (jI _) ?_
   rintro e eD ⟨⟨mk,rfl,gk,Gk⟩,hb⟩;have lk:mk<eD.heap.size:=by obtain⟨_,_,q,_⟩:=Gk;exact q.lt
   have XL:mb<mk:=by omega
   replace Gb:=Gb.keep hb;replace lb:mb<eD.heap.size:=by have:=hb.size;omega
   have XK:mr<mk:=by omega
   replace Gr:=Gr.keep hb;replace lr:mr<eD.heap.size:=by have:=hb.size;omega
   replace gk:w1.heap.size<=mk:=by have:=hx.size;omega
   replace hx:=Below.ay hx (ah _) hb;clear hb;refine⟨_,rfl,λ_=>hx,?_⟩;exact Z7
 . refine aj.Step.value (u:=.map (some bQ.heap.size)) (w':=bQ.alloc (.map #[] 0)) dQ ?_
   obtain⟨eD,bA,Gp,hb,dB⟩:∃w9,w9=bQ.alloc (.map #[] 0)/\GM 112 w9 bQ.heap.size 0 (λ_=>none)/\Below bQ.heap.size bQ w9/\bQ.heap.size<w9.heap.size:=⟨_,rfl,GM.made _ _,Below.alloc' (Below.refl _ _) _,by simp⟩;rw[<-bA];clear bA;obtain⟨mp,hmp⟩:∃q,bQ.heap.size=q:=⟨_,rfl⟩;rw[hmp]at Gp;rw[hmp];have gp:bQ.heap.size<=mp:=Nat.le_of_eq hmp;have lp:mp<eD.heap.size:=hmp▸dB;clear hmp dB;have Xn:mb<mp:=by omega
   replace Gb:=Gb.keep hb;replace lb:mb<eD.heap.size:=by have:=hb.size;omega
   have Jg:mr<mp:=by omega
   replace Gr:=Gr.keep hb;replace lr:mr<eD.heap.size:=by have:=hb.size;omega
   replace gp:w1.heap.size<=mp:=by have:=hx.size;omega
   exact Zc):P:=h
theorem Zs(h:P:=by
 replace hx:=Below.ay hx (ah _) hb;clear hb;refine⟨λ_=>hx,?_⟩
 (try simp only[bF,bG,bH,tks])
 refine tk2 2 4 ?_ ?_
 . refine aj.Step.call dQ (jI _) ?_
   rintro e eD ⟨⟨mk,rfl,gk,Gk⟩,hb⟩;have lk:mk<eD.heap.size:=by obtain⟨_,_,q,_⟩:=Gk;exact q.lt
   have XL:mb<mk:=by omega
   replace Gb:=Gb.keep hb;replace lb:mb<eD.heap.size:=by have:=hb.size;omega
   have Td:mp<mk:=by omega
   replace Gp:=Gp.keep hb;replace lp:mp<eD.heap.size:=by have:=hb.size;omega
   replace gk:w1.heap.size<=mk:=by have:=hx.size;omega
   replace hx:=Below.ay hx (ah _) hb;clear hb;refine⟨_,rfl,λ_=>hx,?_⟩;exact Z8
 . refine aj.Step.value (u:=.map (some bQ.heap.size)) (w':=bQ.alloc (.map #[] 0)) dQ ?_
   obtain⟨eD,bA,Gr,hb,dB⟩:∃w9,w9=bQ.alloc (.map #[] 0)/\GM 3 w9 bQ.heap.size 0 (λ_=>none)/\Below bQ.heap.size bQ w9/\bQ.heap.size<w9.heap.size:=⟨_,rfl,GM.made _ _,Below.alloc' (Below.refl _ _) _,by simp⟩;rw[<-bA];clear bA;obtain⟨mr,hmr⟩:∃q,bQ.heap.size=q:=⟨_,rfl⟩;rw[hmr]at Gr;rw[hmr];have gr:bQ.heap.size<=mr:=Nat.le_of_eq hmr;have lr:mr<eD.heap.size:=hmr▸dB;clear hmr dB;have Xo:mb<mr:=by omega
   replace Gb:=Gb.keep hb;replace lb:mb<eD.heap.size:=by have:=hb.size;omega
   have Jg:mp<mr:=by omega
   replace Gp:=Gp.keep hb;replace lp:mp<eD.heap.size:=by have:=hb.size;omega
   replace gr:w1.heap.size<=mr:=by have:=hx.size;omega
   exact Zc):P:=h
theorem Zt(h:P:=by
 replace hx:=Below.ay hx (ah _) hb;clear hb;refine⟨λ_=>hx,?_⟩
 (try simp only[bF,bG,bH,tks])
 refine tk2 1 2 ?_ ?_
 . refine aj.Step.value (u:=.map (some bQ.heap.size)) (w':=bQ.alloc (.map #[] 0)) dQ ?_
   obtain⟨eD,bA,Gb,hb,dB⟩:∃w9,w9=bQ.alloc (.map #[] 0)/\GM 3 w9 bQ.heap.size 0 (λ_=>none)/\Below bQ.heap.size bQ w9/\bQ.heap.size<w9.heap.size:=⟨_,rfl,GM.made _ _,Below.alloc' (Below.refl _ _) _,by simp⟩;rw[<-bA];clear bA;obtain⟨mb,hmb⟩:∃q,bQ.heap.size=q:=⟨_,rfl⟩;rw[hmb]at Gb;rw[hmb];have gb:bQ.heap.size<=mb:=Nat.le_of_eq hmb;have lb:mb<eD.heap.size:=hmb▸dB;clear hmb dB;have Xn:mp<mb:=by omega
   replace Gp:=Gp.keep hb;replace lp:mp<eD.heap.size:=by have:=hb.size;omega
   have Xo:mr<mb:=by omega
   replace Gr:=Gr.keep hb;replace lr:mr<eD.heap.size:=by have:=hb.size;omega
   replace gb:w1.heap.size<=mb:=by have:=hx.size;omega
   exact Zc
 . refine aj.Step.call dQ (jI _) ?_
   rintro e eD ⟨⟨mk,rfl,gk,Gk⟩,hb⟩;have lk:mk<eD.heap.size:=by obtain⟨_,_,q,_⟩:=Gk;exact q.lt
   have Td:mp<mk:=by omega
   replace Gp:=Gp.keep hb;replace lp:mp<eD.heap.size:=by have:=hb.size;omega
   have XK:mr<mk:=by omega
   replace Gr:=Gr.keep hb;replace lr:mr<eD.heap.size:=by have:=hb.size;omega
   replace gk:w1.heap.size<=mk:=by have:=hx.size;omega
   replace hx:=Below.ay hx (ah _) hb;clear hb;refine⟨_,rfl,λ_=>hx,?_⟩
   exact Z9):P:=h
theorem Zu(h:P:=by
 refine bodyPost_end (results_none rfl _ _ _) rfl ⟨rfl,?_,Out.set (hO.mono λ_ _ q=>q.elim .inl λq => .inr (.inl q)) (.inr (.inr rfl)) _ _⟩;rw[wu.out];simp only[Bool.not_true,Bool.or_false]
 exact Here.held hA h1' hp _):P:=h
theorem Zv(h:P:=by
 refine xP ?_
 (repeat (first|refine nN ?_ | refine nO ?_ (hc:=by intro w2 hS;first|with_reducible exact nI hS (ji _ _ _ _ _ _ _ _))|refine nP ?_))
 refine aj.bZ ?_;intro w2 hS;go_wp2
 go_ret
 exact⟨bI E.out,Below.ay hB (ah _) hS⟩):P:=h
theorem Zw(h:P:=by
 rw[<-heq.out,he0]at key
 have hF4:Hid (Tg (splice cs (k*5) (wz x.it)) it (k+1)):=Lib.hid λi hi j hj=>by
  have hsz:k*5+(wz x.it).size<=cs.size:=by rw[iC];exact hfit
  by_cases ei:i=k
  . subst ei
    rw[nW hsz (by rw[iC];exact hj),hiq.out]
  . rw[iP hsz (.inl ak)]
    exact hF i ak j hj
 have af2:Hid ((splice cs (k*5) (wz x.it)).size=m*5):=Lib.hid (by rw[je (by rw[iC];exact hfit)];exact hcs);have HA4:=Lib.hid A4;have Ji:=Lib.hid hB4;clear hW A2 A3 hB3 Jr HLD l2 A4 hB4 he0 hfit
 go_upto_region 8 with(first|(go_at_call 273;(with_reducible refine key.mono ?_);rintro e w5 ⟨rfl,hb5⟩)|(refine dn aU _ rfl rfl (by assumption) ?_)|(refine dX aU _ rfl rfl (by assumption) ?_)|(refine bV aU rfl ?_)|(refine bO aU _ _ rfl rfl rfl za ?_))
 have A6:=HA4.out.keep hb5;have ED:=Below.ay Ji.out (ah _) hb5;clear hb5 key A5 XQ;go_wp2
 go_roundw
 case rel=>exact⟨k+1,_,by omega,by go_num,by rw[hlk.out],A6,af2.out,hF4.out,ED⟩
 case measure=>simp[intOf];omega):P:=h
theorem Zx(h:P:=by
 replace hx:=Below.ay hx (ah _) hb;clear hb;refine⟨λ_=>hx,?_⟩
 (try simp only[bF,bG,bH,tks])
 refine tk1 5 ?_;refine aj.Step.value (dH (λi=>szl.getD i 0) (n:=m) (.tmp 37) (.tmp 37) rfl rfl rfl ak) ?_;obtain⟨EC,bA,As,hb⟩:∃w9,w9=oQ.alloc (.cells (aK (λi=>szl.getD i 0) m 0) 3)/\At w9 oQ.heap.size (.cells (aK (λi=>szl.getD i 0) m 0) 3)/\Below oQ.heap.size oQ w9:=⟨_,rfl,At.new _ _,Below.alloc' (Below.refl _ _) _⟩;rw[<-bA];clear bA;have gs:=hx.size;obtain⟨Ts,hTs⟩:∃q,oQ.heap.size=q:=⟨_,rfl⟩;rw[hTs]at As gs;rw[hTs];have nsu:Tu<Ts:=by have:=Au.lt;omega
 replace Au:=Au.keep hb;have nsv:Tv<Ts:=by have:=Av.lt;omega
 replace Av:=Av.keep hb;clear hTs;replace hx:=Below.ay hx (ah _) hb;clear hb;refine⟨λ_=>hx,?_⟩
 (try simp only[bF,bG,bH,tks])
 refine aH 18 ?_;refine aH 19 ?_
 exact Z25):P:=h
theorem Zy(h:P:=by
 (try simp only[bF,bG,bH,tks])
 refine tk1 5 ?_;refine aj.Step.call XP (iO _ _ _ _ _) ?_;rintro e wK ⟨rfl,hb⟩;replace Ap:=Ap.keep hb;replace Aq:=Aq.keep hb;replace hx:=Below.ay hx (ah _) hb;clear hb;refine⟨_,rfl,λ_=>hx,?_⟩
 exact Z1):P:=h
theorem Zz(h:P:=by
 refine aH 18 ?_;refine aH 19 ?_;refine aH 20 ?_;refine aH 21 ?_;refine aH 22 ?_;refine aH 23 ?_;refine jY ?_;replace A0:=A0.keep hx;replace A1:=A1.keep hx;replace A2:=A2.keep hx;have hBx:Below w.heap.size w _:=Below.ay hB1 (ah _) hx;clear l0 aA aB bB lY wV wW zf zh zi zk l2 aN aO aP aQ aZ bq aX aY c44 Jj hlk;obtain⟨l3,bL,bM⟩:=At.two A2;obtain⟨l4,fA,fB⟩:=At.two A1;have iQ:=A1.thaw 0;have iR:=A1.thaw 1;have lw:w.heap.size+1<w.heap.size+1+1:=by omega
 go_wp2;generalize hW:World.setCell _ _ _=W6;replace A1:At W6 (w.heap.size+1) (.cells #[.int .i64 (-1),.int .i64 (-1)] 108):=hW▸At.set (At.set A1 0 _) 1 _;have ED:Below w.heap.size w W6:=by
  rw[<-hW];exact Below.setCell (Below.setCell hBx (Nat.le_succ _) _) (Nat.le_succ _) _
 exact Z2u):P:=h
theorem Z10(h:P:=by
 (try simp only[bF,bG,bH,tks])
 refine tk1 15 ?_;refine aj.Step.value (u:=.pointer (some ⟨EC.heap.size,0,none⟩)) (w':=EC.alloc (.cells #[.int .i64 0,.int .i64 0,.int .i64 0,.int .i64 0,.int .i64 0,.int .i64 0,.int .i64 0] 114)) dQ ?_;obtain⟨x14,bA,Ap,hb⟩:∃w9,w9=EC.alloc (.cells #[.int .i64 0,.int .i64 0,.int .i64 0,.int .i64 0,.int .i64 0,.int .i64 0,.int .i64 0] 114)/\At w9 EC.heap.size (.cells #[.int .i64 0,.int .i64 0,.int .i64 0,.int .i64 0,.int .i64 0,.int .i64 0,.int .i64 0] 114)/\Below EC.heap.size EC w9:=⟨_,rfl,At.new _ _,Below.alloc' (Below.refl _ _) _⟩;rw[<-bA];clear bA;have gp:=hx.size;obtain⟨Tp,lG⟩:∃q,EC.heap.size=q:=⟨_,rfl⟩;have np:¬ P2 Tp:=λh=>by have:=oN.lt _ h;omega
 rw[lG]at Ap gp;rw[lG];have Qp:Tq<Tp:=by have:=Aq.lt;omega
 clear lG;replace Aq:=Aq.keep hb
 exact Z3v):P:=h
theorem Z11(h:P:=by
 refine tk1 10 ?_;have lp:=Ap.lt;have zp0:=Ap.thaw 0;have zp1:=Ap.thaw 1;obtain⟨_,Mt,Mv⟩:=At.two Ap;refine aj.Step.skip dQ ?_;generalize hW:World.setCell _ _ _=x1;have Ap2:At x1 Tp (.cells #[.int .i64 e0,.int .i64 e1] 108):=hW▸At.set (At.set Ap 0 _) 1 _;have hx1:Below w1.heap.size w1 x1:=by rw[<-hW];exact Below.setCell (Below.setCell hx gp _) gp _
 refine⟨λ_=>hx1,?_⟩
 (try simp only[bF,bG,bH,tks])
 refine jY ?_
 exact⟨rfl,Tp,_,_,_,_,_,_,_,_,_,rfl,gp,Ap2,hx1⟩):P:=h
theorem Z12(h:P:=by
 obtain⟨it,ld,b,m0,m1,m2,m3⟩:=x;have hlt:B<w.heap.size:=World.block_lt_of_cell? _ _ h;go_enter Tryz.func278,Tryz.ntmps278
 go_upto_region 1 with(fail)
 have hB:Below w.heap.size w (w.alloc (.cells (nJ ⟨it,ld,b,m0,m1,m2,m3⟩) 283)):=Below.alloc' (Below.refl _ _) _;generalize hW:World.alloc _ _=W0;have A0:At W0 w.heap.size (.cells (nJ ⟨it,ld,b,m0,m1,m2,m3⟩) 283):=hW▸At.new _ _;replace hB:Below w.heap.size w W0:=hW▸hB;have lB:B<W0.heap.size:=aR hlt hB.size;have cB:=(Below.cell_ hB hlt 0).trans h;clear hW h hlt;obtain⟨l0,-, -, -, -, -, -, -, -, d0,d1,-, -, -, c1,c2,c3,c4⟩:=At.im A0;simp only at d0 d1 c1 c2 c3 c4
 exact Z1l):P:=h
theorem Z13(h:P:=by
 refine aH 19 ?_;refine tk1 17 ?_;refine aj.Step.value (dH (λi=>sP.getD i 0) (n:=m) (.tmp 49) (.tmp 49) rfl rfl rfl ak) ?_;obtain⟨EC,bA,Au,hb⟩:∃w9,w9=oQ.alloc (.cells (aK (λi=>sP.getD i 0) m 0) 3)/\At w9 oQ.heap.size (.cells (aK (λi=>sP.getD i 0) m 0) 3)/\Below oQ.heap.size oQ w9:=⟨_,rfl,At.new _ _,Below.alloc' (Below.refl _ _) _⟩;rw[<-bA];clear bA;have gu:=hx.size;obtain⟨Tu,MC⟩:∃q,oQ.heap.size=q:=⟨_,rfl⟩;rw[MC]at Au gu;rw[MC];have nsu:Ts<Tu:=by have:=As.lt;omega
 replace As:=As.keep hb;have nuv:Tv<Tu:=by have:=Av.lt;omega
 replace Av:=Av.keep hb;clear MC;replace hx:=Below.ay hx (ah _) hb;clear hb;refine⟨λ_=>hx,?_⟩
 (try simp only[bF,bG,bH,tks])
 exact Z25):P:=h
theorem Z14(h:P:=by
 refine tk1 11 ?_;refine aj.Step.value (dH (λi=>tZ.getD i 0) (n:=m) (.tmp 43) (.tmp 43) rfl rfl rfl ak) ?_;obtain⟨EC,bA,Av,hb⟩:∃w9,w9=oQ.alloc (.cells (aK (λi=>tZ.getD i 0) m 0) 3)/\At w9 oQ.heap.size (.cells (aK (λi=>tZ.getD i 0) m 0) 3)/\Below oQ.heap.size oQ w9:=⟨_,rfl,At.new _ _,Below.alloc' (Below.refl _ _) _⟩;rw[<-bA];clear bA;have gv:=hx.size;obtain⟨Tv,ME⟩:∃q,oQ.heap.size=q:=⟨_,rfl⟩;rw[ME]at Av gv;rw[ME];have nsv:Ts<Tv:=by have:=As.lt;omega
 replace As:=As.keep hb;have nuv:Tu<Tv:=by have:=Au.lt;omega
 replace Au:=Au.keep hb;clear ME;replace hx:=Below.ay hx (ah _) hb;clear hb;refine⟨λ_=>hx,?_⟩
 (try simp only[bF,bG,bH,tks])
 refine aH 19 ?_
 exact Z25):P:=h
theorem Z15(h:P:=by
 refine xP ?_
 (repeat (first|refine nN ?_ | refine nO ?_ (hc:=by intro w2 hS;first|with_reducible exact nI hS (dV _ _ _))|refine nP ?_))
 refine aj.bZ ?_;intro w2 hS;go_wp2
 go_ret
 exact⟨bI (by rw[<-E.out];(try simp only[uJ,qZ]);(try rfl)),Below.ay hB (ah _) hS⟩):P:=h
theorem Z16(h:P:=by
 have hO:Out (XR mine bs bw) w w:=Out.refl _ _;go_enter Tryz.func249,Tryz.ntmps249
 go_wp2;refine wp_loop_rounds 5 ?_;rw[rounds_succ]
 go_wp2_with (go_at_call 248;(with_reducible refine(rC hA h hp aG rfl rfl).mono ?_);rintro e w1 ⟨rfl,h1,iA⟩;replace hO:=hO.trans iA;clear h iA)
 rw[rounds_succ]
 go_wp2_with (go_at_call 248;(with_reducible refine(rC hA h1 hp aG rfl rfl).mono ?_);rintro e w2 ⟨rfl,h2,iA⟩;replace hO:=hO.trans iA;clear h1 iA)
 rw[rounds_succ]
 go_wp2_with (go_at_call 248;(with_reducible refine(rC hA h2 hp aG rfl rfl).mono ?_);rintro e w3 ⟨rfl,h3,iA⟩;replace hO:=hO.trans iA;clear h2 iA)
 rw[rounds_succ]
 go_wp2_with (go_at_call 248;(with_reducible refine(rC hA h3 hp aG rfl rfl).mono ?_);rintro e w4 ⟨rfl,h4,iA⟩;replace hO:=hO.trans iA;clear h3 iA)
 rw[rounds_succ];go_wp2
 go_end0
 exact⟨rfl,h4,hO⟩):P:=h
theorem Z17(h:P:=by
 go_wp2_with (first|(go_at_call 219;with_reducible refine wL (zl _ _ _ _) ?_))
 go_meet
 case rel=>exact⟨by rw[HK.out],rfl⟩):P:=h
theorem Z18(h:P:=by
 (try simp only[bF,bG,bH,tks])
 refine tk1 3 ?_;refine aj.Step.call dQ (Cq A (Fe.ws gr S n) _ c (Fe.free gr room S n) _ (Xq.after hx) hL ak) ?_;rintro e w4 ⟨⟨b,rfl,hbb,Ti⟩,hb⟩;have hx3:=hx.size;replace hx:=Below.ay hx (ah _) hb;replace qx:=qx.keep hb;have hc9:w4.cell? ⟨B5,0,none⟩=some (.slice none 0 0):=qx.cell 0;have hz9:=qx.thaw 0;have hl9:=qx.lt;have hx4:=hx.size;clear hb;refine⟨_,rfl,λ_=>⟨(hV.keep hx).cell 0,(hB1.keep hx).cell 0⟩,?_⟩
 (try simp only[bF,bG,bH,tks])
 refine tk1 5 ?_;refine aj.Step.skip Z4o ?_;refine⟨by first|(intro hlt;exact absurd hlt aG)|(intro _;omega),?_⟩;(try simp only[Act.put]);refine jY ?_
 exact⟨rfl,b,B5,rfl,by omega,by omega,qx.set 0 _,Ti.off ak _,Below.setCell hx ak _⟩):P:=h
theorem Z19(h:P:=by
 have hO:Out (XR mine bs bw) w w:=Out.refl _ _;go_enter Tryz.func250,Tryz.ntmps250
 go_wp2;refine wp_loop_rounds 5 ?_;rw[rounds_succ]
 go_wp2_with (go_at_call 251;(with_reducible refine(xX hA h hp aG rfl).mono ?_);rintro e w1 ⟨rfl,h1,iA⟩;replace hO:=hO.trans iA;clear h iA)
 rw[rounds_succ]
 go_wp2_with (go_at_call 251;(with_reducible refine(xX hA h1 hp aG rfl).mono ?_);rintro e w2 ⟨rfl,h2,iA⟩;replace hO:=hO.trans iA;clear h1 iA)
 rw[rounds_succ]
 go_wp2_with (go_at_call 251;(with_reducible refine(xX hA h2 hp aG rfl).mono ?_);rintro e w3 ⟨rfl,h3,iA⟩;replace hO:=hO.trans iA;clear h2 iA)
 rw[rounds_succ]
 go_wp2_with (go_at_call 251;(with_reducible refine(xX hA h3 hp aG rfl).mono ?_);rintro e w4 ⟨rfl,h4,iA⟩;replace hO:=hO.trans iA;clear h3 iA)
 rw[rounds_succ];go_wp2
 go_end0
 exact⟨rfl,h4,hO⟩):P:=h
theorem Z1a(h:P:=by
 clear gX hg1 hg0;refine xP ?_
 (repeat (first|refine nN ?_ | refine nO ?_ (hc:=by intro w2 hS;first|with_reducible exact nI hS (ji _ _ _ _ _ _ _ _))|refine nP ?_))
 refine aj.bZ ?_;intro w2 hS;replace A0:=A0.keep hS;replace A2:=A2.keep hS;replace hB:=Below.ay hB (ah _) hS;clear l0 aA aB l2 aN aO aP aQ aZ bq aX aY hS hfx;obtain⟨l0,aA,aB⟩:=A0.two
 go_upto_region 5 with(fail)
 refine xP ?_
 (repeat (first|refine nN ?_ | refine nO ?_ (hc:=by intro w2 hS;first|with_reducible exact nI hS (fZ _ _ _ _ _ _ _ _ Z55)|with_reducible exact nI hS (dV _ _ _))|refine nP ?_))
 refine aj.bZ ?_;intro w2 hS;go_wp2
 go_ret
 exact⟨bI (by rw[<-E.out];(try simp only[uJ,qZ]);rfl),Below.ay hB (ah _) hS⟩):P:=h
theorem Z1b(h:P:=by
 (try simp only[bF,bG,bH,tks])
 refine tk1 7 ?_;refine aj.Step.value (u:=.pointer (some ⟨eD.heap.size,0,none⟩)) (w':=eD.alloc (.cells #[.int .i64 0,.int .i64 0,.int .i64 0,.int .i64 0] 193)) dQ ?_;obtain⟨wK,bA,Aq,hb⟩:∃w9,w9=eD.alloc (.cells #[.int .i64 0,.int .i64 0,.int .i64 0,.int .i64 0] 193)/\At w9 eD.heap.size (.cells #[.int .i64 0,.int .i64 0,.int .i64 0,.int .i64 0] 193)/\Below eD.heap.size eD w9:=⟨_,rfl,At.new _ _,Below.alloc' (Below.refl _ _) _⟩;rw[<-bA];clear bA;have gq:=hx.size;obtain⟨Tq,oF⟩:∃q,eD.heap.size=q:=⟨_,rfl⟩;rw[oF]at Aq gq;rw[oF];have kq:eD.heap.size<=Tq:=Nat.le_of_eq oF;clear oF;have Qp:Tp≠Tq:=by have:=Ap.lt;omega
 replace Ap:=Ap.keep hb;replace hx:=Below.ay hx (ah _) hb;clear hb;refine⟨λ_=>hx,?_⟩
 exact Z1):P:=h
theorem Z1c(h:P:=by
 (try simp only[bF,bG,bH,tks])
 refine tk1 6 ?_;refine aj.Step.value (u:=.pointer (some ⟨eD.heap.size,0,none⟩)) (w':=eD.alloc (.cells #[.int .i64 0,.int .i64 0,.int .i64 0,.int .i64 0] 193)) dQ ?_;obtain⟨wK,bA,Ap,hb⟩:∃w9,w9=eD.alloc (.cells #[.int .i64 0,.int .i64 0,.int .i64 0,.int .i64 0] 193)/\At w9 eD.heap.size (.cells #[.int .i64 0,.int .i64 0,.int .i64 0,.int .i64 0] 193)/\Below eD.heap.size eD w9:=⟨_,rfl,At.new _ _,Below.alloc' (Below.refl _ _) _⟩;rw[<-bA];clear bA;have gp:=hx.size;obtain⟨Tp,lG⟩:∃q,eD.heap.size=q:=⟨_,rfl⟩;rw[lG]at Ap gp;rw[lG];have kp:eD.heap.size<=Tp:=Nat.le_of_eq lG;clear lG;have Qp:Tq≠Tp:=by have:=Aq.lt;omega
 replace Aq:=Aq.keep hb;replace hx:=Below.ay hx (ah _) hb;clear hb;refine⟨λ_=>hx,?_⟩
 exact Z1):P:=h
theorem Z1d(h:P:=by
 clear hfx;refine kQ (S:=λX=>Below W5.heap.size W5 X) 15 ?_ ?_
 . exact hSd
 intro hx;clear hSd;refine aH 0 ?_;refine aH 1 ?_;refine aH 2 ?_;refine aH 3 ?_;refine aH 4 ?_;refine aH 5 ?_;refine aH 6 ?_;refine aH 7 ?_;refine rD 8 rfl (pO (.tmp 38) aU rfl rfl (λX h=>Bc.out.keep h)) ?_;refine aH 9 ?_;refine aH 10 ?_;refine aH 11 ?_;refine tk1 12 ?_;refine aj.Step.call Z4t (ji _ _ _ _ _ _ _ _) ?_;rintro e' w6 ⟨rfl,hb⟩;rw[SA.out];replace hx:=Below.ay hx (ah _) hb;clear hb;refine⟨_,rfl,λ_=>hx,?_⟩
 (try simp only[bF,bG,bH,tks])
 refine aH 13 ?_;refine aH 14 ?_;refine jY ?_
 exact⟨rfl,_,_,_,_,_,_,_,_,_,_,_,_,_,_,_,rfl,HBB,hx⟩):P:=h
theorem Z1e(h:P:=by
 generalize hW:World.setCell _ _ _=W5;have A5:At W5 b (.cells (aK v m (k+1)) 3):=by rw[<-hW,<-j3 _ hlt];exact A4.set k _
 have ru:Below w.heap.size w W5:=hW▸Below.setCell (Below.ay hB3 (ah _) hb4) (Nat.le_of_eq hsz) _;clear hW A4 A3 A2 hb4 lb4 zb4 cb4;go_wp2
 go_roundw
 case rel=>exact⟨k+1,by omega,by go_num,A5,ru⟩
 case measure=>simp[intOf];omega):P:=h
theorem Z1f(h:P:=by
 rintro e w' ⟨rfl,h1,hO⟩;rw[sQ,uK f t hb,<-Re.Js hb,<-xY]at h1
 exact⟨rfl,h1,hO⟩):P:=h
theorem Z1g(h:P:=by
 (try simp only[bF,bG,bH,tks])
 refine tk1 16 ?_;refine aj.Step.value (eO rfl) ?_;obtain⟨x14,bA,Aq,hb⟩:∃w9,w9=EC.alloc (.cells (cells Re.zero) 51)/\At w9 EC.heap.size (.cells (cells Re.zero) 51)/\Below EC.heap.size EC w9:=⟨_,rfl,At.new _ _,Below.alloc' (Below.refl _ _) _⟩;rw[<-bA];clear bA;have gq:=hx.size;obtain⟨Tq,oF⟩:∃q,EC.heap.size=q:=⟨_,rfl⟩;have nq:¬ P2 Tq:=λh=>by have:=oN.lt _ h;omega
 rw[oF]at Aq gq;rw[oF];have Qp:Tp<Tq:=by have:=Ap.lt;omega
 clear oF;replace Ap:=Ap.keep hb
 exact Z3v):P:=h
theorem Z1h(h:P:=by
 refine tk1 19 ?_;have lT:=AT.lt;have cT0:=AT.cell 0;have cT1:=AT.cell 1;simp only[List.getElem?_toArray,List.getElem?_cons_zero,List.getElem?_cons_succ]at cT0 cT1;have zT0:=AT.thaw 0;have zT1:=AT.thaw 1;refine aj.Step.skip dQ ?_;generalize hW:World.setCell _ _ _=cZ;have AT2:At cZ T (.cells #[.int .i64 x.ld.s0,.int .i64 hh] 108):=hW▸(AT.set 0 _).set 1 _;have hx2:Below w7.heap.size w7 cZ:=hW▸Below.setCell (Below.setCell hx gT _) gT _;refine⟨λ_=>hx2,?_⟩
 (try simp only[bF,bG,bH,tks])
 refine jY ?_
 exact⟨rfl,T,_,_,_,_,_,_,_,_,_,_,_,_,_,_,_,_,_,_,rfl,gT,AT2,hx2⟩):P:=h
theorem Z1i(h:P:=by
 (try simp only[bF,bG,bH,tks])
 refine tk1 8 ?_;have lT:=AT.lt;have cT0:=AT.cell 0;have cT1:=AT.cell 1;simp only[List.getElem?_toArray,List.getElem?_cons_zero,List.getElem?_cons_succ]at cT0 cT1;have zT0:=AT.thaw 0;have zT1:=AT.thaw 1;refine aj.Step.skip dQ ?_;generalize hW:World.setCell _ _ _=cZ;have AT2:At cZ U (.cells #[.int .i64 cs0,.int .i64 (-1)] 108):=hW▸(AT.set 0 _).set 1 _;have hx2:Below wr.heap.size wr cZ:=hW▸Below.setCell (Below.setCell hx gT _) gT _;refine⟨λ_=>hx2,?_⟩
 (try simp only[bF,bG,bH,tks])
 refine jY ?_
 exact⟨rfl,U,_,_,_,_,_,_,_,rfl,gT,AT2,hx2⟩):P:=h
theorem Z1j(h:P:=by
 rw[hf]at d7;generalize Fe.left room S k=u at *;generalize (S k).x.b=v0 at *;generalize (S k).x.lo=v1 at *;generalize (S k).x.hi=v2 at *;generalize (S k).x.g=v3 at *;generalize (S k).x.s=v4 at *;generalize (S k).z=v5 at *;generalize (S k).m=v6 at *;go_wp2
 go_roundw
 case rel=>exact⟨k+1,by omega,by go_num,by rw[HL.out],by(repeat (first|exact Below.refl _ _ | assumption|refine Below.drew ?_ | refine Below.drewN ?_ _ | refine Below.alloc' ?_ _ | refine Below.setCell ?_ Z53 _ | refine Below.ay ?_ (ah _) (by assumption)))⟩
 case measure=>simp[intOf];omega):P:=h
theorem Z1k(h:P:=by
 go_wp2;rw[rounds_succ];go_wp2;refine bodyPost_end (results_none rfl _ _ _) rfl ⟨rfl,?_,Out.trans' (Out.of_below hW1) hQ λb _ q=>q⟩;rw[show x0=Fw.yZ s 0 r0 a0 from by rw[<-HX0.out];exact if_pos HP.out,show x1=Fw.yZ s 1 r1 a1 from by rw[<-EF.out];exact if_pos HP.out,Ta.out]
 exact AR):P:=h
theorem Z1l(h:P:=by
 refine xP ?_
 (repeat (first|refine nN ?_ | refine nO ?_ (hc:=by intro w2 hS;first|with_reducible exact nI hS (dV _ _ _))|refine nP ?_))
 exact Z42):P:=h
theorem Z1m(h:P:=by
 have GR:=Lib.hid hop;clear hop
 go_wp2_with ((go_at_call 225;(with_reducible refine(Cr bz s (.slice A fl.length cp) va ib _ A2).mono ?_);rintro e w3 ⟨rfl,hb⟩;replace AM:=AM.keep hb;replace hB:=Below.ay hB (ah _) hb;replace A2:=At.keep A2 hb;replace qp:=((kP hb).1 _ _ l2).trans qp;replace l2:=aR l2 hb.size;clear hb;rw[GR.out]))
 refine bodyPost_ret (results_tmp rfl _ _ _) rfl ⟨⟨_,rfl,?_⟩,hB⟩;have hm:Fw.meet B 1 0 z=[Fw.mg s 1 1 (-1)]:=by
  simp only[Fw.meet,hs]
 rw[hm]
 exact qD AM hgm):P:=h
theorem Z1n(h:P:=by
 have GR:=Lib.hid hop;clear hop
 go_wp2_with ((go_at_call 225;(with_reducible refine(Ct bz s (.slice A fl.length cp) va ib _ A2).mono ?_);rintro e w3 ⟨rfl,hb⟩;replace AM:=AM.keep hb;replace hB:=Below.ay hB (ah _) hb;replace A2:=At.keep A2 hb;replace qp:=((kP hb).1 _ _ l2).trans qp;replace l2:=aR l2 hb.size;clear hb;rw[GR.out]))
 refine bodyPost_ret (results_tmp rfl _ _ _) rfl ⟨⟨_,rfl,?_⟩,hB⟩;have hm:Fw.meet B 0 0 z=[Fw.mg s 1 0 (-1)]:=by
  simp only[Fw.meet,hs]
 rw[hm]
 exact qD AM hgm):P:=h
theorem Z1o(h:P:=by
 intro l i W G hi hG
 (simp only[List.setIfInBounds_toArray,List.set_cons_zero,List.set_cons_succ]at hG)
 gi_wp2
 first|exact hG|simpa using hG):P:=h
theorem Z1p(h:P:=by
 clear e1;go_wp2
 go_meet
 case rel=>exact⟨by rw[E1.out],Below.refl _ _⟩):P:=h
theorem Z1q(h:P:=by
 refine bodyPost_end (results_none rfl _ _ _) rfl ⟨rfl,⟨?_,?_,?_⟩,?_⟩
 . rw[xY,HX.out]
   exact hA.set _ _ _ _ _ h2.i hp.nb
 . have:=a2.set k (.bool (f k (Re.num t k)==1))
   rw[GU f t HB.out,<-HY.out]at this;exact this
 . rw[<-HY.out]
   exact h2.w.off (Ne.symm hp.ne) _ _
 . refine Out.set ?_ (.inr (.inl rfl)) _ _
   exact Out.trans' (Out.of_below (Below.alloc' (Below.refl _ _) _)) hO2 λb hb q=>q.elim .inl λq=>q.elim (λq=>absurd q (dh hb)) λq => .inr (.inr q)):P:=h
theorem Z1r(h:P:=by
 go_enter Tryz.func114,Tryz.ntmps114
 go_wp2_with (go_at_call 100;first|((with_reducible refine key.mono ?_);rintro e w' ⟨rfl,rfl⟩)|((with_reducible refine uL.mono ?_);rintro e w' ⟨rfl,rfl⟩))
 go_ret
 exact⟨rfl,_,HD.out,DG.refl _ _ _ _ _⟩):P:=h
theorem Z1s(h:P:=by
 go_enter Tryz.func113,Tryz.ntmps113
 go_wp2_with (go_at_call 25;first|((with_reducible refine key.mono ?_);rintro e w' ⟨rfl,rfl⟩)|((with_reducible refine uL.mono ?_);rintro e w' ⟨rfl,rfl⟩))
 go_ret
 exact⟨rfl,L,HR.out,Grow.refl _ _ _ _⟩):P:=h
theorem Z1t(h:P:=by
 replace oN:=oN.after hb;replace hx:=Out.trans' hx (Out.of_below (M:=λ_=>False) hb) λ_ _ q=>q.elim;clear hb;refine⟨λ_=>hx,?_⟩
 (try simp only[bF,bG,bH,tks])
 refine tk1 4 ?_;refine aj.Step.call dQ (iT _) ?_;rintro e EC ⟨rfl,hb⟩;replace Ap:=Ap.keep hb;replace Aq:=Aq.keep hb;replace oN:=oN.after hb;replace hx:=Out.trans' hx (Out.of_below (M:=λ_=>False) hb) λ_ _ q=>q.elim;clear hb;refine⟨_,rfl,λ_=>hx,?_⟩
 exact Ze):P:=h
theorem Z1u(h:P:=by
 obtain rfl:k=m:=by omega
 have hI:=hF.items A1;have key:=MF (some ⟨b,0,none⟩) it k k (pQ r ex k) wr hI hl;obtain⟨lf,hlf⟩:∃lf,pQ r ex k=lf:=⟨_,rfl⟩;rw[hlf]at key ⊢;have HLF:=Lib.hid hlf;clear hI hF hcs A1 hlf
 go_wp2_with (go_at_call 302;(with_reducible refine key.mono ?_);rintro e w5 ⟨⟨b5,rfl,af3,hI5⟩,hb5⟩)
 go_ret
 exact⟨⟨b5,rfl,aC hB.size af3,HLF.out.symm▸hI5⟩,hB.trans (hb5.mono hB.size)⟩):P:=h
theorem Z1v(h:P:=by
 go_enter Tryz.func181,Tryz.ntmps181
 go_wp2_with (first|(go_at_call 102;with_reducible refine wL (fF _ _) ?_)|(go_at_call 240;(with_reducible refine(rA _ _ _ _).mono ?_);rintro e w' ⟨rfl,hb⟩;(try replace hb:=Below.after (by assumption) hb);obtain⟨hc,hf⟩:=kP hb;have hz:=hb.size;(try simp at hz))|(go_at_call 241;with_reducible refine wL (Tj _ _ _) ?_))
 all_goals go_ret
 all_goals
  refine⟨bI Hr.out.symm,?_⟩
  exact Z5):P:=h
theorem Eu(h:P:=by
 go_ret
 exact⟨rfl,rfl⟩):P:=h
theorem Z1x(h:P:=by
 unfold execOp
 simp only[ho,resolve,invoke,builtin,Sem.run_bind,Sem.run_pure,Result.andThen_ok,List.map_toArray,List.map_cons,List.map_nil,hs,hx,hrun]):P:=h
theorem Z1y(h:P:=by
 replace hx:=Below.ay hx (ah _) hb;clear hb;refine⟨λ_=>hx,?_⟩
 (try simp only[bF,bG,bH,tks])
 refine tk1 2 ?_;refine aj.Step.call XP (iO _ _ _ _ _) ?_;rintro e eD ⟨rfl,hb⟩;replace Ap:=Ap.keep hb;replace Aq:=Aq.keep hb;replace hx:=Below.ay hx (ah _) hb;clear hb;refine⟨_,rfl,λ_=>hx,?_⟩
 exact Zy):P:=h
theorem Z1z(h:P:=by
 go_enter Tryz.func237,Tryz.ntmps237
 go_wp2_with (first|(go_at_call 93;with_reducible refine wL (vV _ _ _) ?_)|(go_at_call 281;with_reducible refine wL (OX _ _ _) ?_))
 go_ret
 exact⟨bI Hr.out.symm,rfl⟩):P:=h
theorem Z20(h:P:=by exact hy.of_same (execOp_put oi (λcs b=>hsel i oi cs b hi) a oj.dst u a3) (wanted_put oi a oj.dst u a3)):P:=h
theorem Z21(h:P:=by
 go_enter Tryz.func113,Tryz.ntmps113
 go_wp2_with (first|(go_at_call 25;first|((with_reducible refine key.mono ?_);rintro e w' ⟨rfl,rfl⟩)|((with_reducible refine uL.mono ?_);rintro e w' ⟨rfl,rfl⟩))|(go_at_call 165;(with_reducible refine wX.mono ?_);rintro e w1 ⟨rfl,hb1⟩))
 exact Z3l):P:=h
theorem Z22(h:P:=by
 have h1:=nW (cs:=cs') (vs:=eF ly) (q:=q+k*17+5) (j:=0) Z59 (by rw[dw];omega);rw[Nat.add_zero]at h1;rw[oU.cell,h1,<-Jt]
 rfl):P:=h
theorem Z23(h:P:=by
 go_enter Tryz.func23,Tryz.ntmps23
 go_wp2_with (go_at_call 25;(with_reducible refine key.mono ?_);rintro e w' ⟨rfl,rfl⟩)
 go_ret2
 exact⟨rfl,L,n,HR.out,by omega,Grow.refl _ _ _ _⟩):P:=h
theorem Z24(h:P:=by
 have hs:(T (k':Int)).isSome=true:=by
  cases e:T (k':Int)with
  | none=>exact absurd e (HK.out.2.2 _ ak ak)
  | some _=>rfl
 rw[hs]at Bb
 go_wp2_with (go_at_call 100;(with_reducible refine Bb.mono ?_);rintro e w' ⟨rfl,rfl⟩)
 go_roundw
 case rel=>exact⟨k'+1,by omega,by go_num,trivial⟩
 case measure=>simp[intOf];omega):P:=h
theorem Z25(h:P:=by
 refine aH 20 ?_;refine jY ?_
 exact⟨rfl,Ts,Tv,Tu,_,_,_,_,_,_,_,_,_,_,_,_,_,_,_,_,_,_,rfl,⟨gs,gv,gu⟩,⟨by omega,by omega,by omega⟩,As,Av,Au,hx⟩):P:=h
theorem Z26(h:P:=by
 simp only[List.setIfInBounds_toArray,List.set_cons_zero,List.set_cons_succ]at hG
 gi_wp2
 first|exact hG|simpa using hG):P:=h
theorem Z27(h:P:=by
 go_enter Tryz.func116,Tryz.ntmps116
 go_wp2_with (go_at_call 100;(with_reducible refine key.mono ?_);rintro e w' ⟨rfl,rfl⟩)
 go_ret2
 exact⟨rfl,HD.out,DG.refl _ _ _ _ _⟩):P:=h
theorem Z28(h:P:=by
 intro q hq;by_cases hqi:q=i
 . subst hqi
   have hun:=(mem_ready.1 (show q∈Region.ready md ops listed by simpa using hr)).1;have hlt:q<listed.size:=by
    rcases Nat.lt_or_ge q listed.size with h'|h'
    . exact h'
    . simp[Array.getElem?_eq_none h']at hun
   simp[hlt]
 . rw[getD_set_ne true (Ne.symm hqi)];exact hl q ak):P:=h
theorem Z29(h:P:=by
 go_wp2_with (first|(go_at_call 219;with_reducible refine wL (zl _ _ _ _) ?_))
 go_ret
 exact⟨fM (by rw[HV.out];rfl),by rw[XT.out];exact HE.out⟩):P:=h
theorem Z2a(h:P:=by
 by_cases e:y=kl
 . subst e
   rw[jm];exact⟨λz=>by rw[Maps.atKey_put_same h1.isMap (K.key hkey)];rfl,by rw[Maps.has_put_same h1.isMap (K.key hkey)];rfl⟩
 . rw[jK e]
   exact⟨λz=>by rw[Maps.atKey_put_other e];exact(h3 y hy).1 z,by rw[Maps.has_put_other e];exact(h3 y hy).2⟩):P:=h
theorem Z2b(h:P:=by
 have e:((l.take k).mapIdx g).length=k:=by simp;omega
 have e2:(l.take k).length=k:=by simp;omega
 rw[List.set_append,if_neg ak,e,Nat.sub_self,List.drop_eq_getElem_cons hk,List.set_cons_zero,List.take_succ_eq_append_getElem hk,List.mapIdx_concat,e2,List.append_assoc]
 rfl):P:=h
theorem Z2c(h:P:=by
 (try simp only[bF,bG,bH,tks])
 refine tk1 7 ?_;refine aj.Step.call dQ (XU _ hx) ?_;rintro e eD ⟨rfl,hb⟩;replace Ap:=Ap.keep hb;replace hx:=Below.ay hx (ah _) hb;clear hb;refine⟨_,rfl,λ_=>hx,?_⟩
 (try simp only[bF,bG,bH,tks])
 refine aH 8 ?_
 exact Z11):P:=h
theorem Z2d(h:P:=by
 go_enter Tryz.func256,Tryz.ntmps256
 go_wp2_with (first|(go_at_call 294;refine(FB hA h hp hx HO.out HY.out).mono ?_;rintro e w1 ⟨rfl,h1',hO⟩;have A9:=(h1'.a.cell o).trans Cu.out)|(go_at_call 285;refine(fq h1'.w).mono ?_;rintro e w2 ⟨rfl,rfl⟩))
 exact Zf):P:=h
theorem Z2e(h:P:=by
 go_enter Tryz.func255,Tryz.ntmps255
 go_wp2_with (first|(go_at_call 293;refine(FC hA h hp hx HO.out HY.out).mono ?_;rintro e w1 ⟨rfl,h1',hO⟩;have A9:=(h1'.a.cell o).trans Cu.out)|(go_at_call 285;refine(fq h1'.w).mono ?_;rintro e w2 ⟨rfl,rfl⟩))
 exact Zf):P:=h
theorem Z2f(h:P:=by
 go_enter Tryz.func253,Tryz.ntmps253
 go_wp2_with (first|(go_at_call 292;refine(FD hA h hp hx HO.out HY.out).mono ?_;rintro e w1 ⟨rfl,h1',hO⟩;have A9:=(h1'.a.cell o).trans Cu.out)|(go_at_call 285;refine(fq h1'.w).mono ?_;rintro e w2 ⟨rfl,rfl⟩))
 exact Zf):P:=h
theorem Z2g(h:P:=by
 go_enter Tryz.func252,Tryz.ntmps252
 go_wp2_with (first|(go_at_call 291;refine(FE hA h hp hx HO.out HY.out).mono ?_;rintro e w1 ⟨rfl,h1',hO⟩;have A9:=(h1'.a.cell o).trans Cu.out)|(go_at_call 285;refine(fq h1'.w).mono ?_;rintro e w2 ⟨rfl,rfl⟩))
 exact Zf):P:=h
theorem Z2h(h:P:=by
 go_enter Tryz.func251,Tryz.ntmps251
 go_wp2_with (first|(go_at_call 289;refine(zm hA h hp hx HO.out HY.out).mono ?_;rintro e w1 ⟨rfl,h1',hO⟩;have A9:=(h1'.a.cell o).trans Cu.out)|(go_at_call 285;refine(fq h1'.w).mono ?_;rintro e w2 ⟨rfl,rfl⟩))
 exact Zf):P:=h
theorem Z2i(h:P:=by
 go_enter Tryz.func247,Tryz.ntmps247
 go_wp2_with (first|(go_at_call 287;refine(FH hA h hp hx HO.out HY.out).mono ?_;rintro e w1 ⟨rfl,h1',hO⟩;have A9:=(h1'.a.cell o).trans Cu.out)|(go_at_call 285;refine(fq h1'.w).mono ?_;rintro e w2 ⟨rfl,rfl⟩))
 exact Zf):P:=h
theorem Z2j(h:P:=by
 go_enter Tryz.func246,Tryz.ntmps246
 go_wp2_with (first|(go_at_call 286;refine(FI hA h hp hx HO.out HY.out).mono ?_;rintro e w1 ⟨rfl,h1',hO⟩;have A9:=(h1'.a.cell o).trans Cu.out)|(go_at_call 285;refine(fq h1'.w).mono ?_;rintro e w2 ⟨rfl,rfl⟩))
 exact Zf):P:=h
theorem Z2k(h:P:=by
 go_enter Tryz.func245,Tryz.ntmps245
 go_wp2_with (first|(go_at_call 284;refine(FJ hA h hp hx HO.out HY.out).mono ?_;rintro e w1 ⟨rfl,h1',hO⟩;have A9:=(h1'.a.cell o).trans Cu.out)|(go_at_call 285;refine(fq h1'.w).mono ?_;rintro e w2 ⟨rfl,rfl⟩))
 exact Zf):P:=h
theorem Z2l(h:P:=by
 show ks.length-(intOf (.int .i64 (wrap64 ((k:Int)+1)))).toNat<ks.length-(intOf (.int .i64 (k:Int))).toNat
 rw[hwk];exact abl Jh.out):P:=h
theorem Z2m(h:P:=by
 go_wp2_with (go_at_call 25;(with_reducible refine key.mono ?_);rintro e w' ⟨rfl,rfl⟩)
 exact Eu):P:=h
theorem Z2n(h:P:=by
 have:=(List.mem_filter.1 h).2;simp only[Bool.and_eq_true,bne_iff_ne,ne_eq]at this
 exact this.1):P:=h
theorem Z2o(h:P:=by
 go_wp2
 go_roundw
 case rel=>exact⟨k+1,by omega,by go_num,Lib.hid (HS.out.trans HV.out),trivial⟩
 case measure=>simp[intOf];omega):P:=h
theorem Z2p(h:P:=by
 have k:=abm hK z i0 i1 hz (by rw[FK.out];exact λk hk=>(HDN.out k hk).1) (by rw[FK.out,HM.out];omega) w3 BK;rw[FK.out,HM.out,<-HX0.out]at k
 exact k.mono λe w' ⟨⟨R,cs,h1,h2,h3,h4,h5⟩,h6⟩=>⟨⟨R,0,cs,h1,h2,h3,h4⟩,h6⟩):P:=h
theorem Z2q(h:P:=by
 go_wp2_with (go_at_call 229;(with_reducible refine key2.mono ?_);rintro e' w4 ⟨⟨b,rfl,gb,hT⟩,hb4⟩)
 go_ret
 exact⟨⟨b,rfl,aC hsz gb,by rw[<-gX.out];exact gH _ _ Jv hT⟩,HB1.out.trans (hb4.mono hsz)⟩):P:=h
theorem Z2r(h:P:=by rcases(by omega:j=0\/j=1\/j=2\/j=3\/j=4\/j=5\/j=6)with rfl|rfl|rfl|rfl|rfl|rfl|rfl<;>rfl):P:=h
theorem Z2s(h:P:=by
 rw[<-hW]
 exact Out.set (M:=λb=>b=w.heap.size+1) (Out.set (M:=λb=>b=w.heap.size+1) (Out.refl _ _) rfl 0 _) rfl 1 _):P:=h
theorem Z2t(h:P:=by
 have hlen:os.length=t:=by rw[<-hd,List.length_drop,hm];omega
 refine⟨λq hq=>hl q ak,λw hS => ?_⟩;have:=uM (P:=P) (Q:=Q) os i listed a w hd (by rw[hlen];simpa only[kU]using hk) (h w hS)
 rw[hlen]at this;exact this):P:=h
theorem Z2u(h:P:=by
 clear hW fA fB iQ iR;obtain⟨l4,fA,fB⟩:=At.two A1
 refine bodyPost_ret (v:=.agg #[.int .i64 _,.int .i64 _]) (by simp[results,Tryz.results232,go_sem, *];first|done|exact⟨rfl,rfl⟩|rfl) rfl ⟨by rw[<-E.out],ED⟩):P:=h
theorem Z2v(h:P:=by exact K1.out _ (Below.drew (Below.refl _ _))):P:=h
theorem Z2w(h:P:=by
 rw[q2]at h;by_cases e:y=id
 . subst e
   rw[Tr.aJ]at h;injection h with h;exact .inr ⟨rfl,h.symm⟩
 . rw[Tr.aD _ _ e,S1,if_neg e]at h
   left;by_cases e2:y=u
   . rw[e2,hu];simp
   . rw[if_neg e2]at h;rw[h];simp):P:=h
theorem Z2x(h:P:=by
 go_wp2_with (first|(go_at_call 70;with_reducible refine wL (Jw (by first|assumption|exact HR.out)) ?_))
 exact Eu):P:=h
theorem Z2y(h:P:=by
 go_wp2
 go_ret
 exact⟨fM (by rw[HV.out]),by rw[XT.out];exact HBW.out⟩):P:=h
theorem Z2z(h:P:=by
 rw[ht]at kT
 go_wp2_with (first|(refine aS aU _ rfl rfl EG ?_)|(go_at_call 22;(with_reducible refine(kT _).mono ?_);rintro e w3 ⟨rfl,hb3⟩))
 go_ret
 exact⟨rfl,HB2.trans (hb3.mono HB2.size)⟩):P:=h
theorem Z30(h:P:=by
 rcases hb with e|e|⟨z,zd,hz,e⟩
 . exact .inl e
 . exact .inr (.inl e)
 . by_cases e2:z=i
   . subst e2;exact .inr (.inr ⟨_,nd,hn,e⟩)
   . rw[Tr.aD _ _ e2]at hz;exact .inr (.inr ⟨z,zd,hz,e⟩)):P:=h
theorem Z31(h:P:=by
 rcases hb with e|e|⟨y,yd,hy,e⟩
 . exact .inl e
 . exact .inr (.inl e)
 . by_cases e2:y=z
   . subst e2;exact .inr (.inr ⟨y,nd,hz,e⟩)
   . rw[Tr.aD _ _ e2]at hy;exact .inr (.inr ⟨y,yd,hy,e⟩)):P:=h
theorem Z32(h:P:=by simp only[List.map_append,List.sum_append,List.map_cons,List.map_nil,List.sum_cons,List.sum_nil,Nat.add_zero]):P:=h
theorem Z33(h:P:=by
 have Jy:∀(fn:Fn) (first cap:Array Value) (w:World),(Instr.makeFunc fn first cap).run Tryz.prog w=.ok (.func fn first cap) w:=λ_ _ _ _=>rfl;have e1:decide (0<left)=false:=by simp;omega
 exact Zm):P:=h
theorem Z34(h:P:=by
 try simp only[Exit.jump]
 refine bodyPost_ret (v:=.slice (some ⟨b,0,none⟩) n n) (by simp[results,Tryz.results302,go_sem, *];first|done|exact⟨rfl,rfl⟩|rfl) rfl ⟨⟨b,rfl,by omega,Ti⟩,hB⟩):P:=h
theorem Z35(h:P:=by
 exfalso;obtain⟨hun,oj,ho,_⟩:=mem_ready.1 hj;by_cases hjm:j<m
 . have:=H.1 j hjm
   rw[getD_set_ne true (Ne.symm hji),hun]at this;cases this
 . exact FL ht hcl hr hj ho ak him (Ne.symm hji)):P:=h
theorem Z36(h:P:=by
 go_enter Tryz.func238,Tryz.ntmps238
 go_wp2
 go_ret
 refine⟨rfl,?_⟩
 exact Z5):P:=h
theorem Z37(h:P:=by
 cases SB.out with
 | root h0=>rw[OY.out nd hT];exact .inr ⟨rfl,by rw[hk];congr 1;omega⟩
 | step h1 h0 h2 =>
   rw[hT]at h1;cases h1
   exact .inl ⟨nd.up,_,k+1,rfl,rfl,by omega,by omega,h2⟩):P:=h
theorem Z38(h:P:=by
 by_cases e:y=z
 . subst e;rw[Tr.aJ]at hy;cases hy
   simp only[if_true];exact hb.out hbm hO
 . rw[Tr.aD _ _ e]at hy
   simp only[if_neg e]
   exact(h.box y yd hy).out (λq=>h.FM hy q) hO):P:=h
theorem Z39(h:P:=by
 by_cases hv0:v.ownBlock=none
 . exact .inl hv0
 . refine .inr (.inr ?_)
   rcases hblk with h|h
   . rw[h]
     exact hvb.resolve_left hv0
   . rw[h]
     intro e;have:=(hv.lt _ e).2;simp at this
     omega):P:=h
theorem Z3a(h:P:=by
 have h1:=iP (cs:=cs') (vs:=eF ly) (q:=q+k*17+5) (k:=q+k*17+12) Z59 (.inr (by rw[dw];omega));rw[oU.cell,h1,<-nX.cell]
 exact FN):P:=h
theorem Z3b(h:P:=by
 unfold wpList;rw[if_pos hw];refine .inl ?_;unfold Oper.wp;rw[hrun]
 exact h):P:=h
theorem Z3c(h:P:=by
 go_wp2
 go_roundw
 case rel=>exact⟨j+1,by omega,by go_num,hbe⟩
 case measure=>simp[intOf];omega):P:=h
theorem Z3d(h:P:=by rw[Array.setIfInBounds_comm _ _ hji,<-Act.put_comm a v u a2];exact hn):P:=h
theorem Z3e(h:P:=by rcases(by omega:j=0\/j=1\/j=2\/j=3\/j=4)with rfl|rfl|rfl|rfl|rfl<;>rfl):P:=h
theorem XV(h:P:=by
 go_wp2
 go_ret
 exact⟨rfl,HB2⟩):P:=h
theorem Z3g(h:P:=by
 go_enter Tryz.func111,Tryz.ntmps111
 go_wp2_with (go_at_call 25;(with_reducible refine key.mono ?_);rintro e w' ⟨rfl,rfl⟩)
 go_ret2
 exact⟨rfl,L,n,HR.out,ah _,Grow.refl _ _ _ _⟩):P:=h
theorem Z3h(h:P:=by
 rw[Tr.aD _ _ e2]at hy;simp only[if_neg e2]at e
 exact .inl (.inr (.inr ⟨y,yd,hy,e⟩))):P:=h
theorem Z3i(h:P:=by
 have E:Hid (Fw.wr (q0+m0)=ans):=Lib.hid (by rw[<-gX.out,hg0];simp);clear gX hg0;go_wp2
 go_ret
 exact⟨bI (by rw[<-E.out];(try simp only[uJ,qZ]);(try rfl)),hB⟩):P:=h
theorem Z3j(h:P:=by
 by_cases e:y=z
 . subst e;rw[Tr.aJ]at hy;cases hy
   exact(h.row y nd hz).out (h.MG hz hz) hO
 . rw[Tr.aD _ _ e]at hy
   exact(h.row y yd hy).out (h.MG hy hz) hO):P:=h
theorem Z3k(h:P:=by
 go_enter Tryz.func112,Tryz.ntmps112
 go_wp2_with (go_at_call 100;(with_reducible refine key.mono ?_);rintro e w' ⟨rfl,rfl⟩)
 go_ret2
 exact⟨rfl,_,HD.out,DG.refl _ _ _ _ _⟩):P:=h
theorem Z3l(h:P:=by
 go_ret
 exact⟨rfl,L,⟨HR.out.rep.after hb1,HR.out.wf,HR.out.num⟩,Grow.of_below hb1⟩):P:=h
theorem Z3m(h:P:=by unfold FP;rw[Array.setIfInBounds_append_right Z5a,bC];rfl):P:=h
theorem Z3n(h:P:=by
 replace hx:=Below.ay hx (ah _) hb;clear hb;refine⟨λ_=>hx,?_⟩
 exact Z0):P:=h
theorem Z3o(h:P:=by
 obtain rfl:k=m:=by omega
 go_wp2
 go_ret
 exact⟨⟨b,rfl,Nat.le_of_eq hsz,A1⟩,hB⟩):P:=h
theorem Z3p(h:P:=by
 go_enter Tryz.func126,Tryz.ntmps126
 go_wp2_with (at_builtin;refine wpList_append_run aU _ _ 30 rfl rfl rfl GV.out ?_)
 go_ret
 exact⟨v',rfl,hQ.out,hO.out,HL.out⟩):P:=h
theorem Z3q(h:P:=by
 show Value.int .i64 (wrap64 ((k:Int)+1))=.int .i64 ((k+1:Nat):Int)
 rw[hwk];rfl):P:=h
theorem Z3r(h:P:=by
 go_enter Tryz.func219,Tryz.ntmps219
 go_wp2
 go_ret
 exact⟨fM wu.out.symm,rfl⟩):P:=h
theorem Z3s(h:P:=by
 have k:=g.look_ok jr Tryz.underlying28 (z:=.agg #[.int .i64 0,.int .i64 0,.int .i64 0,.int .i64 0]) fV (j4 hx);rw[hG,h]at k
 exact k):P:=h
theorem Z3t(h:P:=by
 go_wp2_with (go_at_call 23;(with_reducible refine kA.mono ?_);rintro e w5 ⟨rfl,L1,n1,g5,hn1,EH,hb5⟩)
 go_ret
 exact⟨rfl,Ji.trans (hb5.mono hs1)⟩):P:=h
theorem Z3u(h:P:=by
 replace oN:=oN.after hb;replace hx:=Out.trans' hx (Out.of_below (M:=λ_=>False) hb) λ_ _ q=>q.elim;clear hb;refine⟨λ_=>hx,?_⟩
 exact Ze):P:=h
theorem Z3v(h:P:=by
 replace oN:=oN.after hb;replace hx:=Out.trans' hx (Out.of_below (M:=λ_=>False) hb) λ_ _ q=>q.elim;clear hb;refine⟨λ_=>hx,?_⟩
 exact Z2):P:=h
theorem Z3w(h:P:=by
 by_cases e:y=z
 . subst e;rw[Tr.aJ,hz];rfl
 . rw[Tr.aD _ _ e]):P:=h
theorem Z3x(h:P:=by
 have e:=At.new (w.alloc (.deferred (some []))) (.loop (L .ready none));rw[World.size_alloc]at e
 exact⟨e,(At.new w (.deferred (some []))).alloc _⟩):P:=h
theorem Z3y(h:P:=by
 go_wp2
 all_goals
  go_ret
  refine⟨fM (by unfold Fx.valid;rw[if_neg ak,if_neg ak,if_pos rfl];simp[*]<;>omega),?_⟩
  exact Z5):P:=h
theorem Z3z(h:P:=by
 by_cases e:y=z
 . subst e;simp[Tr.aJ,hz]
 . rw[Tr.aD _ _ e]):P:=h
theorem Z40(h:P:=by
 rcases ha with h|h|h
 . exact .inl h
 . by_cases hv0:v.ownBlock=none
   . exact .inl hv0
   . exact .inr (by rw[h];exact hv0)
 . exact .inr h):P:=h
theorem Z41(h:P:=by
 obtain⟨fuel,hf⟩:=h0;obtain⟨x,l,c,hcs,hr⟩:=Fix.Qq hf;simp[Value.cells]at hcs;obtain⟨rfl,rfl,rfl⟩:=hcs
 exact hr):P:=h
theorem Z42(h:P:=by
 refine aj.bZ ?_;intro w2 hS;go_wp2
 go_ret
 exact⟨bI (by(try simp only[uJ,qZ]);rfl),Below.ay hB (ah _) hS⟩):P:=h
theorem Z43(h:P:=by
 rw[hz1,Int.toNat_natCast]at hrun
 exact⟨_,hrun,size_madeCells _ _⟩):P:=h
theorem Z44(h:P:=by
 go_enter Tryz.func166,Tryz.ntmps166
 go_wp2_with (go_at_call 45;(with_reducible refine key.mono ?_);rintro e w' ⟨rfl,rfl⟩)
 exact Eu):P:=h
theorem Z45(h:P:=by rw[Tr.aD _ _ e]at hy;exact h.small y yd hy):P:=h
theorem Z46(h:P:=by
 have E1:=Lib.hid e1
 exact Z1p):P:=h
theorem ak(h:P:=by omega):P:=h
theorem aG(h:P:=by decide):P:=h
theorem yT(h:P:=by first|exact hB|exact Below.alloc' hB _ | exact Below.alloc' (Below.alloc' hB _) _):P:=h
theorem zn(h:P:=by first|exact A1|exact At.alloc A1 _ | exact At.alloc (At.alloc A1 _) _):P:=h
theorem AZ(h:P:=by first|exact A2|exact At.alloc A2 _ | exact At.alloc (At.alloc A2 _) _):P:=h
theorem BJ(h:P:=by first|exact A0|exact At.alloc A0 _ | exact At.alloc (At.alloc A0 _) _):P:=h
theorem za(h:P:=by first|assumption|(with_reducible exact At.new _ _)):P:=h
theorem aU(h:P:=by rfl):P:=h
theorem fV(h:P:=by kernel_rfl):P:=h
theorem Mh(h:P:=by first|exact A3|exact At.alloc A3 _ | exact At.alloc (At.alloc A3 _) _):P:=h
theorem jH(h:P:=by simp;omega):P:=h
theorem Z4i(h:P:=by intro w2 hS;obtain⟨hc,hf⟩:=kP hS;go_simp;first|done|with_reducible rfl|exact⟨rfl,rfl⟩):P:=h
theorem XP(h:P:=by go_simp;first|done|with_reducible rfl|exact⟨⟨rfl,rfl,rfl,rfl⟩,rfl⟩):P:=h
theorem eY(h:P:=by simp):P:=h
theorem Ev(h:P:=by first|done|rfl|simp):P:=h
theorem XO(h:P:=by simp only[List.map_toArray,List.map_cons,List.map_nil];rfl):P:=h
theorem Z4n(h:P:=by intro q hq hn;unfold Jz;(repeat' split)<;>first|rfl|omega):P:=h
theorem Z4o(h:P:=by go_simp;first|done|with_reducible rfl|exact⟨rfl,rfl⟩):P:=h
theorem Jk(h:P:=by simp[Value.oneCell']):P:=h
theorem Z4q(h:P:=by rw[bE _ hk hb,MH f t (ah k)]):P:=h
theorem Jv(h:P:=by unfold maxLen;omega):P:=h
theorem OZ(h:P:=by simp only[maxLen];omega):P:=h
theorem Z4t(h:P:=by go_simp;first|done|with_reducible rfl|exact⟨⟨⟨rfl,rfl,rfl,rfl,rfl,rfl⟩,rfl⟩,rfl⟩):P:=h
theorem Z4u(h:P:=by first|exact hB0.size|exact ah _):P:=h
theorem Z4v(h:P:=by unfold Func.isWrapper;first|(rw[if_pos (by decide +kernel)];kernel_rfl)|(rw[if_neg (by decide +kernel)];exact⟨rfl,rfl⟩)):P:=h
theorem SC(h:P:=by rw[HN.out];exact hlt):P:=h
theorem Z4x(h:P:=by rw[hA2.cell,nY x ak];rfl):P:=h
theorem Z4y(h:P:=by first|exact A4|exact At.alloc A4 _ | exact At.alloc (At.alloc A4 _) _):P:=h
theorem Qr(h:P:=by rw[hz2];omega):P:=h
theorem Z50(h:P:=by rw[List.getD,List.getElem?_eq_getElem Z5e];exact List.getElem_mem _):P:=h
theorem XW(h:P:=by rw[sQ];exact hk):P:=h
theorem XY(h:P:=by rw[HM.out];exact hlt):P:=h
theorem Z53(h:P:=by first|(simp;done)|(simp;omega)):P:=h
theorem Z54(h:P:=by simp[results,Tryz.results119,go_sem, *];first|done|exact⟨rfl,rfl⟩|rfl):P:=h
theorem Z55(h:P:=by first|assumption|exact aF.keep (by assumption) hS):P:=h
theorem Z56(h:P:=by rw[HS.out,<-Bool.and_assoc,<-HF.out];rfl):P:=h
theorem Z57(h:P:=by rw[eT];omega):P:=h
theorem Z58(h:P:=by rw[HL.out];omega):P:=h
theorem Z59(h:P:=by rw[dw];exact MI.out):P:=h
theorem Z5a(h:P:=by rw[bC];omega):P:=h
theorem Z5b(h:P:=by rw[<-gX.out,HG.out,hg1];simp):P:=h
theorem Z5c(h:P:=by((rw[<-hW])<;>exact At.alloc (At.new' _ Ev) _)):P:=h
theorem Z5d(h:P:=by simp[Fence.wide]at hd):P:=h
theorem Z5e(h:P:=by rw[HNO.out];exact hjn):P:=h
theorem Z5f(h:P:=by with_reducible exact At.new _ _):P:=h
end Go.Proofs.YtcbcfdihofclkaaGreat
