/- Short names for steps that come often in the proofs about the program's boxes. -/
import Derived.ArgAppend
import Derived.Below
import Derived.BigQuiet
import Derived.BigRegion
import Derived.ChangeOld
import Derived.ChangeSame
import Derived.Deep.Cut
import Derived.Deep.CutRange
import Derived.Deep.MidRow
import Derived.Deep.OwnRows
import Derived.Deep.QuietTactic
import Derived.Deep.RegionWith
import Derived.Deep.Slices
import Derived.DeepKeys
import Derived.DeepKeys3
import Derived.DeepKeys4
import Derived.Laws.CopyOwn
import Derived.Laws.EntriesVeiled
import Derived.Laws.Externs
import Derived.Laws.IdiomArrays
import Derived.Laws.IdiomCopy
import Derived.Laws.StructEq
import Derived.Lib.AppendZerosOnto
import Derived.Lib.Hide
import Derived.Lib.MinMax
import Derived.Lib.Overlaps
import Derived.Lib.SliceRun
import Derived.Lib.SmallJoins
import Derived.LoopIn
import Derived.LoopNIn
import Derived.Maps.AppendAt
import Derived.Maps.OwnIn
import Derived.Maps.OwnSet
import Derived.Maps.RangeWalk
import Derived.OpenShut
import Derived.Orders
import Derived.OwnWalkIn
import Derived.ProofKit
import Derived.RangeFuncBox
import Derived.RangeFuncCalls
import Derived.RangeFuncLeaves
import Derived.ScopeJumps
import Derived.Shelf.Abstract
import Derived.ShutString
import Derived.Sort.CutIn
import Derived.TacticsInMore
import Derived.WalkKit
import Derived.WalkLawsBesides
import Derived.WalkMore
set_option linter.unusedVariables false
set_option linter.unusedSimpArgs false
set_option linter.unusedSectionVars false
set_option maxRecDepth 100000
open Go Go.ChangeShapes Go.WideShapes Go.ChangeAt Go.RowKit
namespace Go.Proofs.YtmidaiklolmkcaaGreat
variable {P:Prop}
theorem aA{α:Sort _}(a:α):∃l,a=l:=⟨a,rfl⟩
theorem aF{n:Nat}{w:World}:Go.RowKit.Below n w w:=Go.RowKit.Below.refl _ _
theorem aD{n:Nat}:n<=n:=Nat.le_refl _
theorem xZ{n:Nat}:n<=n.succ:=Nat.le_succ _
theorem sQ{n:Nat}:0<=n:=Nat.zero_le _
theorem aG:∀n:Nat,n<=n:=@Nat.le_refl
theorem aV:∀{n m k:Nat},n<m->m<=k->n<k:=@Nat.lt_of_lt_of_le
theorem aJ:∀{n m k:Nat},n<=m->m<=k->n<=k:=@Nat.le_trans
theorem dB:∀{a b:Nat},a<b->a≠b:=@Nat.ne_of_lt
theorem uO:∀{n m:Nat},n<m->n<=m:=@Nat.le_of_lt
theorem fC:∀n:Nat,0<=n:=@Nat.zero_le
theorem ah:∀{p:Prop},p->Go.RowKit.Hid p:=@Lib.hid
theorem Z0(h:P:=by
 (try simp only[bL,bM,bN,tks])
 refine aM 5 ?_;refine tk1 6 ?_;refine ak.Step.value (u:=.pointer (some ⟨uP.heap.size,0,none⟩)) (w':=uP.alloc (.cells #[.int .i64 ww,.int .i64 wh,.map (some mb),.map (some mk),.map (some mp),.map (some mr)] 83)) dV ?_;refine⟨λ_=>Below.alloc' hx _,?_⟩
 (try simp only[bL,bM,bN,tks])
 refine tk1 7 ?_;refine uM ?_ (hS:=by first|(intro hlt;exact absurd hlt aH)|(intro _;exact Below.alloc' hx _));refine ko ?_;have hxs:=hx.size;have gV:Below uP.heap.size uP (uP.alloc (.cells #[.int .i64 ww,.int .i64 wh,.map (some mb),.map (some mk),.map (some mp),.map (some mr)] 83)):=Below.alloc' (Below.refl _ _) _
 exact⟨rfl,uP.heap.size,mb,mk,mp,mr,_,_,_,_,_,_,_,rfl,⟨by omega,gb,gk,gp,gr⟩,⟨by omega,by omega,by omega,by omega,by omega,by omega,by omega,by omega,by omega,by omega⟩,At.new _ _,Gb.keep gV,nA.keep _ _ _ Gk gV,Gp.keep gV,Gr.keep gV,Below.alloc' hx _⟩):P:=h
theorem Z1(h:P:=by
 (try simp only[bL,bM,bN,tks])
 refine tk1 8 ?_;have zq:Tp≠Tq:=by omega
 have lp:=Ap.lt;have lq:=Aq.lt;have zp0:=Ap.thaw 0;have zp1:=Ap.thaw 1;have zp2:=Ap.thaw 2;have zp3:=Ap.thaw 3;obtain⟨_,MV,MW,cp2,X9⟩:=At.four Ap;refine ak.Step.skip dV ?_;generalize hW:World.setCell _ _ _=x1;have Ap2:At x1 Tp (.cells #[.int .i64 (s.c 34),.int .i64 (s.c 32),.int .i64 (s.c 31),.int .i64 (s.c 33)] 115):=hW▸At.set (At.set (At.set (At.set Ap 0 _) 1 _) 2 _) 3 _;have TQ:At x1 Tq (.cells #[.int .i64 0,.int .i64 0,.int .i64 0,.int .i64 0] 115):=hW▸At.off (At.off (At.off (At.off Aq zq.symm _ _) zq.symm _ _) zq.symm _ _) zq.symm _ _;have hx1:Below w1.heap.size w1 x1:=by rw[<-hW];exact Below.setCell (Below.setCell (Below.setCell (Below.setCell hx gp _) gp _) gp _) gp _
 clear hW zp0 zp1 zp2 zp3 MV MW cp2 X9 lp lq;refine⟨λ_=>hx1,?_⟩
 (try simp only[bL,bM,bN,tks])
 refine tk1 9 ?_;have lq:=TQ.lt;have zq0:=TQ.thaw 0;have zq1:=TQ.thaw 1;have zq2:=TQ.thaw 2;have zq3:=TQ.thaw 3;obtain⟨_,cq0,cq1,cq2,cq3⟩:=At.four TQ;refine ak.Step.skip dV ?_;generalize hW:World.setCell _ _ _=x2;have Aq3:At x2 Tq (.cells #[.int .i64 (s.c 38),.int .i64 (s.c 36),.int .i64 (s.c 35),.int .i64 (s.c 37)] 115):=hW▸At.set (At.set (At.set (At.set TQ 0 _) 1 _) 2 _) 3 _;have Ap3:At x2 Tp (.cells #[.int .i64 (s.c 34),.int .i64 (s.c 32),.int .i64 (s.c 31),.int .i64 (s.c 33)] 115):=hW▸At.off (At.off (At.off (At.off Ap2 zq _ _) zq _ _) zq _ _) zq _ _;have hx2:Below w1.heap.size w1 x2:=by rw[<-hW];exact Below.setCell (Below.setCell (Below.setCell (Below.setCell hx1 gq _) gq _) gq _) gq _
 refine⟨λ_=>hx2,?_⟩
 (try simp only[bL,bM,bN,tks])
 refine ko ?_
 exact⟨rfl,Tp,Tq,_,_,_,_,_,_,rfl,gp,gq,zq,Ap3,Aq3,hx2⟩):P:=h
theorem Z2(h:P:=by
 (try simp only[bL,bM,bN,tks])
 refine tk1 17 ?_;refine ak.Step.skip (fB (q:=0) og (.tmp 12) (.tmp 66) rfl rfl rfl Ap (dG ly) eZ (pJ ly)) ?_;rw[Cy (cs:=#[.int .i64 0,.int .i64 0,.int .i64 0,.int .i64 0,.int .i64 0,.int .i64 0,.int .i64 0]) (vs:=eH ly) rfl];have zq:Tp≠Tq:=by omega
 have Ap2:At (x14.setRow Tp (eH ly)) Tp (.cells (eH ly) 77):=At.setRow Ap _;have TQ:=At.nG Aq zq.symm (eH ly);have iA:Out (λb=>b=Tp) x14 (x14.setRow Tp (eH ly)):=Out.setRow (M:=λb=>b=Tp) (Out.refl _ _) rfl _;replace oZ:=oZ.own iA λb hb h=>by subst h;exact⟨np,by omega⟩
 replace hx:=Out.trans' hx iA λb hb h=>by omega
 generalize x14.setRow Tp (eH ly)=y1 at *;clear iA Ap Aq;refine⟨λ_=>hx,?_⟩
 (try simp only[bL,bM,bN,tks])
 refine tk1 18 ?_;refine ak.Step.skip (nH (.tmp 13) (.tmp 75) rfl rfl rfl TQ) ?_;have Aq3:At (y1.setRow Tq (cells sk)) Tq (.cells (cells sk) 46):=At.setRow TQ _;have Ap3:=At.nG Ap2 zq (cells sk);have hO2:Out (λb=>b=Tq) y1 (y1.setRow Tq (cells sk)):=Out.setRow (M:=λb=>b=Tq) (Out.refl _ _) rfl _;replace oZ:=oZ.own hO2 λb hb h=>by subst h;exact⟨nq,by omega⟩
 replace hx:=Out.trans' hx hO2 λb hb h=>by omega
 generalize y1.setRow Tq (cells sk)=y2 at *;clear hO2 Ap2 TQ;refine⟨λ_=>hx,?_⟩
 (try simp only[bL,bM,bN,tks])
 refine ko ?_
 exact⟨rfl,Tp,Tq,n2,P2,_,_,_,_,_,_,_,_,_,_,_,_,_,_,_,rfl,gp,gq,zq,Ap3,Aq3,hn2,oZ,Cz,np,nq,hx⟩):P:=h
theorem Z3(h:P:=by
 generalize hc1:cs.setIfInBounds (o+5) (Value.int IntKind.i64 (Fw.wG s 0 r0 a0))=cs1 at *;have h6':cs1[o+6]? = some (.int .i64 a1):=by rw[<-hc1,Array.getElem?_setIfInBounds,if_neg aj];exact h6
 replace h6:=h6';clear h6' h5;have TR:=ah hc1;clear hc1;clear l0 aB aC lR cR zR;obtain⟨l0,aB,aC⟩:=At.two A0;have lR:=AR.lt;have cR:=(AR.cell (o+6)).trans h6;have zR:=AR.thaw (o+6);go_wp2;cases Yz:Fw.BU s 1 0 r1
 . have MX:=ah Yz
   clear Yz;cases YA:Fw.BU s 1 1 r1
   . have TT:=ah YA
     clear YA;rw[rounds_succ]
     go_upto_region 6 with(fail)
     go_upto_region 7 with((go_at_call 105;(with_reducible refine(uQ bz s vf va ib r0 r1 _ A2).mono ?_);rintro e w3 ⟨rfl,hb⟩;replace hQ:=hQ.trans (Out.of_below hb);replace A0:=At.keep A0 hb;replace A2:=At.keep A2 hb;replace AR:=At.keep AR hb;clear hb))
     clear l0 aB aC lR cR zR;obtain⟨l0,aB,aC⟩:=At.two A0;have lR:=AR.lt;have cR:=(AR.cell (o+6)).trans h6;have zR:=AR.thaw (o+6);rw[MX.out]
     go_upto_region 10 with((go_at_call 105;(with_reducible refine(x8 bz s vf va ib r0 r1 _ A2).mono ?_);rintro e w3 ⟨rfl,hb⟩;replace hQ:=hQ.trans (Out.of_below hb);replace A0:=At.keep A0 hb;replace A2:=At.keep A2 hb;replace AR:=At.keep AR hb;clear hb))
     clear l0 aB aC lR cR zR;obtain⟨l0,aB,aC⟩:=At.two A0;have lR:=AR.lt;have cR:=(AR.cell (o+6)).trans h6;have zR:=AR.thaw (o+6);rw[TT.out];rw[<-aN h6,show a1=Fw.wG s 1 r1 a1 from by unfold Fw.wG;rw[if_neg (by rw[MX.out];simp),if_neg (by rw[TT.out];simp)]]at AR;exact Z1j
   . have TT:=ah YA
     clear YA;rw[rounds_succ]
     go_upto_region 6 with(fail)
     go_upto_region 7 with((go_at_call 105;(with_reducible refine(uQ bz s vf va ib r0 r1 _ A2).mono ?_);rintro e w3 ⟨rfl,hb⟩;replace hQ:=hQ.trans (Out.of_below hb);replace A0:=At.keep A0 hb;replace A2:=At.keep A2 hb;replace AR:=At.keep AR hb;clear hb))
     clear l0 aB aC lR cR zR;obtain⟨l0,aB,aC⟩:=At.two A0;have lR:=AR.lt;have cR:=(AR.cell (o+6)).trans h6;have zR:=AR.thaw (o+6);rw[MX.out]
     go_upto_region 10 with((go_at_call 105;(with_reducible refine(x8 bz s vf va ib r0 r1 _ A2).mono ?_);rintro e w3 ⟨rfl,hb⟩;replace hQ:=hQ.trans (Out.of_below hb);replace A0:=At.keep A0 hb;replace A2:=At.keep A2 hb;replace AR:=At.keep AR hb;clear hb))
     clear l0 aB aC lR cR zR;obtain⟨l0,aB,aC⟩:=At.two A0;have lR:=AR.lt;have cR:=(AR.cell (o+6)).trans h6;have zR:=AR.thaw (o+6);rw[TT.out]
     go_upto_region 11 with(fail)
     refine xq 11 1 ?_
     (repeat (first|refine nW ?_ | refine nX ?_ (hc:=by intro w2 hS;first|with_reducible exact nR hS (jm _))|refine nY ?_))
     refine ak.dN ?_;intro w2 hS;replace hQ:=hQ.trans (Out.of_below hS);replace A0:=At.keep A0 hS;replace A2:=At.keep A2 hS;replace AR:=At.keep AR hS;clear hS;clear l0 aB aC lR cR zR;obtain⟨l0,aB,aC⟩:=At.two A0;have lR:=AR.lt;have cR:=(AR.cell (o+6)).trans h6;have zR:=AR.thaw (o+6);refine x9 ?_;intro K hK;go_simp;refine hK _ _ (ak.bV ?_);clear hK K;generalize hW:World.setCell _ _ _=W9;replace A0:At W9 _ _:=hW▸At.off A0 aj _ _;replace A2:At W9 _ _:=hW▸At.off A2 aj _ _;replace hQ:Out _ _ W9:=hW▸Out.set hQ rfl _ _;replace AR:At W9 R _:=hW▸At.set AR (o+6) _;clear hW;rw[rH,show Fw.wr (a1-Fw.ins s 1 1 r1)=Fw.wG s 1 r1 a1 from by unfold Fw.wG;rw[if_neg (by rw[MX.out];simp),if_pos TT.out]]at AR;exact Z1j
 . have MX:=ah Yz
   clear Yz;rw[rounds_succ]
   go_upto_region 6 with(fail)
   go_upto_region 7 with((go_at_call 105;(with_reducible refine(uQ bz s vf va ib r0 r1 _ A2).mono ?_);rintro e w3 ⟨rfl,hb⟩;replace hQ:=hQ.trans (Out.of_below hb);replace A0:=At.keep A0 hb;replace A2:=At.keep A2 hb;replace AR:=At.keep AR hb;clear hb))
   clear l0 aB aC lR cR zR;obtain⟨l0,aB,aC⟩:=At.two A0;have lR:=AR.lt;have cR:=(AR.cell (o+6)).trans h6;have zR:=AR.thaw (o+6);rw[MX.out]
   go_upto_region 8 with(fail)
   refine xq 11 1 ?_
   (repeat (first|refine nW ?_ | refine nX ?_ (hc:=by intro w2 hS;first|with_reducible exact nR hS (jm _))|refine nY ?_))
   refine ak.dN ?_;intro w2 hS;replace hQ:=hQ.trans (Out.of_below hS);replace A0:=At.keep A0 hS;replace A2:=At.keep A2 hS;replace AR:=At.keep AR hS;clear hS;clear l0 aB aC lR cR zR;obtain⟨l0,aB,aC⟩:=At.two A0;have lR:=AR.lt;have cR:=(AR.cell (o+6)).trans h6;have zR:=AR.thaw (o+6);refine x9 ?_;intro K hK;go_simp;refine hK _ _ (ak.bV ?_);clear hK K;generalize hW:World.setCell _ _ _=W9;replace A0:At W9 _ _:=hW▸At.off A0 aj _ _;replace A2:At W9 _ _:=hW▸At.off A2 aj _ _;replace hQ:Out _ _ W9:=hW▸Out.set hQ rfl _ _;replace AR:At W9 R _:=hW▸At.set AR (o+6) _;clear hW;rw[rH,show Fw.wr (a1+Fw.ins s 1 0 r1)=Fw.wG s 1 r1 a1 from by unfold Fw.wG;rw[if_pos MX.out]]at AR
   exact Z1j):P:=h
theorem Z4(h:P:=by
 go_enter Tryz.func105,Tryz.ntmps105
 go_upto_region 1 with(fail)
 generalize hW:World.alloc _ _=W0;have A0:At W0 w.heap.size (.cells #[.int .i64 r0,.int .i64 r1] 71):=hW▸At.new _ _;have A2:aL W0 b s fl ap ib:=hW▸aL.alloc h _;have hB:Below w.heap.size w W0:=hW▸Below.alloc' (Below.refl _ _) _;clear hW h;obtain⟨l0,aB,aC⟩:=A0.two;obtain⟨l2,aR,aS,aT,aU,bC,bD,bA,bB⟩:=At.bxi A2;refine MZ [0,1,2,3,4,5,6,7,8] 9 10 ?_ (norm:=[⟨_,_,_,_,_,_⟩,⟨_,_,_,_,_,_⟩,⟨_,_,_,_,_,_⟩,⟨_,_,_,_,_,_⟩,⟨_,_,_,_,_,_⟩,⟨_,_,_,_,_,_⟩,⟨_,_,_,_,_,_⟩,⟨_,_,_,_,_,_⟩,⟨_,_,_,_,_,_⟩]) (tail:=[⟨_,_,_,_,_,_⟩]) (x:=.cells #[.int .i64 0,.int .i64 0] 37) (so:=⟨_,_,_,_,_,_⟩)
 (repeat (first|refine sbk ?_ | refine sbc ?_ (hc:=by intro w2 hS;first|with_reducible exact(jm _)|with_reducible exact(G9 _)|with_reducible exact(He _)|with_reducible exact(Hf _))|refine sbv ?_))
 refine ak.pX ?_;intro n0 w2 hn hA hS;(try simp only[bL,bM,bN,tks])
 ((have hB0:=hB);have o7:=dB (aV A0.lt hn);have o8:=dB (aV A2.lt hn);(clear l0 aB aC l2 aR aS aT aU bC bD bA bB);(replace hB:=Below.ay zn (aG _) hS);replace A0:=At.keep BX hS;replace A2:=At.keep Bo hS;clear hS;obtain⟨l0,aB,aC⟩:=At.two A0;obtain⟨l2,aR,aS,aT,aU,bC,bD,bA,bB⟩:=At.bxi A2;have A3:=hA;clear hA;obtain⟨l3,bP,bQ⟩:=At.two A3;have gW:=A3.thaw 0;have gX:=A3.thaw 1;have g0:=aJ Z4q hn;clear hB0)
 refine x9 ?_;intro K hK;go_simp;refine hK _ _ (ak.bV ?_);clear hK K
 (generalize hW:World.setCell (World.setCell _ _ _) _ _=W1;clear l0 aB aC l2 aR aS aT aU bC bD bA bB l3 bP bQ gW gX;replace A3:At W1 _ _:=hW▸(At.QI A3 _ _);replace A0:At W1 _ _:=hW▸(At.off (At.off A0 o7 _ _) o7 _ _);replace A2:At W1 _ _:=hW▸(At.off (At.off A2 o8 _ _) o8 _ _);replace hB:Below w.heap.size w W1:=hW▸(Below.setCell (Below.setCell hB g0 _) g0 _);clear hW o7 o8;obtain⟨l0,aB,aC⟩:=At.two A0;obtain⟨l2,aR,aS,aT,aU,bC,bD,bA,bB⟩:=At.bxi A2;obtain⟨l3,bP,bQ⟩:=At.two A3)
 go_upto_region 2 with(fail)
 refine xW ?_
 (repeat (first|refine nW ?_ | refine nX ?_ (hc:=by intro w2 hS;first|with_reducible exact nR hS (nI _ _ _ _ _)|with_reducible exact nR hS (rJ _ _ _ _))|refine nY ?_))
 refine ak.cK ?_;intro w2 hS;go_wp2
 refine bodyPost_ret (v:=.tuple #[.int .i64 _,.bool _]) (by simp[results,Tryz.results105,go_sem, *];first|done|exact⟨rfl,rfl⟩|rfl) rfl ⟨rfl,Below.ay hB (aG _) hS⟩):P:=h
theorem Z5(h:P:=by(repeat (first|exact Below.refl _ _ | assumption|refine Below.drew ?_ | refine Below.drewN ?_ _ | refine Below.alloc' ?_ _ | refine Below.setCell ?_ Z4x _ | refine Below.ay ?_ (aG _) (by assumption)))):P:=h
theorem Z6(h:P:=by
 go_enter Tryz.func91,Tryz.ntmps91
 go_upto_region 2 with(first|(refine dn aX rfl ?_)|(refine eP aX rfl ?_)|(refine bq aX _ rfl rfl xX ?_)|(refine eT aX _ _ rfl rfl rfl xX ?_)|(refine dJ aX _ _ rfl rfl rfl xX ?_)|(refine fJ aX _ rfl rfl yc.out ?_))
 generalize hW:World.setRow _ _ _=W1;have A1:At W1 w.heap.size (.cells (cells s) 46):=hW▸(At.new w (.cells (cells Re.zero) 46)).setRow _;have hB:Below w.heap.size w W1:=hW▸below_setRow (Below.alloc' (Below.refl _ _) _) (aG _) _;clear hW;replace d0:=(Below.cell_ hB l0 _).trans d0;replace d1:=(Below.cell_ hB l0 _).trans d1;have l1:=A1.lt;have g0:=A1.st 0 aH rfl;have g2:=A1.st 2 aH rfl;have g5:=A1.st 5 aH rfl;have g9:=A1.st 9 aH rfl;replace l0:=aV l0 hB.size;clear yc;go_wp2
 go_ret
 refine⟨fT (by unfold Fw.opn;rw[show Fw.sd 1 1=2 from rfl];simp[*]),hB⟩):P:=h
theorem Z7(h:P:=by
 (try simp only[bL,bM,bN,tks])
 refine tk1 3 ?_
 . refine ak.Step.value (u:=.map (some eG.heap.size)) (w':=eG.alloc (.map #[] 0)) dV ?_
   obtain⟨uP,bF,Gp,hb,dH⟩:∃w9,w9=eG.alloc (.map #[] 0)/\GM 75 w9 eG.heap.size 0 (λ_=>none)/\Below eG.heap.size eG w9/\eG.heap.size<w9.heap.size:=⟨_,rfl,GM.made _ _,Below.alloc' (Below.refl _ _) _,by simp⟩;rw[<-bF];clear bF;obtain⟨mp,hmp⟩:∃q,eG.heap.size=q:=⟨_,rfl⟩;rw[hmp]at Gp;rw[hmp];have gp:eG.heap.size<=mp:=Nat.le_of_eq hmp;have lp:mp<uP.heap.size:=hmp▸dH;clear hmp dH;have Ya:mb<mp:=by omega
   replace Gb:=Gb.keep hb;replace lb:mb<uP.heap.size:=by have:=hb.size;omega
   have TU:mk<mp:=by omega
   replace Gk:=nA.keep _ _ _ Gk hb;replace lk:mk<uP.heap.size:=by have:=hb.size;omega
   have Jy:mr<mp:=by omega
   replace Gr:=Gr.keep hb;replace lr:mr<uP.heap.size:=by have:=hb.size;omega
   replace gp:w1.heap.size<=mp:=by have:=hx.size;omega
   exact Z3k):P:=h
theorem Z8(h:P:=by
 (try simp only[bL,bM,bN,tks])
 refine tk1 4 ?_
 . refine ak.Step.value (u:=.map (some eG.heap.size)) (w':=eG.alloc (.map #[] 0)) dV ?_
   obtain⟨uP,bF,Gr,hb,dH⟩:∃w9,w9=eG.alloc (.map #[] 0)/\GM 3 w9 eG.heap.size 0 (λ_=>none)/\Below eG.heap.size eG w9/\eG.heap.size<w9.heap.size:=⟨_,rfl,GM.made _ _,Below.alloc' (Below.refl _ _) _,by simp⟩;rw[<-bF];clear bF;obtain⟨mr,hmr⟩:∃q,eG.heap.size=q:=⟨_,rfl⟩;rw[hmr]at Gr;rw[hmr];have gr:eG.heap.size<=mr:=Nat.le_of_eq hmr;have lr:mr<uP.heap.size:=hmr▸dH;clear hmr dH;have Yb:mb<mr:=by omega
   replace Gb:=Gb.keep hb;replace lb:mb<uP.heap.size:=by have:=hb.size;omega
   have YB:mk<mr:=by omega
   replace Gk:=nA.keep _ _ _ Gk hb;replace lk:mk<uP.heap.size:=by have:=hb.size;omega
   have Jy:mp<mr:=by omega
   replace Gp:=Gp.keep hb;replace lp:mp<uP.heap.size:=by have:=hb.size;omega
   replace gr:w1.heap.size<=mr:=by have:=hx.size;omega
   exact Z3k):P:=h
theorem Z9(h:P:=by
 (try simp only[bL,bM,bN,tks])
 refine tk1 1 ?_
 . refine ak.Step.value (u:=.map (some eG.heap.size)) (w':=eG.alloc (.map #[] 0)) dV ?_
   obtain⟨uP,bF,Gb,hb,dH⟩:∃w9,w9=eG.alloc (.map #[] 0)/\GM 3 w9 eG.heap.size 0 (λ_=>none)/\Below eG.heap.size eG w9/\eG.heap.size<w9.heap.size:=⟨_,rfl,GM.made _ _,Below.alloc' (Below.refl _ _) _,by simp⟩;rw[<-bF];clear bF;obtain⟨mb,hmb⟩:∃q,eG.heap.size=q:=⟨_,rfl⟩;rw[hmb]at Gb;rw[hmb];have gb:eG.heap.size<=mb:=Nat.le_of_eq hmb;have lb:mb<uP.heap.size:=hmb▸dH;clear hmb dH;have YC:mk<mb:=by omega
   replace Gk:=nA.keep _ _ _ Gk hb;replace lk:mk<uP.heap.size:=by have:=hb.size;omega
   have Ya:mp<mb:=by omega
   replace Gp:=Gp.keep hb;replace lp:mp<uP.heap.size:=by have:=hb.size;omega
   have Yb:mr<mb:=by omega
   replace Gr:=Gr.keep hb;replace lr:mr<uP.heap.size:=by have:=hb.size;omega
   replace gb:w1.heap.size<=mb:=by have:=hx.size;omega
   exact Z3k):P:=h
theorem Za(h:P:=by
 go_enter Tryz.func91,Tryz.ntmps91
 go_upto_region 2 with(first|(refine dn aX rfl ?_)|(refine eP aX rfl ?_)|(refine bq aX _ rfl rfl xX ?_)|(refine eT aX _ _ rfl rfl rfl xX ?_)|(refine dJ aX _ _ rfl rfl rfl xX ?_)|(refine fJ aX _ rfl rfl yc.out ?_))
 generalize hW:World.setRow _ _ _=W1;have A1:At W1 w.heap.size (.cells (cells s) 46):=hW▸(At.new w (.cells (cells Re.zero) 46)).setRow _;have hB:Below w.heap.size w W1:=hW▸below_setRow (Below.alloc' (Below.refl _ _) _) (aG _) _;clear hW;replace d0:=(Below.cell_ hB l0 _).trans d0;replace d1:=(Below.cell_ hB l0 _).trans d1;have l1:=A1.lt;have g0:=A1.st 0 aH rfl;have g2:=A1.st 2 aH rfl;have g5:=A1.st 5 aH rfl;have g9:=A1.st 9 aH rfl;replace l0:=aV l0 hB.size;clear yc;go_wp2
 go_ret
 refine⟨fT (by unfold Fw.opn;rw[show Fw.sd 1 0=0 from rfl];simp[*]),hB⟩):P:=h
theorem Zb(h:P:=by
 go_region_with (refine(hA.call xs x _ (hA.keep _ _ _ hI (Below.drew (Below.refl _ _))) hx).mono ?_;rintro e w1 ⟨rfl,hI1,iA⟩;replace iA:=(Out.of_below (M:=mine) (Below.drew (Below.refl w.heap.size w))).trans iA;have a1:=At.out a n1 iA;have aw1:=At.out aw n2 iA;have Bp:w1.cell? ⟨b,o,none⟩=some (.int .i64 x):=(a1.cell o).trans ho;have hf1:=a1.thaw o)
 all_goals (refine bodyPost_end (results_none rfl _ _ _) rfl ⟨rfl,⟨hA.set _ _ _ _ _ hI1 n1,At.set a1 _ _,At.off aw1 (Ne.symm n3) _ _⟩,Out.set (iA.mono λ_ _ h => .inl h) (.inr rfl) _ _⟩)):P:=h
theorem Zc(h:P:=by
 replace hx:=Below.ay hx (aG _) hb;clear hb;refine⟨λ_=>hx,?_⟩
 (try simp only[bL,bM,bN,tks])
 refine tk1 2 ?_
 . refine ak.Step.call dV (jN _) ?_
   rintro e uP ⟨⟨mk,rfl,gk,Gk⟩,hb⟩;have lk:mk<uP.heap.size:=by obtain⟨_,_,q,_⟩:=Gk;exact q.lt
   have YC:mb<mk:=by omega
   replace Gb:=Gb.keep hb;replace lb:mb<uP.heap.size:=by have:=hb.size;omega
   have TU:mp<mk:=by omega
   replace Gp:=Gp.keep hb;replace lp:mp<uP.heap.size:=by have:=hb.size;omega
   have YB:mr<mk:=by omega
   replace Gr:=Gr.keep hb;replace lr:mr<uP.heap.size:=by have:=hb.size;omega
   replace gk:w1.heap.size<=mk:=by have:=hx.size;omega
   replace hx:=Below.ay hx (aG _) hb;clear hb;refine⟨_,rfl,λ_=>hx,?_⟩
   exact Z0):P:=h
theorem Zd(h:P:=by
 have hT4:=HK.out.2.1;have hne:iu≠k':=λe=>by have:=HU.out;rw[e,hT4]at this;cases this
 obtain⟨W5,hst,JF,hD5,hG5⟩:=HD.out.ab2 hkd hT4 (iu:Int);have c4:=HD.out.cT;have HST:=ah hst;have HBD:=ah (CF (iu:Int));have TW:=ah (((DG.of_below HB1.out).trans HG.out).trans hG5);have hU5:Tr.set T (k':Int) ⟨iu,[],Re.zero⟩ iu=some p:=(Tr.aK _ _ aj).trans HU.out;have hKu:(if (iu:Int)=(k':Int)then (Value.slice none 0 0)else K iu)=.slice A nk cc:=by rw[if_neg aj];exact HV.out
 have c5:=hD5.cT;have c6:=hD5.lZ hU5;have jO:=hD5.row _ _ hU5;simp only[hKu]at c6 jO;have HD5:=ah hD5;have HU5:=ah hU5;have Br:=ah jO;have HV5:Hid ((if (iu:Int)=(k':Int)then (Value.slice none 0 0)else K iu)=.slice A nk cc):=ah hKu;clear c0 hst JF hD5 hG5 HD HG hU5 hKu hT4 jO hne HV Bt;generalize fZ (iu:Int) (.slice none 0 0) Re.zero=dc at *;have agW:Hid ((λz:Int=>if z=(k':Int)then (Value.slice none 0 0)else K z) iu=.slice A nk cc):=HV5;clear HV5;generalize (λz:Int=>if z=(k':Int)then (Value.slice none 0 0)else K z)=K5 at *;generalize hT5:Tr.set T (k':Int) ⟨iu,[],Re.zero⟩=T5 at *;have HT5:=ah hT5;clear hT5
 go_upto_region 15 with(first|(refine wpList_build aX 101 _ rfl #[(0,.bool true),(1,.int .i64 (iu:Int))] YD (HBD.out _) ?_)|(refine oK aX (sS (.tmp 64) (.tmp 63) rfl rfl rfl HST.out) ?_))
 clear HST HBD c4;refine lF (S:=(λW'=>W'.cell? ⟨r,0,none⟩=some (.slice (some ⟨gd,0,none⟩) md cd)/\W'.cell? ⟨gd,iu*58+2,none⟩=some (.slice A nk cc)/\Below W5.heap.size W5 W')) 16 ?_ ?_
 . exact⟨c5,c6,Below.drew (Below.refl _ _)⟩
 intro hS0;clear c5 c6;refine aW 0 ?_;refine aW 1 ?_;refine aW 2 ?_;refine aW 3 ?_;refine aW 4 ?_;refine aW 5 ?_;refine aW 6 ?_;refine aW 7 ?_;refine aW 8 ?_;refine aW 9 ?_;refine aW 10 ?_;refine aW 11 ?_;refine aW 12 ?_;refine aW 13 ?_;refine aW 14 ?_;refine tk1 15 ?_;refine ak.Step.call dV (FT (Br.out.after hS0.2.2) (by rw[HNK.out];exact aed.out) (by rw[HNK.out];exact hil.out) (k':Int)) ?_;rintro e w6 ⟨⟨v6,rfl,BZ⟩,hb6⟩;have hS1:=hS0.2.2.trans (hb6.mono hS0.2.2.size);have hn6:=aJ hS0.2.2.size (aG _);have JG:=fH BZ (fC _);have hown6:=λb hb=>aJ hn6 (World.ownsRow.lt BZ b hb).1;obtain⟨A6,c6,rfl⟩:=fK BZ;have hD6:=HD5.out.after hS1;have c7:=hD6.cT;have c8:=hD6.lZ HU5.out;rw[agW.out]at c8;obtain⟨cur,hcur,_⟩:=hD6.cur;have hth:=hcur.thaw (iu*58+2);have hD7:=ah (hD6.sU HU5.out JG)
 have M0:DG r gd K5 T5 W5 (w6.setCell ⟨gd,iu*58+2,none⟩ (.slice A6 (Tr.wi p.kids i k').length c6)) gd (λz=>if z=(iu:Int)then .slice A6 (Tr.wi p.kids i k').length c6 else K5 z) (Tr.set T5 iu { p with kids:=Tr.wi p.kids i k' }) :=
  ⟨(Out.of_below hS1).trans ((Out.refl _ _).set (M:=jC r gd K5 T5) (.inr (.inl rfl)) _ _),λb hb=>(qH HU5.out hb).elim .inl λq => .inr (hown6 b q)⟩
 have HG7:=ah (TW.out.trans M0);refine⟨_,rfl,λ_=>⟨c7,c8,hS1⟩,?_⟩;clear M0 hS0 hS1 hn6 JG hown6 BZ hb6 hcur hD6 TW Br HB1;generalize hnl:(Tr.wi p.kids i (k':Int)).length=nl at *
 (try simp only[bL,bM,bN,tks])
 refine tk1 16 ?_;refine uM ?_ (hS:=by first|(intro hlt;exact absurd hlt aH)|(intro _;exact hlt));refine tk1 17 ?_;refine uM ?_ (hS:=by first|(intro hlt;exact absurd hlt aH)|(intro _;exact hlt));refine tk1 18 ?_;refine ak.Step.skip Z4k ?_;refine⟨by first|(intro hlt;exact absurd hlt aH)|(intro _;exact hlt),?_⟩;(try simp only[Act.put]);refine ko ?_;go_wp2
 go_ret2
 rw[HT5.out]
 exact⟨rfl,_,_,_,_,hD7.out,hml,HG7.out⟩):P:=h
theorem Ze(h:P:=by
 (try simp only[bL,bM,bN,tks])
 refine tk1 5 ?_;have kr:=nJ hL qR sV.out hkm oZ kid i0 i1 (-1) (-1) hdk.out.1 hdk.out.2 aj;rw[qI]at kr;refine ak.Step.call dV kr ?_;rintro e x14 ⟨rfl,n2,P2,hn2,CG,xu,hO⟩;have Cz:∀b,b<wr.heap.size->P2 b->P' b:=λb hb h=>xu b (aV hb hx.size) h;have lp:=Ap.lt;replace np:¬ P2 Tp:=λh=>np (xu Tp lp h);replace Ap:=At.out (M:=λb=>b=Y.pm) Ap aj hO;clear lp;have lq:=Aq.lt;replace nq:¬ P2 Tq:=λh=>nq (xu Tq lq h);replace Aq:=At.out (M:=λb=>b=Y.pm) Aq aj hO;clear lq;replace oZ:=CG;clear CG xu kr;replace hx:=hx.trans hO;clear hO;refine⟨_,rfl,λ_=>hx,?_⟩
 exact Z2):P:=h
theorem Zf(h:P:=by
 refine bodyPost_end (results_none rfl _ _ _) rfl ⟨rfl,?_,Out.set (hO.mono λ_ _ q=>q.elim .inl λq => .inr (.inl q)) (.inr (.inr rfl)) _ _⟩;rw[wH.out];simp only[Bool.not_false,Bool.or_true]
 exact Here.held hA h1' hp _):P:=h
theorem Zg(h:P:=by
 have Yc:Hid (nC T (ks.take (k+1))=nC T (ks.take k)):=ah (by rw[QJ,QK,if_neg (by rw[n0,no];decide),List.append_nil]);have HKA:Hid (pY T (ks.take (k+1))=pY T (ks.take k)++[x]):=ah (by rw[QL,QM,if_pos (by rw[n0,no];rfl)]);clear QJ QL QK QM
 go_upto_region 4 with(fail)
 go_upto_region 6 with(first|(go_at_call 9;(with_reducible refine key2.mono ?_);rintro e w2 ⟨rfl,hb2⟩)|(refine dn aX rfl ?_)|(refine eP aX rfl ?_)|(refine bq aX _ rfl rfl xX ?_)|(refine eT aX _ _ rfl rfl rfl xX ?_)|(refine dJ aX _ _ rfl rfl rfl xX ?_))
 (try simp only[bL,bM,bN,tks])
 generalize hW:World.setRow _ _ _=w3;have A3:At w3 w2.heap.size (.cells (cells sx) 46):=by rw[<-hW];exact At.setRow (At.new w2 (.cells (cells Re.zero) 46)) (cells sx)
 have hb3:Below wr.heap.size wr w3:=by rw[<-hW];exact below_setRow (hb2.alloc hb2.size (.cells (cells Re.zero) 46)) hb2.size (cells sx)
 clear hW;have hv3:=bJ (M:=λ_=>False) hv (λ_ _ q=>q) (Out.of_below hb3);have hu3:=bJ (M:=λ_=>False) hu (λ_ _ q=>q) (Out.of_below hb3);have hB3:Below w1.heap.size w1 w3:=Below.ay hB (aG _) hb3;have l3:=A3.lt;have d0:=A3.st 0 aH rfl;have d1:=A3.st 1 aH rfl;have hlen1:(nC T (ks.take k)).length<=10000:=Hg T ks k HL.out;have TY:(pY T (ks.take k)).length<=10000:=Hl T ks k HL.out;obtain⟨g,c,w4,hr,ho4,hp4,ha4,hb4,hs4⟩:=CJ x hu3 hv3 hap (by have:=hB3.size;omega) TY;have HRR:=ah hr;clear hr
 go_wp2_with (at_builtin;refine wpList_append_run aX _ _ 30 rfl rfl rfl HRR.out ?_)
 (try simp only[bL,bM,bN,tks])
 (try simp only[Act.put,List.setIfInBounds_toArray,List.set_cons_zero,List.set_cons_succ,List.size_toArray,Array.getD_eq_getD_getElem?])
 go_roundw
 case rel =>
  refine⟨k+1,Nat.succ_le_of_lt Jz.out,?_,?_⟩
  . exact Z3n
  . rw[Yc.out,HKA.out]
    exact⟨hp4,by rw[List.length_append];exact ho4,ha4,hB3.trans hb4⟩
 case measure =>
  exact Z2m):P:=h
theorem Zh(h:P:=by
 (try simp only[bL,bM,bN,tks])
 refine tk2 5 7 ?_ ?_
 . refine ak.Step.call YE (iO _ _ _ _ _) ?_
   rintro e eG ⟨rfl,hb⟩;replace Ap:=Ap.keep hb;replace hx:=Below.ay hx (aG _) hb;clear hb;refine⟨_,rfl,λ_=>hx,?_⟩;exact Z1a
 . refine ak.Step.value (u:=.pointer (some ⟨bS.heap.size,0,none⟩)) (w':=bS.alloc (.cells #[.int .i64 0,.int .i64 0,.int .i64 0,.int .i64 0] 115)) dV ?_
   obtain⟨eG,bF,Aq,hb⟩:∃w9,w9=bS.alloc (.cells #[.int .i64 0,.int .i64 0,.int .i64 0,.int .i64 0] 115)/\At w9 bS.heap.size (.cells #[.int .i64 0,.int .i64 0,.int .i64 0,.int .i64 0] 115)/\Below bS.heap.size bS w9:=⟨_,rfl,At.new _ _,Below.alloc' (Below.refl _ _) _⟩;rw[<-bF];clear bF;have gq:=hx.size;obtain⟨Tq,oL⟩:∃q,bS.heap.size=q:=⟨_,rfl⟩;rw[oL]at Aq gq;rw[oL];have kq:bS.heap.size<=Tq:=Nat.le_of_eq oL;clear oL;have QN:Tp≠Tq:=by have:=Ap.lt;omega
   replace Ap:=Ap.keep hb;replace hx:=Below.ay hx (aG _) hb;clear hb;refine⟨λ_=>hx,?_⟩
   exact Zy):P:=h
theorem Zi(h:P:=by
 (try simp only[bL,bM,bN,tks])
 refine tk2 5 6 ?_ ?_
 . refine ak.Step.call YE (iO _ _ _ _ _) ?_
   rintro e eG ⟨rfl,hb⟩;replace Aq:=Aq.keep hb;replace hx:=Below.ay hx (aG _) hb;clear hb;refine⟨_,rfl,λ_=>hx,?_⟩;exact Z1b
 . refine ak.Step.value (u:=.pointer (some ⟨bS.heap.size,0,none⟩)) (w':=bS.alloc (.cells #[.int .i64 0,.int .i64 0,.int .i64 0,.int .i64 0] 115)) dV ?_
   obtain⟨eG,bF,Ap,hb⟩:∃w9,w9=bS.alloc (.cells #[.int .i64 0,.int .i64 0,.int .i64 0,.int .i64 0] 115)/\At w9 bS.heap.size (.cells #[.int .i64 0,.int .i64 0,.int .i64 0,.int .i64 0] 115)/\Below bS.heap.size bS w9:=⟨_,rfl,At.new _ _,Below.alloc' (Below.refl _ _) _⟩;rw[<-bF];clear bF;have gp:=hx.size;obtain⟨Tp,mo⟩:∃q,bS.heap.size=q:=⟨_,rfl⟩;rw[mo]at Ap gp;rw[mo];have kp:bS.heap.size<=Tp:=Nat.le_of_eq mo;clear mo;have QN:Tq≠Tp:=by have:=Aq.lt;omega
   replace Aq:=Aq.keep hb;replace hx:=Below.ay hx (aG _) hb;clear hb;refine⟨λ_=>hx,?_⟩
   exact Zy):P:=h
theorem Zj(h:P:=by
 (try simp only[bL,bM,bN,tks])
 refine tk1 15 ?_;refine ak.Step.value (u:=.pointer (some ⟨ET.heap.size,0,none⟩)) (w':=ET.alloc (.cells #[.int .i64 0,.int .i64 0,.int .i64 0,.int .i64 0,.int .i64 0,.int .i64 0,.int .i64 0] 77)) dV ?_;obtain⟨x14,bF,Ap,hb⟩:∃w9,w9=ET.alloc (.cells #[.int .i64 0,.int .i64 0,.int .i64 0,.int .i64 0,.int .i64 0,.int .i64 0,.int .i64 0] 77)/\At w9 ET.heap.size (.cells #[.int .i64 0,.int .i64 0,.int .i64 0,.int .i64 0,.int .i64 0,.int .i64 0,.int .i64 0] 77)/\Below ET.heap.size ET w9:=⟨_,rfl,At.new _ _,Below.alloc' (Below.refl _ _) _⟩;rw[<-bF];clear bF;have gp:=hx.size;obtain⟨Tp,mo⟩:∃q,ET.heap.size=q:=⟨_,rfl⟩;have np:¬ P2 Tp:=λh=>by have:=oZ.lt _ h;omega
 rw[mo]at Ap gp;rw[mo];have QN:Tq<Tp:=by have:=Aq.lt;omega
 clear mo;replace Aq:=Aq.keep hb
 exact Z3s):P:=h
theorem Zk(h:P:=by
 go_enter Tryz.func139,Tryz.ntmps139
 go_upto_region 2 with(fail)
 generalize hW:World.alloc (World.alloc (World.alloc (World.alloc _ _) _) _) _=W1;have hX:bY W1 w.heap.size (w.heap.size+1) (w.heap.size+1+1) (w.heap.size+1+1+1) left 0 0 1:=hW▸oh w left;have hB:Below w.heap.size w W1:=hW▸mX w _ _ _ _;clear hW;obtain⟨m2,m3,m4⟩:w.heap.size<=w.heap.size+1/\w.heap.size<=w.heap.size+1+1/\w.heap.size<=w.heap.size+1+1+1:=⟨by omega,by omega,by omega⟩;generalize w.heap.size+1+1+1=b4 at *;generalize w.heap.size+1+1=b3 at *;generalize w.heap.size+1=b2 at *;have HX:=ah hX;obtain⟨c1,c2,c3,c4⟩:=hX.cells;obtain⟨z2,z3,z4,l2,l3,l4⟩:=hX.FU;have l1:=hX.a1.lt;have n23:=hX.n23;have n24:=hX.n24;have n34:=hX.n34;have n32:=hX.n23.symm;have n42:=hX.n24.symm;have n43:=hX.n34.symm;clear hX;go_wp2
 go_ret
 exact⟨⟨_,_,_,_,rfl,((HX.out.QI (1)).Ua (2))⟩,(Below.setCell (Below.setCell hB m2 _) m4 _)⟩):P:=h
theorem Zl(h:P:=by
 (try simp only[bL,bM,bN,tks])
 refine tk2 3 4 ?_ ?_
 . refine ak.Step.value (u:=.map (some bS.heap.size)) (w':=bS.alloc (.map #[] 0)) dV ?_
   obtain⟨eG,bF,Gp,hb,dH⟩:∃w9,w9=bS.alloc (.map #[] 0)/\GM 75 w9 bS.heap.size 0 (λ_=>none)/\Below bS.heap.size bS w9/\bS.heap.size<w9.heap.size:=⟨_,rfl,GM.made _ _,Below.alloc' (Below.refl _ _) _,by simp⟩;rw[<-bF];clear bF;obtain⟨mp,hmp⟩:∃q,bS.heap.size=q:=⟨_,rfl⟩;rw[hmp]at Gp;rw[hmp];have gp:bS.heap.size<=mp:=Nat.le_of_eq hmp;have lp:mp<eG.heap.size:=hmp▸dH;clear hmp dH;have Ya:mb<mp:=by omega
   replace Gb:=Gb.keep hb;replace lb:mb<eG.heap.size:=by have:=hb.size;omega
   have TU:mk<mp:=by omega
   replace Gk:=nA.keep _ _ _ Gk hb;replace lk:mk<eG.heap.size:=by have:=hb.size;omega
   replace gp:w1.heap.size<=mp:=by have:=hx.size;omega
   replace hx:=Below.ay hx (aG _) hb;clear hb;refine⟨λ_=>hx,?_⟩;exact Z8
 . refine ak.Step.value (u:=.map (some bS.heap.size)) (w':=bS.alloc (.map #[] 0)) dV ?_
   obtain⟨eG,bF,Gr,hb,dH⟩:∃w9,w9=bS.alloc (.map #[] 0)/\GM 3 w9 bS.heap.size 0 (λ_=>none)/\Below bS.heap.size bS w9/\bS.heap.size<w9.heap.size:=⟨_,rfl,GM.made _ _,Below.alloc' (Below.refl _ _) _,by simp⟩;rw[<-bF];clear bF;obtain⟨mr,hmr⟩:∃q,bS.heap.size=q:=⟨_,rfl⟩;rw[hmr]at Gr;rw[hmr];have gr:bS.heap.size<=mr:=Nat.le_of_eq hmr;have lr:mr<eG.heap.size:=hmr▸dH;clear hmr dH;have Yb:mb<mr:=by omega
   replace Gb:=Gb.keep hb;replace lb:mb<eG.heap.size:=by have:=hb.size;omega
   have YB:mk<mr:=by omega
   replace Gk:=nA.keep _ _ _ Gk hb;replace lk:mk<eG.heap.size:=by have:=hb.size;omega
   replace gr:w1.heap.size<=mr:=by have:=hx.size;omega
   replace hx:=Below.ay hx (aG _) hb;clear hb;refine⟨λ_=>hx,?_⟩
   exact Z7):P:=h
theorem Zm(h:P:=by
 (try simp only[bL,bM,bN,tks])
 refine tk2 1 3 ?_ ?_
 . refine ak.Step.value (u:=.map (some bS.heap.size)) (w':=bS.alloc (.map #[] 0)) dV ?_
   obtain⟨eG,bF,Gb,hb,dH⟩:∃w9,w9=bS.alloc (.map #[] 0)/\GM 3 w9 bS.heap.size 0 (λ_=>none)/\Below bS.heap.size bS w9/\bS.heap.size<w9.heap.size:=⟨_,rfl,GM.made _ _,Below.alloc' (Below.refl _ _) _,by simp⟩;rw[<-bF];clear bF;obtain⟨mb,hmb⟩:∃q,bS.heap.size=q:=⟨_,rfl⟩;rw[hmb]at Gb;rw[hmb];have gb:bS.heap.size<=mb:=Nat.le_of_eq hmb;have lb:mb<eG.heap.size:=hmb▸dH;clear hmb dH;have YC:mk<mb:=by omega
   replace Gk:=nA.keep _ _ _ Gk hb;replace lk:mk<eG.heap.size:=by have:=hb.size;omega
   have Yb:mr<mb:=by omega
   replace Gr:=Gr.keep hb;replace lr:mr<eG.heap.size:=by have:=hb.size;omega
   replace gb:w1.heap.size<=mb:=by have:=hx.size;omega
   replace hx:=Below.ay hx (aG _) hb;clear hb;refine⟨λ_=>hx,?_⟩;exact Z7
 . refine ak.Step.value (u:=.map (some bS.heap.size)) (w':=bS.alloc (.map #[] 0)) dV ?_
   obtain⟨eG,bF,Gp,hb,dH⟩:∃w9,w9=bS.alloc (.map #[] 0)/\GM 75 w9 bS.heap.size 0 (λ_=>none)/\Below bS.heap.size bS w9/\bS.heap.size<w9.heap.size:=⟨_,rfl,GM.made _ _,Below.alloc' (Below.refl _ _) _,by simp⟩;rw[<-bF];clear bF;obtain⟨mp,hmp⟩:∃q,bS.heap.size=q:=⟨_,rfl⟩;rw[hmp]at Gp;rw[hmp];have gp:bS.heap.size<=mp:=Nat.le_of_eq hmp;have lp:mp<eG.heap.size:=hmp▸dH;clear hmp dH;have TU:mk<mp:=by omega
   replace Gk:=nA.keep _ _ _ Gk hb;replace lk:mk<eG.heap.size:=by have:=hb.size;omega
   have Jy:mr<mp:=by omega
   replace Gr:=Gr.keep hb;replace lr:mr<eG.heap.size:=by have:=hb.size;omega
   replace gp:w1.heap.size<=mp:=by have:=hx.size;omega
   replace hx:=Below.ay hx (aG _) hb;clear hb;refine⟨λ_=>hx,?_⟩
   exact Z9):P:=h
theorem Zn(h:P:=by
 (try simp only[bL,bM,bN,tks])
 refine tk2 1 4 ?_ ?_
 . refine ak.Step.value (u:=.map (some bS.heap.size)) (w':=bS.alloc (.map #[] 0)) dV ?_
   obtain⟨eG,bF,Gb,hb,dH⟩:∃w9,w9=bS.alloc (.map #[] 0)/\GM 3 w9 bS.heap.size 0 (λ_=>none)/\Below bS.heap.size bS w9/\bS.heap.size<w9.heap.size:=⟨_,rfl,GM.made _ _,Below.alloc' (Below.refl _ _) _,by simp⟩;rw[<-bF];clear bF;obtain⟨mb,hmb⟩:∃q,bS.heap.size=q:=⟨_,rfl⟩;rw[hmb]at Gb;rw[hmb];have gb:bS.heap.size<=mb:=Nat.le_of_eq hmb;have lb:mb<eG.heap.size:=hmb▸dH;clear hmb dH;have YC:mk<mb:=by omega
   replace Gk:=nA.keep _ _ _ Gk hb;replace lk:mk<eG.heap.size:=by have:=hb.size;omega
   have Ya:mp<mb:=by omega
   replace Gp:=Gp.keep hb;replace lp:mp<eG.heap.size:=by have:=hb.size;omega
   replace gb:w1.heap.size<=mb:=by have:=hx.size;omega
   replace hx:=Below.ay hx (aG _) hb;clear hb;refine⟨λ_=>hx,?_⟩;exact Z8
 . refine ak.Step.value (u:=.map (some bS.heap.size)) (w':=bS.alloc (.map #[] 0)) dV ?_
   obtain⟨eG,bF,Gr,hb,dH⟩:∃w9,w9=bS.alloc (.map #[] 0)/\GM 3 w9 bS.heap.size 0 (λ_=>none)/\Below bS.heap.size bS w9/\bS.heap.size<w9.heap.size:=⟨_,rfl,GM.made _ _,Below.alloc' (Below.refl _ _) _,by simp⟩;rw[<-bF];clear bF;obtain⟨mr,hmr⟩:∃q,bS.heap.size=q:=⟨_,rfl⟩;rw[hmr]at Gr;rw[hmr];have gr:bS.heap.size<=mr:=Nat.le_of_eq hmr;have lr:mr<eG.heap.size:=hmr▸dH;clear hmr dH;have YB:mk<mr:=by omega
   replace Gk:=nA.keep _ _ _ Gk hb;replace lk:mk<eG.heap.size:=by have:=hb.size;omega
   have Jy:mp<mr:=by omega
   replace Gp:=Gp.keep hb;replace lp:mp<eG.heap.size:=by have:=hb.size;omega
   replace gr:w1.heap.size<=mr:=by have:=hx.size;omega
   replace hx:=Below.ay hx (aG _) hb;clear hb;refine⟨λ_=>hx,?_⟩
   exact Z9):P:=h
theorem Zo(h:P:=by
 go_enter Tryz.func139,Tryz.ntmps139
 go_upto_region 2 with(fail)
 generalize hW:World.alloc (World.alloc (World.alloc (World.alloc _ _) _) _) _=W1;have hX:bY W1 w.heap.size (w.heap.size+1) (w.heap.size+1+1) (w.heap.size+1+1+1) left 0 0 1:=hW▸oh w left;have hB:Below w.heap.size w W1:=hW▸mX w _ _ _ _;clear hW;obtain⟨m2,m3,m4⟩:w.heap.size<=w.heap.size+1/\w.heap.size<=w.heap.size+1+1/\w.heap.size<=w.heap.size+1+1+1:=⟨by omega,by omega,by omega⟩;generalize w.heap.size+1+1+1=b4 at *;generalize w.heap.size+1+1=b3 at *;generalize w.heap.size+1=b2 at *;have HX:=ah hX;obtain⟨c1,c2,c3,c4⟩:=hX.cells;obtain⟨z2,z3,z4,l2,l3,l4⟩:=hX.FU;have l1:=hX.a1.lt;have n23:=hX.n23;have n24:=hX.n24;have n34:=hX.n34;have n32:=hX.n23.symm;have n42:=hX.n24.symm;have n43:=hX.n34.symm;clear hX;go_wp2
 go_ret
 exact⟨⟨_,_,_,_,rfl,HX.out⟩,hB⟩):P:=h
theorem Zp(h:P:=by
 (try simp only[bL,bM,bN,tks])
 refine tk2 5 16 ?_ ?_
 . have kr:=nJ hL qR sV.out hkm oZ kid i0 i1 (-1) (-1) hdk.out.1 hdk.out.2 aj
   rw[qI]at kr;refine ak.Step.call dV kr ?_;rintro e ET ⟨rfl,n2,P2,hn2,CG,xu,hO⟩;have Cz:∀b,b<wr.heap.size->P2 b->P' b:=λb hb h=>xu b (aV hb hx.size) h;have lp:=Ap.lt;replace np:¬ P2 Tp:=λh=>np (xu Tp lp h);replace Ap:=At.out (M:=λb=>b=Y.pm) Ap aj hO;clear lp;replace oZ:=CG;clear CG xu kr;replace hx:=hx.trans hO;clear hO;refine⟨_,rfl,λ_=>hx,?_⟩;exact Z1f
 . refine ak.Step.value (eU rfl) ?_
   obtain⟨ET,bF,Aq,hb⟩:∃w9,w9=o9.alloc (.cells (cells Re.zero) 46)/\At w9 o9.heap.size (.cells (cells Re.zero) 46)/\Below o9.heap.size o9 w9:=⟨_,rfl,At.new _ _,Below.alloc' (Below.refl _ _) _⟩;rw[<-bF];clear bF;have gq:=hx.size;obtain⟨Tq,oL⟩:∃q,o9.heap.size=q:=⟨_,rfl⟩;have nq:¬ P' Tq:=λh=>by have:=oZ.lt _ h;omega
   rw[oL]at Aq gq;rw[oL];have QN:Tp<Tq:=by have:=Ap.lt;omega
   clear oL;replace Ap:=Ap.keep hb
   exact Z3r):P:=h
theorem Zq(h:P:=by
 (try simp only[bL,bM,bN,tks])
 refine tk2 5 15 ?_ ?_
 . have kr:=nJ hL qR sV.out hkm oZ kid i0 i1 (-1) (-1) hdk.out.1 hdk.out.2 aj
   rw[qI]at kr;refine ak.Step.call dV kr ?_;rintro e ET ⟨rfl,n2,P2,hn2,CG,xu,hO⟩;have Cz:∀b,b<wr.heap.size->P2 b->P' b:=λb hb h=>xu b (aV hb hx.size) h;have lq:=Aq.lt;replace nq:¬ P2 Tq:=λh=>nq (xu Tq lq h);replace Aq:=At.out (M:=λb=>b=Y.pm) Aq aj hO;clear lq;replace oZ:=CG;clear CG xu kr;replace hx:=hx.trans hO;clear hO;refine⟨_,rfl,λ_=>hx,?_⟩;exact Zj
 . refine ak.Step.value (u:=.pointer (some ⟨o9.heap.size,0,none⟩)) (w':=o9.alloc (.cells #[.int .i64 0,.int .i64 0,.int .i64 0,.int .i64 0,.int .i64 0,.int .i64 0,.int .i64 0] 77)) dV ?_
   obtain⟨ET,bF,Ap,hb⟩:∃w9,w9=o9.alloc (.cells #[.int .i64 0,.int .i64 0,.int .i64 0,.int .i64 0,.int .i64 0,.int .i64 0,.int .i64 0] 77)/\At w9 o9.heap.size (.cells #[.int .i64 0,.int .i64 0,.int .i64 0,.int .i64 0,.int .i64 0,.int .i64 0,.int .i64 0] 77)/\Below o9.heap.size o9 w9:=⟨_,rfl,At.new _ _,Below.alloc' (Below.refl _ _) _⟩;rw[<-bF];clear bF;have gp:=hx.size;obtain⟨Tp,mo⟩:∃q,o9.heap.size=q:=⟨_,rfl⟩;have np:¬ P' Tp:=λh=>by have:=oZ.lt _ h;omega
   rw[mo]at Ap gp;rw[mo];have QN:Tq<Tp:=by have:=Aq.lt;omega
   clear mo;replace Aq:=Aq.keep hb
   exact Z3r):P:=h
theorem Zr(h:P:=by
 replace hx:=Below.ay hx (aG _) hb;clear hb;refine⟨λ_=>hx,?_⟩
 (try simp only[bL,bM,bN,tks])
 refine tk2 2 3 ?_ ?_
 . refine ak.Step.call dV (jN _) ?_
   rintro e eG ⟨⟨mk,rfl,gk,Gk⟩,hb⟩;have lk:mk<eG.heap.size:=by obtain⟨_,_,q,_⟩:=Gk;exact q.lt
   have YC:mb<mk:=by omega
   replace Gb:=Gb.keep hb;replace lb:mb<eG.heap.size:=by have:=hb.size;omega
   have YB:mr<mk:=by omega
   replace Gr:=Gr.keep hb;replace lr:mr<eG.heap.size:=by have:=hb.size;omega
   replace gk:w1.heap.size<=mk:=by have:=hx.size;omega
   replace hx:=Below.ay hx (aG _) hb;clear hb;refine⟨_,rfl,λ_=>hx,?_⟩;exact Z7
 . refine ak.Step.value (u:=.map (some bS.heap.size)) (w':=bS.alloc (.map #[] 0)) dV ?_
   obtain⟨eG,bF,Gp,hb,dH⟩:∃w9,w9=bS.alloc (.map #[] 0)/\GM 75 w9 bS.heap.size 0 (λ_=>none)/\Below bS.heap.size bS w9/\bS.heap.size<w9.heap.size:=⟨_,rfl,GM.made _ _,Below.alloc' (Below.refl _ _) _,by simp⟩;rw[<-bF];clear bF;obtain⟨mp,hmp⟩:∃q,bS.heap.size=q:=⟨_,rfl⟩;rw[hmp]at Gp;rw[hmp];have gp:bS.heap.size<=mp:=Nat.le_of_eq hmp;have lp:mp<eG.heap.size:=hmp▸dH;clear hmp dH;have Ya:mb<mp:=by omega
   replace Gb:=Gb.keep hb;replace lb:mb<eG.heap.size:=by have:=hb.size;omega
   have Jy:mr<mp:=by omega
   replace Gr:=Gr.keep hb;replace lr:mr<eG.heap.size:=by have:=hb.size;omega
   replace gp:w1.heap.size<=mp:=by have:=hx.size;omega
   exact Zc):P:=h
theorem Zs(h:P:=by
 replace hx:=Below.ay hx (aG _) hb;clear hb;refine⟨λ_=>hx,?_⟩
 (try simp only[bL,bM,bN,tks])
 refine tk2 2 4 ?_ ?_
 . refine ak.Step.call dV (jN _) ?_
   rintro e eG ⟨⟨mk,rfl,gk,Gk⟩,hb⟩;have lk:mk<eG.heap.size:=by obtain⟨_,_,q,_⟩:=Gk;exact q.lt
   have YC:mb<mk:=by omega
   replace Gb:=Gb.keep hb;replace lb:mb<eG.heap.size:=by have:=hb.size;omega
   have TU:mp<mk:=by omega
   replace Gp:=Gp.keep hb;replace lp:mp<eG.heap.size:=by have:=hb.size;omega
   replace gk:w1.heap.size<=mk:=by have:=hx.size;omega
   replace hx:=Below.ay hx (aG _) hb;clear hb;refine⟨_,rfl,λ_=>hx,?_⟩;exact Z8
 . refine ak.Step.value (u:=.map (some bS.heap.size)) (w':=bS.alloc (.map #[] 0)) dV ?_
   obtain⟨eG,bF,Gr,hb,dH⟩:∃w9,w9=bS.alloc (.map #[] 0)/\GM 3 w9 bS.heap.size 0 (λ_=>none)/\Below bS.heap.size bS w9/\bS.heap.size<w9.heap.size:=⟨_,rfl,GM.made _ _,Below.alloc' (Below.refl _ _) _,by simp⟩;rw[<-bF];clear bF;obtain⟨mr,hmr⟩:∃q,bS.heap.size=q:=⟨_,rfl⟩;rw[hmr]at Gr;rw[hmr];have gr:bS.heap.size<=mr:=Nat.le_of_eq hmr;have lr:mr<eG.heap.size:=hmr▸dH;clear hmr dH;have Yb:mb<mr:=by omega
   replace Gb:=Gb.keep hb;replace lb:mb<eG.heap.size:=by have:=hb.size;omega
   have Jy:mp<mr:=by omega
   replace Gp:=Gp.keep hb;replace lp:mp<eG.heap.size:=by have:=hb.size;omega
   replace gr:w1.heap.size<=mr:=by have:=hx.size;omega
   exact Zc):P:=h
theorem Zt(h:P:=by
 replace hx:=Below.ay hx (aG _) hb;clear hb;refine⟨λ_=>hx,?_⟩
 (try simp only[bL,bM,bN,tks])
 refine tk2 1 2 ?_ ?_
 . refine ak.Step.value (u:=.map (some bS.heap.size)) (w':=bS.alloc (.map #[] 0)) dV ?_
   obtain⟨eG,bF,Gb,hb,dH⟩:∃w9,w9=bS.alloc (.map #[] 0)/\GM 3 w9 bS.heap.size 0 (λ_=>none)/\Below bS.heap.size bS w9/\bS.heap.size<w9.heap.size:=⟨_,rfl,GM.made _ _,Below.alloc' (Below.refl _ _) _,by simp⟩;rw[<-bF];clear bF;obtain⟨mb,hmb⟩:∃q,bS.heap.size=q:=⟨_,rfl⟩;rw[hmb]at Gb;rw[hmb];have gb:bS.heap.size<=mb:=Nat.le_of_eq hmb;have lb:mb<eG.heap.size:=hmb▸dH;clear hmb dH;have Ya:mp<mb:=by omega
   replace Gp:=Gp.keep hb;replace lp:mp<eG.heap.size:=by have:=hb.size;omega
   have Yb:mr<mb:=by omega
   replace Gr:=Gr.keep hb;replace lr:mr<eG.heap.size:=by have:=hb.size;omega
   replace gb:w1.heap.size<=mb:=by have:=hx.size;omega
   exact Zc
 . refine ak.Step.call dV (jN _) ?_
   rintro e eG ⟨⟨mk,rfl,gk,Gk⟩,hb⟩;have lk:mk<eG.heap.size:=by obtain⟨_,_,q,_⟩:=Gk;exact q.lt
   have TU:mp<mk:=by omega
   replace Gp:=Gp.keep hb;replace lp:mp<eG.heap.size:=by have:=hb.size;omega
   have YB:mr<mk:=by omega
   replace Gr:=Gr.keep hb;replace lr:mr<eG.heap.size:=by have:=hb.size;omega
   replace gk:w1.heap.size<=mk:=by have:=hx.size;omega
   replace hx:=Below.ay hx (aG _) hb;clear hb;refine⟨_,rfl,λ_=>hx,?_⟩
   exact Z9):P:=h
theorem Zu(h:P:=by
 refine bodyPost_end (results_none rfl _ _ _) rfl ⟨rfl,?_,Out.set (hO.mono λ_ _ q=>q.elim .inl λq => .inr (.inl q)) (.inr (.inr rfl)) _ _⟩;rw[wH.out];simp only[Bool.not_true,Bool.or_false]
 exact Here.held hA h1' hp _):P:=h
theorem Zv(h:P:=by
 refine xW ?_
 (repeat (first|refine nW ?_ | refine nX ?_ (hc:=by intro w2 hS;first|with_reducible exact nR hS (jq _ _ _ _ _ _ _ _))|refine nY ?_))
 refine ak.cK ?_;intro w2 hS;go_wp2
 go_ret
 exact⟨bO E.out,Below.ay hB (aG _) hS⟩):P:=h
theorem Zw(h:P:=by
 rw[<-heq.out,he0]at key
 have hF4:Hid (Ub (splice cs (k*5) (wI x.it)) it (k+1)):=ah λi hi j hj=>by
  have hsz:k*5+(wI x.it).size<=cs.size:=by rw[iD];exact hfit
  by_cases ei:i=k
  . subst ei
    rw[om hsz (by rw[iD];exact hj),hiq.out]
  . rw[iP hsz (.inl aj)]
    exact hF i aj j hj
 have agX:Hid ((splice cs (k*5) (wI x.it)).size=m*5):=ah (by rw[ji (by rw[iD];exact hfit)];exact hcs);have HA4:=ah A4;have HB4:=ah hB4;clear hW A2 A3 hB3 JH HLD l2 A4 hB4 he0 hfit
 go_upto_region 8 with(first|(go_at_call 132;(with_reducible refine key.mono ?_);rintro e w5 ⟨rfl,hb5⟩)|(refine dD aX _ rfl rfl (by assumption) ?_)|(refine dZ aX _ rfl rfl (by assumption) ?_)|(refine bX aX rfl ?_)|(refine bU aX _ _ rfl rfl rfl xX ?_))
 have A6:=HA4.out.keep hb5;have EU:=Below.ay HB4.out (aG _) hb5;clear hb5 key A5 YF;go_wp2
 go_roundw
 case rel=>exact⟨k+1,_,by omega,by go_num,by rw[hlk.out],A6,agX.out,hF4.out,EU⟩
 case measure=>simp[intOf];omega):P:=h
theorem Zx(h:P:=by
 replace hx:=Below.ay hx (aG _) hb;clear hb;refine⟨λ_=>hx,?_⟩
 (try simp only[bL,bM,bN,tks])
 refine tk1 5 ?_;refine ak.Step.value (dK (λi=>szl.getD i 0) (n:=m) (.tmp 37) (.tmp 37) rfl rfl rfl aj) ?_;obtain⟨ET,bF,As,hb⟩:∃w9,w9=o9.alloc (.cells (aO (λi=>szl.getD i 0) m 0) 3)/\At w9 o9.heap.size (.cells (aO (λi=>szl.getD i 0) m 0) 3)/\Below o9.heap.size o9 w9:=⟨_,rfl,At.new _ _,Below.alloc' (Below.refl _ _) _⟩;rw[<-bF];clear bF;have gs:=hx.size;obtain⟨Ts,hTs⟩:∃q,o9.heap.size=q:=⟨_,rfl⟩;rw[hTs]at As gs;rw[hTs];have nsu:Tu<Ts:=by have:=Au.lt;omega
 replace Au:=Au.keep hb;have nsv:Tv<Ts:=by have:=Av.lt;omega
 replace Av:=Av.keep hb;clear hTs;replace hx:=Below.ay hx (aG _) hb;clear hb;refine⟨λ_=>hx,?_⟩
 (try simp only[bL,bM,bN,tks])
 refine aM 18 ?_;refine aM 19 ?_
 exact Z24):P:=h
theorem Zy(h:P:=by
 (try simp only[bL,bM,bN,tks])
 refine tk1 5 ?_;refine ak.Step.call YE (iO _ _ _ _ _) ?_;rintro e uP ⟨rfl,hb⟩;replace Ap:=Ap.keep hb;replace Aq:=Aq.keep hb;replace hx:=Below.ay hx (aG _) hb;clear hb;refine⟨_,rfl,λ_=>hx,?_⟩
 exact Z1):P:=h
theorem Zz(h:P:=by
 refine aM 18 ?_;refine aM 19 ?_;refine aM 20 ?_;refine aM 21 ?_;refine aM 22 ?_;refine aM 23 ?_;refine ko ?_;replace A0:=A0.keep hx;replace A1:=A1.keep hx;replace A2:=A2.keep hx;have hBx:Below w.heap.size w _:=Below.ay hB1 (aG _) hx;clear l0 aB aC bH lY xw xA zu zw zy zA l2 aR aS aT aU bC bD bA bB c44 JA hlk;obtain⟨l3,bP,bQ⟩:=At.two A2;obtain⟨l4,fF,fG⟩:=At.two A1;have iQ:=A1.thaw 0;have iR:=A1.thaw 1;have lw:w.heap.size+1<w.heap.size+1+1:=by omega
 go_wp2;generalize hW:World.setCell _ _ _=W6;replace A1:At W6 (w.heap.size+1) (.cells #[.int .i64 (-1),.int .i64 (-1)] 71):=hW▸At.set (At.set A1 0 _) 1 _;have EU:Below w.heap.size w W6:=by
  rw[<-hW];exact Below.setCell (Below.setCell hBx (Nat.le_succ _) _) (Nat.le_succ _) _
 exact Z2u):P:=h
theorem Z10(h:P:=by
 refine tk1 10 ?_;have lp:=Ap.lt;have zp0:=Ap.thaw 0;have zp1:=Ap.thaw 1;obtain⟨_,MV,MW⟩:=At.two Ap;refine ak.Step.skip dV ?_;generalize hW:World.setCell _ _ _=x1;have Ap2:At x1 Tp (.cells #[.int .i64 e0,.int .i64 e1] 71):=hW▸At.set (At.set Ap 0 _) 1 _;have hx1:Below w1.heap.size w1 x1:=by rw[<-hW];exact Below.setCell (Below.setCell hx gp _) gp _
 refine⟨λ_=>hx1,?_⟩
 (try simp only[bL,bM,bN,tks])
 refine ko ?_
 exact⟨rfl,Tp,_,_,_,_,_,_,_,_,_,rfl,gp,Ap2,hx1⟩):P:=h
theorem Z11(h:P:=by
 obtain⟨it,ld,b,m0,m1,m2,m3⟩:=x;have hlt:B<w.heap.size:=World.block_lt_of_cell? _ _ h;go_enter Tryz.func137,Tryz.ntmps137
 go_upto_region 1 with(fail)
 have hB:Below w.heap.size w (w.alloc (.cells (nS ⟨it,ld,b,m0,m1,m2,m3⟩) 168)):=Below.alloc' (Below.refl _ _) _;generalize hW:World.alloc _ _=W0;have A0:At W0 w.heap.size (.cells (nS ⟨it,ld,b,m0,m1,m2,m3⟩) 168):=hW▸At.new _ _;replace hB:Below w.heap.size w W0:=hW▸hB;have lB:B<W0.heap.size:=aV hlt hB.size;have cB:=(Below.cell_ hB hlt 0).trans h;clear hW h hlt;obtain⟨l0,-, -, -, -, -, -, -, -, d0,d1,-, -, -, c1,c2,c3,c4⟩:=At.im A0;simp only at d0 d1 c1 c2 c3 c4
 exact Z1k):P:=h
theorem Z12(h:P:=by
 refine aM 19 ?_;refine tk1 17 ?_;refine ak.Step.value (dK (λi=>sW.getD i 0) (n:=m) (.tmp 49) (.tmp 49) rfl rfl rfl aj) ?_;obtain⟨ET,bF,Au,hb⟩:∃w9,w9=o9.alloc (.cells (aO (λi=>sW.getD i 0) m 0) 3)/\At w9 o9.heap.size (.cells (aO (λi=>sW.getD i 0) m 0) 3)/\Below o9.heap.size o9 w9:=⟨_,rfl,At.new _ _,Below.alloc' (Below.refl _ _) _⟩;rw[<-bF];clear bF;have gu:=hx.size;obtain⟨Tu,M4⟩:∃q,o9.heap.size=q:=⟨_,rfl⟩;rw[M4]at Au gu;rw[M4];have nsu:Ts<Tu:=by have:=As.lt;omega
 replace As:=As.keep hb;have nuv:Tv<Tu:=by have:=Av.lt;omega
 replace Av:=Av.keep hb;clear M4;replace hx:=Below.ay hx (aG _) hb;clear hb;refine⟨λ_=>hx,?_⟩
 (try simp only[bL,bM,bN,tks])
 exact Z24):P:=h
theorem Z13(h:P:=by
 refine tk1 11 ?_;refine ak.Step.value (dK (λi=>uq.getD i 0) (n:=m) (.tmp 43) (.tmp 43) rfl rfl rfl aj) ?_;obtain⟨ET,bF,Av,hb⟩:∃w9,w9=o9.alloc (.cells (aO (λi=>uq.getD i 0) m 0) 3)/\At w9 o9.heap.size (.cells (aO (λi=>uq.getD i 0) m 0) 3)/\Below o9.heap.size o9 w9:=⟨_,rfl,At.new _ _,Below.alloc' (Below.refl _ _) _⟩;rw[<-bF];clear bF;have gv:=hx.size;obtain⟨Tv,M5⟩:∃q,o9.heap.size=q:=⟨_,rfl⟩;rw[M5]at Av gv;rw[M5];have nsv:Ts<Tv:=by have:=As.lt;omega
 replace As:=As.keep hb;have nuv:Tu<Tv:=by have:=Au.lt;omega
 replace Au:=Au.keep hb;clear M5;replace hx:=Below.ay hx (aG _) hb;clear hb;refine⟨λ_=>hx,?_⟩
 (try simp only[bL,bM,bN,tks])
 refine aM 19 ?_
 exact Z24):P:=h
theorem Z14(h:P:=by
 refine xW ?_
 (repeat (first|refine nW ?_ | refine nX ?_ (hc:=by intro w2 hS;first|with_reducible exact nR hS (dX _ _ _))|refine nY ?_))
 refine ak.cK ?_;intro w2 hS;go_wp2
 go_ret
 exact⟨bO (by rw[<-E.out];(try simp only[uR,rH]);(try rfl)),Below.ay hB (aG _) hS⟩):P:=h
theorem Z15(h:P:=by
 have hO:Out (YG mine bs bw) w w:=Out.refl _ _;go_enter Tryz.func115,Tryz.ntmps115
 go_wp2;refine wp_loop_rounds 5 ?_;rw[rounds_succ]
 go_wp2_with (go_at_call 114;(with_reducible refine(rM hA h hp aH rfl rfl).mono ?_);rintro e w1 ⟨rfl,h1,iA⟩;replace hO:=hO.trans iA;clear h iA)
 rw[rounds_succ]
 go_wp2_with (go_at_call 114;(with_reducible refine(rM hA h1 hp aH rfl rfl).mono ?_);rintro e w2 ⟨rfl,h2,iA⟩;replace hO:=hO.trans iA;clear h1 iA)
 rw[rounds_succ]
 go_wp2_with (go_at_call 114;(with_reducible refine(rM hA h2 hp aH rfl rfl).mono ?_);rintro e w3 ⟨rfl,h3,iA⟩;replace hO:=hO.trans iA;clear h2 iA)
 rw[rounds_succ]
 go_wp2_with (go_at_call 114;(with_reducible refine(rM hA h3 hp aH rfl rfl).mono ?_);rintro e w4 ⟨rfl,h4,iA⟩;replace hO:=hO.trans iA;clear h3 iA)
 rw[rounds_succ];go_wp2
 go_end0
 exact⟨rfl,h4,hO⟩):P:=h
theorem Z16(h:P:=by
 (try simp only[bL,bM,bN,tks])
 refine tk1 3 ?_;refine ak.Step.call dV (CK A (Fe.ws gr S n) _ c (Fe.free gr room S n) _ (Yd.after hx) hL aj) ?_;rintro e w4 ⟨⟨b,rfl,hbb,Uc⟩,hb⟩;have hx3:=hx.size;replace hx:=Below.ay hx (aG _) hb;replace qF:=qF.keep hb;have hc9:w4.cell? ⟨B5,0,none⟩=some (.slice none 0 0):=qF.cell 0;have hz9:=qF.thaw 0;have hl9:=qF.lt;have hx4:=hx.size;clear hb;refine⟨_,rfl,λ_=>⟨(hV.keep hx).cell 0,(hB1.keep hx).cell 0⟩,?_⟩
 (try simp only[bL,bM,bN,tks])
 refine tk1 5 ?_;refine ak.Step.skip Z4k ?_;refine⟨by first|(intro hlt;exact absurd hlt aH)|(intro _;omega),?_⟩;(try simp only[Act.put]);refine ko ?_
 exact⟨rfl,b,B5,rfl,by omega,by omega,qF.set 0 _,Uc.off aj _,Below.setCell hx aj _⟩):P:=h
theorem Z17(h:P:=by
 have hO:Out (YG mine bs bw) w w:=Out.refl _ _;go_enter Tryz.func116,Tryz.ntmps116
 go_wp2;refine wp_loop_rounds 5 ?_;rw[rounds_succ]
 go_wp2_with (go_at_call 117;(with_reducible refine(yg hA h hp aH rfl).mono ?_);rintro e w1 ⟨rfl,h1,iA⟩;replace hO:=hO.trans iA;clear h iA)
 rw[rounds_succ]
 go_wp2_with (go_at_call 117;(with_reducible refine(yg hA h1 hp aH rfl).mono ?_);rintro e w2 ⟨rfl,h2,iA⟩;replace hO:=hO.trans iA;clear h1 iA)
 rw[rounds_succ]
 go_wp2_with (go_at_call 117;(with_reducible refine(yg hA h2 hp aH rfl).mono ?_);rintro e w3 ⟨rfl,h3,iA⟩;replace hO:=hO.trans iA;clear h2 iA)
 rw[rounds_succ]
 go_wp2_with (go_at_call 117;(with_reducible refine(yg hA h3 hp aH rfl).mono ?_);rintro e w4 ⟨rfl,h4,iA⟩;replace hO:=hO.trans iA;clear h3 iA)
 rw[rounds_succ];go_wp2
 go_end0
 exact⟨rfl,h4,hO⟩):P:=h
theorem Z18(h:P:=by
 go_wp2_with (first|(go_at_call 85;with_reducible refine wR (zB _ _ _ _) ?_))
 go_meet
 case rel=>exact⟨by rw[HK.out],rfl⟩):P:=h
theorem Z19(h:P:=by
 clear gY hg1 hg0;refine xW ?_
 (repeat (first|refine nW ?_ | refine nX ?_ (hc:=by intro w2 hS;first|with_reducible exact nR hS (jq _ _ _ _ _ _ _ _))|refine nY ?_))
 refine ak.cK ?_;intro w2 hS;replace A0:=A0.keep hS;replace A2:=A2.keep hS;replace hB:=Below.ay hB (aG _) hS;clear l0 aB aC l2 aR aS aT aU bC bD bA bB hS hfx;obtain⟨l0,aB,aC⟩:=A0.two
 go_upto_region 5 with(fail)
 refine xW ?_
 (repeat (first|refine nW ?_ | refine nX ?_ (hc:=by intro w2 hS;first|with_reducible exact nR hS (gy _ _ _ _ _ _ _ _ Z4z)|with_reducible exact nR hS (dX _ _ _))|refine nY ?_))
 refine ak.cK ?_;intro w2 hS;go_wp2
 go_ret
 exact⟨bO (by rw[<-E.out];(try simp only[uR,rH]);rfl),Below.ay hB (aG _) hS⟩):P:=h
theorem Z1a(h:P:=by
 (try simp only[bL,bM,bN,tks])
 refine tk1 7 ?_;refine ak.Step.value (u:=.pointer (some ⟨eG.heap.size,0,none⟩)) (w':=eG.alloc (.cells #[.int .i64 0,.int .i64 0,.int .i64 0,.int .i64 0] 115)) dV ?_;obtain⟨uP,bF,Aq,hb⟩:∃w9,w9=eG.alloc (.cells #[.int .i64 0,.int .i64 0,.int .i64 0,.int .i64 0] 115)/\At w9 eG.heap.size (.cells #[.int .i64 0,.int .i64 0,.int .i64 0,.int .i64 0] 115)/\Below eG.heap.size eG w9:=⟨_,rfl,At.new _ _,Below.alloc' (Below.refl _ _) _⟩;rw[<-bF];clear bF;have gq:=hx.size;obtain⟨Tq,oL⟩:∃q,eG.heap.size=q:=⟨_,rfl⟩;rw[oL]at Aq gq;rw[oL];have kq:eG.heap.size<=Tq:=Nat.le_of_eq oL;clear oL;have QN:Tp≠Tq:=by have:=Ap.lt;omega
 replace Ap:=Ap.keep hb;replace hx:=Below.ay hx (aG _) hb;clear hb;refine⟨λ_=>hx,?_⟩
 exact Z1):P:=h
theorem Z1b(h:P:=by
 (try simp only[bL,bM,bN,tks])
 refine tk1 6 ?_;refine ak.Step.value (u:=.pointer (some ⟨eG.heap.size,0,none⟩)) (w':=eG.alloc (.cells #[.int .i64 0,.int .i64 0,.int .i64 0,.int .i64 0] 115)) dV ?_;obtain⟨uP,bF,Ap,hb⟩:∃w9,w9=eG.alloc (.cells #[.int .i64 0,.int .i64 0,.int .i64 0,.int .i64 0] 115)/\At w9 eG.heap.size (.cells #[.int .i64 0,.int .i64 0,.int .i64 0,.int .i64 0] 115)/\Below eG.heap.size eG w9:=⟨_,rfl,At.new _ _,Below.alloc' (Below.refl _ _) _⟩;rw[<-bF];clear bF;have gp:=hx.size;obtain⟨Tp,mo⟩:∃q,eG.heap.size=q:=⟨_,rfl⟩;rw[mo]at Ap gp;rw[mo];have kp:eG.heap.size<=Tp:=Nat.le_of_eq mo;clear mo;have QN:Tq≠Tp:=by have:=Aq.lt;omega
 replace Aq:=Aq.keep hb;replace hx:=Below.ay hx (aG _) hb;clear hb;refine⟨λ_=>hx,?_⟩
 exact Z1):P:=h
theorem Z1c(h:P:=by
 clear hfx;refine lF (S:=λX=>Below W5.heap.size W5 X) 15 ?_ ?_
 . exact hSd
 intro hx;clear hSd;refine aM 0 ?_;refine aM 1 ?_;refine aM 2 ?_;refine aM 3 ?_;refine aM 4 ?_;refine aM 5 ?_;refine aM 6 ?_;refine aM 7 ?_;refine rO 8 rfl (p8 (.tmp 38) aX rfl rfl (λX h=>Bu.out.keep h)) ?_;refine aM 9 ?_;refine aM 10 ?_;refine aM 11 ?_;refine tk1 12 ?_;refine ak.Step.call Z4p (jq _ _ _ _ _ _ _ _) ?_;rintro e' w6 ⟨rfl,hb⟩;rw[Tk.out];replace hx:=Below.ay hx (aG _) hb;clear hb;refine⟨_,rfl,λ_=>hx,?_⟩
 (try simp only[bL,bM,bN,tks])
 refine aM 13 ?_;refine aM 14 ?_;refine ko ?_
 exact⟨rfl,_,_,_,_,_,_,_,_,_,_,_,_,_,_,_,rfl,HBB,hx⟩):P:=h
theorem Z1d(h:P:=by
 generalize hW:World.setCell _ _ _=W5;have A5:At W5 b (.cells (aO v m (k+1)) 3):=by rw[<-hW,<-ku _ hlt];exact A4.set k _
 have p9:Below w.heap.size w W5:=hW▸Below.setCell (Below.ay hB3 (aG _) hb4) (Nat.le_of_eq hsz) _;clear hW A4 A3 A2 hb4 lb4 zb4 cb4;go_wp2
 go_roundw
 case rel=>exact⟨k+1,by omega,by go_num,A5,p9⟩
 case measure=>simp[intOf];omega):P:=h
theorem Z1e(h:P:=by
 rintro e w' ⟨rfl,h1,hO⟩;rw[sZ,uS f t hb,<-Re.JI hb,<-yh]at h1
 exact⟨rfl,h1,hO⟩):P:=h
theorem Z1f(h:P:=by
 (try simp only[bL,bM,bN,tks])
 refine tk1 16 ?_;refine ak.Step.value (eU rfl) ?_;obtain⟨x14,bF,Aq,hb⟩:∃w9,w9=ET.alloc (.cells (cells Re.zero) 46)/\At w9 ET.heap.size (.cells (cells Re.zero) 46)/\Below ET.heap.size ET w9:=⟨_,rfl,At.new _ _,Below.alloc' (Below.refl _ _) _⟩;rw[<-bF];clear bF;have gq:=hx.size;obtain⟨Tq,oL⟩:∃q,ET.heap.size=q:=⟨_,rfl⟩;have nq:¬ P2 Tq:=λh=>by have:=oZ.lt _ h;omega
 rw[oL]at Aq gq;rw[oL];have QN:Tp<Tq:=by have:=Ap.lt;omega
 clear oL;replace Ap:=Ap.keep hb
 exact Z3s):P:=h
theorem Z1g(h:P:=by
 refine tk1 19 ?_;have lT:=AT.lt;have cT0:=AT.cell 0;have cT1:=AT.cell 1;simp only[List.getElem?_toArray,List.getElem?_cons_zero,List.getElem?_cons_succ]at cT0 cT1;have zT0:=AT.thaw 0;have zT1:=AT.thaw 1;refine ak.Step.skip dV ?_;generalize hW:World.setCell _ _ _=cZ;have AT2:At cZ T (.cells #[.int .i64 x.ld.s0,.int .i64 hh] 71):=hW▸(AT.set 0 _).set 1 _;have hx2:Below w7.heap.size w7 cZ:=hW▸Below.setCell (Below.setCell hx gT _) gT _;refine⟨λ_=>hx2,?_⟩
 (try simp only[bL,bM,bN,tks])
 refine ko ?_
 exact⟨rfl,T,_,_,_,_,_,_,_,_,_,_,_,_,_,_,_,_,_,_,rfl,gT,AT2,hx2⟩):P:=h
theorem Z1h(h:P:=by
 (try simp only[bL,bM,bN,tks])
 refine tk1 8 ?_;have lT:=AT.lt;have cT0:=AT.cell 0;have cT1:=AT.cell 1;simp only[List.getElem?_toArray,List.getElem?_cons_zero,List.getElem?_cons_succ]at cT0 cT1;have zT0:=AT.thaw 0;have zT1:=AT.thaw 1;refine ak.Step.skip dV ?_;generalize hW:World.setCell _ _ _=cZ;have AT2:At cZ U (.cells #[.int .i64 cs0,.int .i64 (-1)] 71):=hW▸(AT.set 0 _).set 1 _;have hx2:Below wr.heap.size wr cZ:=hW▸Below.setCell (Below.setCell hx gT _) gT _;refine⟨λ_=>hx2,?_⟩
 (try simp only[bL,bM,bN,tks])
 refine ko ?_
 exact⟨rfl,U,_,_,_,_,_,_,_,rfl,gT,AT2,hx2⟩):P:=h
theorem Z1i(h:P:=by
 rw[hf]at d7;generalize Fe.left room S k=u at *;generalize (S k).x.b=v0 at *;generalize (S k).x.lo=v1 at *;generalize (S k).x.hi=v2 at *;generalize (S k).x.g=v3 at *;generalize (S k).x.s=v4 at *;generalize (S k).z=v5 at *;generalize (S k).m=v6 at *;go_wp2
 go_roundw
 case rel=>exact⟨k+1,by omega,by go_num,by rw[HL.out],by(repeat (first|exact Below.refl _ _ | assumption|refine Below.drew ?_ | refine Below.drewN ?_ _ | refine Below.alloc' ?_ _ | refine Below.setCell ?_ Z4x _ | refine Below.ay ?_ (aG _) (by assumption)))⟩
 case measure=>simp[intOf];omega):P:=h
theorem Z1j(h:P:=by
 go_wp2;rw[rounds_succ];go_wp2;refine bodyPost_end (results_none rfl _ _ _) rfl ⟨rfl,?_,Out.trans' (Out.of_below hW1) hQ λb _ q=>q⟩;rw[show x0=Fw.wG s 0 r0 a0 from by rw[<-HX0.out];exact if_pos HP.out,show x1=Fw.wG s 1 r1 a1 from by rw[<-QO.out];exact if_pos HP.out,TR.out]
 exact AR):P:=h
theorem Z1k(h:P:=by
 refine xW ?_
 (repeat (first|refine nW ?_ | refine nX ?_ (hc:=by intro w2 hS;first|with_reducible exact nR hS (dX _ _ _))|refine nY ?_))
 exact Z3y):P:=h
theorem Z1l(h:P:=by
 have Ho:=ah hop;clear hop
 go_wp2_with ((go_at_call 91;(with_reducible refine(CO bz s (.slice A fl.length cp) va ib _ A2).mono ?_);rintro e w3 ⟨rfl,hb⟩;replace AM:=AM.keep hb;replace hB:=Below.ay hB (aG _) hb;replace A2:=At.keep A2 hb;replace qD:=((kY hb).1 _ _ l2).trans qD;replace l2:=aV l2 hb.size;clear hb;rw[Ho.out]))
 refine bodyPost_ret (results_tmp rfl _ _ _) rfl ⟨⟨_,rfl,?_⟩,hB⟩;have hm:Fw.meet B 1 0 z=[Fw.mg s 1 1 (-1)]:=by
  simp only[Fw.meet,hs]
 rw[hm]
 exact qJ AM hgm):P:=h
theorem Z1m(h:P:=by
 have Ho:=ah hop;clear hop
 go_wp2_with ((go_at_call 91;(with_reducible refine(CP bz s (.slice A fl.length cp) va ib _ A2).mono ?_);rintro e w3 ⟨rfl,hb⟩;replace AM:=AM.keep hb;replace hB:=Below.ay hB (aG _) hb;replace A2:=At.keep A2 hb;replace qD:=((kY hb).1 _ _ l2).trans qD;replace l2:=aV l2 hb.size;clear hb;rw[Ho.out]))
 refine bodyPost_ret (results_tmp rfl _ _ _) rfl ⟨⟨_,rfl,?_⟩,hB⟩;have hm:Fw.meet B 0 0 z=[Fw.mg s 1 0 (-1)]:=by
  simp only[Fw.meet,hs]
 rw[hm]
 exact qJ AM hgm):P:=h
theorem Z1n(h:P:=by
 intro l i W G hi hG
 (simp only[List.setIfInBounds_toArray,List.set_cons_zero,List.set_cons_succ]at hG)
 gi_wp2
 first|exact hG|simpa using hG):P:=h
theorem Z1o(h:P:=by
 clear e1;go_wp2
 go_meet
 case rel=>exact⟨by rw[E1.out],Below.refl _ _⟩):P:=h
theorem Z1p(h:P:=by
 refine bodyPost_end (results_none rfl _ _ _) rfl ⟨rfl,⟨?_,?_,?_⟩,?_⟩
 . rw[yh,HX.out]
   exact hA.set _ _ _ _ _ h2.i hp.nb
 . have:=a2.set k (.bool (f k (Re.num t k)==1))
   rw[Hq f t HB.out,<-HY.out]at this;exact this
 . rw[<-HY.out]
   exact h2.w.off (Ne.symm hp.ne) _ _
 . refine Out.set ?_ (.inr (.inl rfl)) _ _
   exact Out.trans' (Out.of_below (Below.alloc' (Below.refl _ _) _)) hO2 λb hb q=>q.elim .inl λq=>q.elim (λq=>absurd q (dB hb)) λq => .inr (.inr q)):P:=h
theorem Z1q(h:P:=by
 go_enter Tryz.func40,Tryz.ntmps40
 go_wp2_with (go_at_call 43;first|((with_reducible refine key.mono ?_);rintro e w' ⟨rfl,rfl⟩)|((with_reducible refine uT.mono ?_);rintro e w' ⟨rfl,rfl⟩))
 go_ret
 exact⟨rfl,_,HD.out,DG.refl _ _ _ _ _⟩):P:=h
theorem Z1r(h:P:=by
 go_enter Tryz.func39,Tryz.ntmps39
 go_wp2_with (go_at_call 12;first|((with_reducible refine key.mono ?_);rintro e w' ⟨rfl,rfl⟩)|((with_reducible refine uT.mono ?_);rintro e w' ⟨rfl,rfl⟩))
 go_ret
 exact⟨rfl,L,HR.out,Grow.refl _ _ _ _⟩):P:=h
theorem Z1s(h:P:=by
 replace oZ:=oZ.after hb;replace hx:=Out.trans' hx (Out.of_below (M:=λ_=>False) hb) λ_ _ q=>q.elim;clear hb;refine⟨λ_=>hx,?_⟩
 (try simp only[bL,bM,bN,tks])
 refine tk1 4 ?_;refine ak.Step.call dV (iT _) ?_;rintro e ET ⟨rfl,hb⟩;replace Ap:=Ap.keep hb;replace Aq:=Aq.keep hb;replace oZ:=oZ.after hb;replace hx:=Out.trans' hx (Out.of_below (M:=λ_=>False) hb) λ_ _ q=>q.elim;clear hb;refine⟨_,rfl,λ_=>hx,?_⟩
 exact Ze):P:=h
theorem Z1t(h:P:=by
 obtain rfl:k=m:=by omega
 have hI:=hF.items A1;have key:=M6 (some ⟨b,0,none⟩) it k k (qb r ex k) wr hI hl;obtain⟨lf,hlf⟩:∃lf,qb r ex k=lf:=⟨_,rfl⟩;rw[hlf]at key ⊢;have HLF:=ah hlf;clear hI hF hcs A1 hlf
 go_wp2_with (go_at_call 157;(with_reducible refine key.mono ?_);rintro e w5 ⟨⟨b5,rfl,agY,hI5⟩,hb5⟩)
 go_ret
 exact⟨⟨b5,rfl,aJ hB.size agY,HLF.out.symm▸hI5⟩,hB.trans (hb5.mono hB.size)⟩):P:=h
theorem Ye(h:P:=by
 show Ab (Fw.wr _) _;unfold Ab at *;rw[cO aj]
 omega):P:=h
theorem Z1v(h:P:=by
 go_enter Tryz.func76,Tryz.ntmps76
 go_wp2_with (first|(go_at_call 46;with_reducible refine wR (fI _ _) ?_)|(go_at_call 106;(with_reducible refine(rJ _ _ _ _).mono ?_);rintro e w' ⟨rfl,hb⟩;(try replace hb:=Below.after (by assumption) hb);obtain⟨hc,hf⟩:=kY hb;have hz:=hb.size;(try simp at hz))|(go_at_call 107;with_reducible refine wR (Ud _ _ _) ?_))
 all_goals go_ret
 all_goals
  refine⟨bO Hr.out.symm,?_⟩
  exact Z5):P:=h
theorem Z1w(h:P:=by
 unfold execOp
 simp only[ho,resolve,invoke,builtin,Sem.run_bind,Sem.run_pure,Result.andThen_ok,List.map_toArray,List.map_cons,List.map_nil,hs,hx,hrun]):P:=h
theorem EL(h:P:=by
 go_ret
 exact⟨rfl,rfl⟩):P:=h
theorem Z1y(h:P:=by
 replace hx:=Below.ay hx (aG _) hb;clear hb;refine⟨λ_=>hx,?_⟩
 (try simp only[bL,bM,bN,tks])
 refine tk1 2 ?_;refine ak.Step.call YE (iO _ _ _ _ _) ?_;rintro e eG ⟨rfl,hb⟩;replace Ap:=Ap.keep hb;replace Aq:=Aq.keep hb;replace hx:=Below.ay hx (aG _) hb;clear hb;refine⟨_,rfl,λ_=>hx,?_⟩
 exact Zy):P:=h
theorem Z1z(h:P:=by
 go_enter Tryz.func103,Tryz.ntmps103
 go_wp2_with (first|(go_at_call 124;with_reducible refine wR (vW _ _ _) ?_)|(go_at_call 140;with_reducible refine wR (Pw _ _ _) ?_))
 go_ret
 exact⟨bO Hr.out.symm,rfl⟩):P:=h
theorem Z20(h:P:=by exact hy.of_same (execOp_put oi (λcs b=>hsel i oi cs b hi) a oj.dst u a3) (wanted_put oi a oj.dst u a3)):P:=h
theorem Z21(h:P:=by
 go_enter Tryz.func39,Tryz.ntmps39
 go_wp2_with (first|(go_at_call 12;first|((with_reducible refine key.mono ?_);rintro e w' ⟨rfl,rfl⟩)|((with_reducible refine uT.mono ?_);rintro e w' ⟨rfl,rfl⟩))|(go_at_call 60;(with_reducible refine xB.mono ?_);rintro e w1 ⟨rfl,hb1⟩))
 exact Z3h):P:=h
theorem Z22(h:P:=by
 have h1:=om (cs:=cs') (vs:=eH ly) (q:=q+k*17+5) (j:=0) Z54 (by rw[dG];omega);rw[Nat.add_zero]at h1;rw[pz.cell,h1,<-JJ]
 rfl):P:=h
theorem Z23(h:P:=by
 go_enter Tryz.func15,Tryz.ntmps15
 go_wp2_with (go_at_call 12;(with_reducible refine key.mono ?_);rintro e w' ⟨rfl,rfl⟩)
 go_ret2
 exact⟨rfl,L,n,HR.out,by omega,Grow.refl _ _ _ _⟩):P:=h
theorem Z24(h:P:=by
 refine aM 20 ?_;refine ko ?_
 exact⟨rfl,Ts,Tv,Tu,_,_,_,_,_,_,_,_,_,_,_,_,_,_,_,_,_,_,rfl,⟨gs,gv,gu⟩,⟨by omega,by omega,by omega⟩,As,Av,Au,hx⟩):P:=h
theorem Z25(h:P:=by
 have hs:(T (k':Int)).isSome=true:=by
  cases e:T (k':Int)with
  | none=>exact absurd e (HK.out.2.2 _ aj aj)
  | some _=>rfl
 rw[hs]at Bt
 go_wp2_with (go_at_call 43;(with_reducible refine Bt.mono ?_);rintro e w' ⟨rfl,rfl⟩)
 go_roundw
 case rel=>exact⟨k'+1,by omega,by go_num,trivial⟩
 case measure=>simp[intOf];omega):P:=h
theorem Z26(h:P:=by
 simp only[List.setIfInBounds_toArray,List.set_cons_zero,List.set_cons_succ]at hG
 gi_wp2
 first|exact hG|simpa using hG):P:=h
theorem Z27(h:P:=by
 intro q hq;by_cases hqi:q=i
 . subst hqi
   have hun:=(mem_ready.1 (show q∈Region.ready md ops listed by simpa using hr)).1;have hlt:q<listed.size:=by
    rcases Nat.lt_or_ge q listed.size with h'|h'
    . exact h'
    . simp[Array.getElem?_eq_none h']at hun
   simp[hlt]
 . rw[getD_set_ne true (Ne.symm hqi)];exact hl q aj):P:=h
theorem Z28(h:P:=by
 go_enter Tryz.func42,Tryz.ntmps42
 go_wp2_with (go_at_call 43;(with_reducible refine key.mono ?_);rintro e w' ⟨rfl,rfl⟩)
 go_ret2
 exact⟨rfl,HD.out,DG.refl _ _ _ _ _⟩):P:=h
theorem Z29(h:P:=by
 have hm:=Int.mul_le_mul_of_nonneg_left (show(at_:Int)<=32 by omega) (show 0<=M+7340032 by omega);refine⟨λx hx=>by simp[Fw.aY]at hx,by simp[Fw.aY],by simp only[Fw.aY];omega,λ_ _ => ?_⟩;have:=Ht (l:=fl.drop at_) λk hk=>hC k (List.mem_of_mem_drop hk);simp only[Fw.aY]
 omega):P:=h
theorem Z2a(h:P:=by
 go_wp2_with (first|(go_at_call 85;with_reducible refine wR (zB _ _ _ _) ?_))
 go_ret
 exact⟨fT (by rw[HV.out];rfl),by rw[YH.out];exact HE.out⟩):P:=h
theorem Z2b(h:P:=by
 by_cases e:y=kl
 . subst e
   rw[mY];exact⟨λz=>by rw[Maps.atKey_put_same h1.isMap (K.key hkey)];rfl,by rw[Maps.has_put_same h1.isMap (K.key hkey)];rfl⟩
 . rw[oM e]
   exact⟨λz=>by rw[Maps.atKey_put_other e];exact(h3 y hy).1 z,by rw[Maps.has_put_other e];exact(h3 y hy).2⟩):P:=h
theorem Z2c(h:P:=by
 have e:((l.take k).mapIdx g).length=k:=by simp;omega
 have e2:(l.take k).length=k:=by simp;omega
 rw[List.set_append,if_neg aj,e,Nat.sub_self,List.drop_eq_getElem_cons hk,List.set_cons_zero,List.take_succ_eq_append_getElem hk,List.mapIdx_concat,e2,List.append_assoc]
 rfl):P:=h
theorem Z2d(h:P:=by
 (try simp only[bL,bM,bN,tks])
 refine tk1 7 ?_;refine ak.Step.call dV (YI _ hx) ?_;rintro e eG ⟨rfl,hb⟩;replace Ap:=Ap.keep hb;replace hx:=Below.ay hx (aG _) hb;clear hb;refine⟨_,rfl,λ_=>hx,?_⟩
 (try simp only[bL,bM,bN,tks])
 refine aM 8 ?_
 exact Z10):P:=h
theorem Z2e(h:P:=by
 go_enter Tryz.func122,Tryz.ntmps122
 go_wp2_with (first|(go_at_call 152;refine(FV hA h hp hx HO.out HY.out).mono ?_;rintro e w1 ⟨rfl,h1',hO⟩;have Bp:=(h1'.a.cell o).trans CQ.out)|(go_at_call 143;refine(fD h1'.w).mono ?_;rintro e w2 ⟨rfl,rfl⟩))
 exact Zf):P:=h
theorem Z2f(h:P:=by
 go_enter Tryz.func121,Tryz.ntmps121
 go_wp2_with (first|(go_at_call 151;refine(FW hA h hp hx HO.out HY.out).mono ?_;rintro e w1 ⟨rfl,h1',hO⟩;have Bp:=(h1'.a.cell o).trans CQ.out)|(go_at_call 143;refine(fD h1'.w).mono ?_;rintro e w2 ⟨rfl,rfl⟩))
 exact Zf):P:=h
theorem Z2g(h:P:=by
 go_enter Tryz.func119,Tryz.ntmps119
 go_wp2_with (first|(go_at_call 150;refine(FX hA h hp hx HO.out HY.out).mono ?_;rintro e w1 ⟨rfl,h1',hO⟩;have Bp:=(h1'.a.cell o).trans CQ.out)|(go_at_call 143;refine(fD h1'.w).mono ?_;rintro e w2 ⟨rfl,rfl⟩))
 exact Zf):P:=h
theorem Z2h(h:P:=by
 go_enter Tryz.func118,Tryz.ntmps118
 go_wp2_with (first|(go_at_call 149;refine(FY hA h hp hx HO.out HY.out).mono ?_;rintro e w1 ⟨rfl,h1',hO⟩;have Bp:=(h1'.a.cell o).trans CQ.out)|(go_at_call 143;refine(fD h1'.w).mono ?_;rintro e w2 ⟨rfl,rfl⟩))
 exact Zf):P:=h
theorem Z2i(h:P:=by
 go_enter Tryz.func117,Tryz.ntmps117
 go_wp2_with (first|(go_at_call 147;refine(zC hA h hp hx HO.out HY.out).mono ?_;rintro e w1 ⟨rfl,h1',hO⟩;have Bp:=(h1'.a.cell o).trans CQ.out)|(go_at_call 143;refine(fD h1'.w).mono ?_;rintro e w2 ⟨rfl,rfl⟩))
 exact Zf):P:=h
theorem Z2j(h:P:=by
 go_enter Tryz.func113,Tryz.ntmps113
 go_wp2_with (first|(go_at_call 145;refine(FZ hA h hp hx HO.out HY.out).mono ?_;rintro e w1 ⟨rfl,h1',hO⟩;have Bp:=(h1'.a.cell o).trans CQ.out)|(go_at_call 143;refine(fD h1'.w).mono ?_;rintro e w2 ⟨rfl,rfl⟩))
 exact Zf):P:=h
theorem Z2k(h:P:=by
 go_enter Tryz.func112,Tryz.ntmps112
 go_wp2_with (first|(go_at_call 144;refine(F3 hA h hp hx HO.out HY.out).mono ?_;rintro e w1 ⟨rfl,h1',hO⟩;have Bp:=(h1'.a.cell o).trans CQ.out)|(go_at_call 143;refine(fD h1'.w).mono ?_;rintro e w2 ⟨rfl,rfl⟩))
 exact Zf):P:=h
theorem Z2l(h:P:=by
 go_enter Tryz.func111,Tryz.ntmps111
 go_wp2_with (first|(go_at_call 142;refine(F4 hA h hp hx HO.out HY.out).mono ?_;rintro e w1 ⟨rfl,h1',hO⟩;have Bp:=(h1'.a.cell o).trans CQ.out)|(go_at_call 143;refine(fD h1'.w).mono ?_;rintro e w2 ⟨rfl,rfl⟩))
 exact Zf):P:=h
theorem Z2m(h:P:=by
 show ks.length-(intOf (.int .i64 (wrap64 ((k:Int)+1)))).toNat<ks.length-(intOf (.int .i64 (k:Int))).toNat
 rw[hwk];exact ab3 Jz.out):P:=h
theorem Z2n(h:P:=by
 have:=(List.mem_filter.1 h).2;simp only[Bool.and_eq_true,bne_iff_ne,ne_eq]at this
 exact this.1):P:=h
theorem Z2o(h:P:=by
 go_wp2
 go_roundw
 case rel=>exact⟨k+1,by omega,by go_num,ah (HS.out.trans HV.out),trivial⟩
 case measure=>simp[intOf];omega):P:=h
theorem Z2p(h:P:=by
 have k:=ab4 hK z i0 i1 hz (by rw[F5.out];exact λk hk=>(HDN.out k hk).1) (by rw[F5.out,HM.out];omega) w3 EW;rw[F5.out,HM.out,<-HX0.out]at k
 exact k.mono λe w' ⟨⟨R,cs,h1,h2,h3,h4,h5⟩,h6⟩=>⟨⟨R,0,cs,h1,h2,h3,h4⟩,h6⟩):P:=h
theorem Z2q(h:P:=by
 go_wp2_with (go_at_call 95;(with_reducible refine key2.mono ?_);rintro e' w4 ⟨⟨b,rfl,gb,hT⟩,hb4⟩)
 go_ret
 exact⟨⟨b,rfl,aJ hsz gb,by rw[<-gY.out];exact gM _ _ JK hT⟩,HB1.out.trans (hb4.mono hsz)⟩):P:=h
theorem Z2r(h:P:=by rcases(by omega:j=0\/j=1\/j=2\/j=3\/j=4\/j=5\/j=6)with rfl|rfl|rfl|rfl|rfl|rfl|rfl<;>rfl):P:=h
theorem Z2s(h:P:=by
 rw[<-hW]
 exact Out.set (M:=λb=>b=w.heap.size+1) (Out.set (M:=λb=>b=w.heap.size+1) (Out.refl _ _) rfl 0 _) rfl 1 _):P:=h
theorem Z2t(h:P:=by
 have hlen:os.length=t:=by rw[<-hd,List.length_drop,hm];omega
 refine⟨λq hq=>hl q aj,λw hS => ?_⟩;have:=uU (P:=P) (Q:=Q) os i listed a w hd (by rw[hlen];simpa only[lG]using hk) (h w hS)
 rw[hlen]at this;exact this):P:=h
theorem Z2u(h:P:=by
 clear hW fF fG iQ iR;obtain⟨l4,fF,fG⟩:=At.two A1
 refine bodyPost_ret (v:=.agg #[.int .i64 _,.int .i64 _]) (by simp[results,Tryz.results98,go_sem, *];first|done|exact⟨rfl,rfl⟩|rfl) rfl ⟨by rw[<-E.out],EU⟩):P:=h
theorem Z2v(h:P:=by exact K1.out _ (Below.drew (Below.refl _ _))):P:=h
theorem Z2w(h:P:=by
 go_wp2_with (first|(go_at_call 31;with_reducible refine wR (JL (by first|assumption|exact HR.out)) ?_))
 exact EL):P:=h
theorem Z2x(h:P:=by
 go_wp2
 go_ret
 exact⟨fT (by rw[HV.out]),by rw[YH.out];exact HBW.out⟩):P:=h
theorem Z2y(h:P:=by
 rcases hb with e|e|⟨z,zd,hz,e⟩
 . exact .inl e
 . exact .inr (.inl e)
 . by_cases e2:z=i
   . subst e2;exact .inr (.inr ⟨_,nd,hn,e⟩)
   . rw[Tr.aK _ _ e2]at hz;exact .inr (.inr ⟨z,zd,hz,e⟩)):P:=h
theorem Z2z(h:P:=by
 rcases hb with e|e|⟨y,yd,hy,e⟩
 . exact .inl e
 . exact .inr (.inl e)
 . by_cases e2:y=z
   . subst e2;exact .inr (.inr ⟨y,nd,hz,e⟩)
   . rw[Tr.aK _ _ e2]at hy;exact .inr (.inr ⟨y,yd,hy,e⟩)):P:=h
theorem Z30(h:P:=by simp only[List.map_append,List.sum_append,List.map_cons,List.map_nil,List.sum_cons,List.sum_nil,Nat.add_zero]):P:=h
theorem Z31(h:P:=by
 have JM:∀(fn:Fn) (first cap:Array Value) (w:World),(Instr.makeFunc fn first cap).run Tryz.prog w=.ok (.func fn first cap) w:=λ_ _ _ _=>rfl;have e1:decide (0<left)=false:=by simp;omega
 exact Zk):P:=h
theorem Z32(h:P:=by
 try simp only[Exit.jump]
 refine bodyPost_ret (v:=.slice (some ⟨b,0,none⟩) n n) (by simp[results,Tryz.results157,go_sem, *];first|done|exact⟨rfl,rfl⟩|rfl) rfl ⟨⟨b,rfl,by omega,Uc⟩,hB⟩):P:=h
theorem Z33(h:P:=by
 exfalso;obtain⟨hun,oj,ho,_⟩:=mem_ready.1 hj;by_cases hjm:j<m
 . have:=H.1 j hjm
   rw[getD_set_ne true (Ne.symm hji),hun]at this;cases this
 . exact F6 ht hcl hr hj ho aj him (Ne.symm hji)):P:=h
theorem Z34(h:P:=by
 go_enter Tryz.func104,Tryz.ntmps104
 go_wp2
 go_ret
 refine⟨rfl,?_⟩
 exact Z5):P:=h
theorem Z35(h:P:=by
 cases Tn.out with
 | root h0=>rw[Px.out nd hT];exact .inr ⟨rfl,by rw[hk];congr 1;omega⟩
 | step h1 h0 h2 =>
   rw[hT]at h1;cases h1
   exact .inl ⟨nd.up,_,k+1,rfl,rfl,by omega,by omega,h2⟩):P:=h
theorem Z36(h:P:=by
 by_cases e:y=z
 . subst e;rw[Tr.aN]at hy;cases hy
   simp only[if_true];exact hb.out hbm hO
 . rw[Tr.aK _ _ e]at hy
   simp only[if_neg e]
   exact(h.box y yd hy).out (λq=>h.F7 hy q) hO):P:=h
theorem Z37(h:P:=by
 by_cases hv0:v.ownBlock=none
 . exact .inl hv0
 . refine .inr (.inr ?_)
   rcases hblk with h|h
   . rw[h]
     exact hvb.resolve_left hv0
   . rw[h]
     intro e;have:=(hv.lt _ e).2;simp at this
     omega):P:=h
theorem Z38(h:P:=by
 have h1:=iP (cs:=cs') (vs:=eH ly) (q:=q+k*17+5) (k:=q+k*17+12) Z54 (.inr (by rw[dG];omega));rw[pz.cell,h1,<-oo.cell]
 exact F8):P:=h
theorem Z39(h:P:=by
 unfold wpList;rw[if_pos hw];refine .inl ?_;unfold Oper.wp;rw[hrun]
 exact h):P:=h
theorem Z3a(h:P:=by rw[Array.setIfInBounds_comm _ _ hji,<-Act.put_comm a v u a2];exact hn):P:=h
theorem Z3b(h:P:=by rcases(by omega:j=0\/j=1\/j=2\/j=3\/j=4)with rfl|rfl|rfl|rfl|rfl<;>rfl):P:=h
theorem Z3c(h:P:=by
 go_enter Tryz.func37,Tryz.ntmps37
 go_wp2_with (go_at_call 12;(with_reducible refine key.mono ?_);rintro e w' ⟨rfl,rfl⟩)
 go_ret2
 exact⟨rfl,L,n,HR.out,aG _,Grow.refl _ _ _ _⟩):P:=h
theorem Z3d(h:P:=by
 go_wp2_with (go_at_call 12;(with_reducible refine key.mono ?_);rintro e w' ⟨rfl,rfl⟩)
 exact EL):P:=h
theorem Z3e(h:P:=by
 rw[Tr.aK _ _ e2]at hy;simp only[if_neg e2]at e
 exact .inl (.inr (.inr ⟨y,yd,hy,e⟩))):P:=h
theorem Z3f(h:P:=by
 have E:Hid (Fw.wr (q0+m0)=ans):=ah (by rw[<-gY.out,hg0];simp);clear gY hg0;go_wp2
 go_ret
 exact⟨bO (by rw[<-E.out];(try simp only[uR,rH]);(try rfl)),hB⟩):P:=h
theorem Z3g(h:P:=by
 by_cases e:y=z
 . subst e;rw[Tr.aN]at hy;cases hy
   exact(h.row y nd hz).out (h.M7 hz hz) hO
 . rw[Tr.aK _ _ e]at hy
   exact(h.row y yd hy).out (h.M7 hy hz) hO):P:=h
theorem Z3h(h:P:=by
 go_ret
 exact⟨rfl,L,⟨HR.out.rep.after hb1,HR.out.wf,HR.out.num⟩,Grow.of_below hb1⟩):P:=h
theorem Z3i(h:P:=by unfold F9;rw[Array.setIfInBounds_append_right Z55,bI];rfl):P:=h
theorem Z3j(h:P:=by
 go_enter Tryz.func38,Tryz.ntmps38
 go_wp2_with (go_at_call 43;(with_reducible refine key.mono ?_);rintro e w' ⟨rfl,rfl⟩)
 go_ret2
 exact⟨rfl,_,HD.out,DG.refl _ _ _ _ _⟩):P:=h
theorem Z3k(h:P:=by
 replace hx:=Below.ay hx (aG _) hb;clear hb;refine⟨λ_=>hx,?_⟩
 exact Z0):P:=h
theorem Z3l(h:P:=by
 obtain rfl:k=m:=by omega
 go_wp2
 go_ret
 exact⟨⟨b,rfl,Nat.le_of_eq hsz,A1⟩,hB⟩):P:=h
theorem Z3m(h:P:=by
 go_wp2
 go_ret
 exact⟨rfl,HB2⟩):P:=h
theorem Z3n(h:P:=by
 show Value.int .i64 (wrap64 ((k:Int)+1))=.int .i64 ((k+1:Nat):Int)
 rw[hwk];rfl):P:=h
theorem Z3o(h:P:=by
 go_enter Tryz.func57,Tryz.ntmps57
 go_wp2_with (at_builtin;refine wpList_append_run aX _ _ 30 rfl rfl rfl Hu.out ?_)
 go_ret
 exact⟨v',rfl,hQ.out,hO.out,HL.out⟩):P:=h
theorem Z3p(h:P:=by
 have k:=g.look_ok mU Tryz.underlying28 (z:=.agg #[.int .i64 0,.int .i64 0,.int .i64 0,.int .i64 0]) jD (mJ hx);rw[hG,h]at k
 exact k):P:=h
theorem Z3q(h:P:=by
 go_enter Tryz.func85,Tryz.ntmps85
 go_wp2
 go_ret
 exact⟨fT wH.out.symm,rfl⟩):P:=h
theorem Z3r(h:P:=by
 replace oZ:=oZ.after hb;replace hx:=Out.trans' hx (Out.of_below (M:=λ_=>False) hb) λ_ _ q=>q.elim;clear hb;refine⟨λ_=>hx,?_⟩
 exact Ze):P:=h
theorem Z3s(h:P:=by
 replace oZ:=oZ.after hb;replace hx:=Out.trans' hx (Out.of_below (M:=λ_=>False) hb) λ_ _ q=>q.elim;clear hb;refine⟨λ_=>hx,?_⟩
 exact Z2):P:=h
theorem Z3t(h:P:=by
 by_cases e:y=z
 . subst e;rw[Tr.aN,hz];rfl
 . rw[Tr.aK _ _ e]):P:=h
theorem Z3u(h:P:=by
 have e:=At.new (w.alloc (.deferred (some []))) (.loop (L .ready none));rw[World.size_alloc]at e
 exact⟨e,(At.new w (.deferred (some []))).alloc _⟩):P:=h
theorem Z3v(h:P:=by
 go_wp2
 all_goals
  go_ret
  refine⟨fT (by unfold Fx.valid;rw[if_neg aj,if_neg aj,if_pos rfl];simp[*]<;>omega),?_⟩
  exact Z5):P:=h
theorem Z3w(h:P:=by
 by_cases e:y=z
 . subst e;simp[Tr.aN,hz]
 . rw[Tr.aK _ _ e]):P:=h
theorem Z3x(h:P:=by
 rcases ha with h|h|h
 . exact .inl h
 . by_cases hv0:v.ownBlock=none
   . exact .inl hv0
   . exact .inr (by rw[h];exact hv0)
 . exact .inr h):P:=h
theorem Z3y(h:P:=by
 refine ak.cK ?_;intro w2 hS;go_wp2
 go_ret
 exact⟨bO (by(try simp only[uR,rH]);rfl),Below.ay hB (aG _) hS⟩):P:=h
theorem Z3z(h:P:=by
 rw[hz1,Int.toNat_natCast]at hrun
 exact⟨_,hrun,size_madeCells _ _⟩):P:=h
theorem Z40(h:P:=by rw[Tr.aK _ _ e]at hy;exact h.small y yd hy):P:=h
theorem Z41(h:P:=by
 have E1:=ah e1
 exact Z1o):P:=h
theorem Z42(h:P:=by
 go_enter Tryz.func61,Tryz.ntmps61
 go_wp2_with (go_at_call 30;(with_reducible refine key.mono ?_);rintro e w' ⟨rfl,rfl⟩)
 exact EL):P:=h
theorem aj(h:P:=by omega):P:=h
theorem aH(h:P:=by decide):P:=h
theorem zn(h:P:=by first|exact hB|exact Below.alloc' hB _ | exact Below.alloc' (Below.alloc' hB _) _):P:=h
theorem zD(h:P:=by first|exact A1|exact At.alloc A1 _ | exact At.alloc (At.alloc A1 _) _):P:=h
theorem Bo(h:P:=by first|exact A2|exact At.alloc A2 _ | exact At.alloc (At.alloc A2 _) _):P:=h
theorem BX(h:P:=by first|exact A0|exact At.alloc A0 _ | exact At.alloc (At.alloc A0 _) _):P:=h
theorem xX(h:P:=by first|assumption|(with_reducible exact At.new _ _)):P:=h
theorem aX(h:P:=by rfl):P:=h
theorem MN(h:P:=by first|exact A3|exact At.alloc A3 _ | exact At.alloc (At.alloc A3 _) _):P:=h
theorem jM(h:P:=by simp;omega):P:=h
theorem jD(h:P:=by kernel_rfl):P:=h
theorem Z4e(h:P:=by intro w2 hS;obtain⟨hc,hf⟩:=kY hS;go_simp;first|done|with_reducible rfl|exact⟨rfl,rfl⟩):P:=h
theorem YE(h:P:=by go_simp;first|done|with_reducible rfl|exact⟨⟨rfl,rfl,rfl,rfl⟩,rfl⟩):P:=h
theorem eZ(h:P:=by simp):P:=h
theorem EM(h:P:=by first|done|rfl|simp):P:=h
theorem YD(h:P:=by simp only[List.map_toArray,List.map_cons,List.map_nil];rfl):P:=h
theorem Z4j(h:P:=by intro q hq hn;unfold JN;(repeat' split)<;>first|rfl|omega):P:=h
theorem Z4k(h:P:=by go_simp;first|done|with_reducible rfl|exact⟨rfl,rfl⟩):P:=h
theorem JB(h:P:=by simp[Value.oneCell']):P:=h
theorem Z4m(h:P:=by rw[bG _ hk hb,M8 f t (aG k)]):P:=h
theorem JK(h:P:=by unfold maxLen;omega):P:=h
theorem Py(h:P:=by simp only[maxLen];omega):P:=h
theorem Z4p(h:P:=by go_simp;first|done|with_reducible rfl|exact⟨⟨⟨rfl,rfl,rfl,rfl,rfl,rfl⟩,rfl⟩,rfl⟩):P:=h
theorem Z4q(h:P:=by first|exact hB0.size|exact aG _):P:=h
theorem Tt(h:P:=by rw[HN.out];exact hlt):P:=h
theorem Z4s(h:P:=by rw[hA2.cell,oq x aj];rfl):P:=h
theorem Z4t(h:P:=by first|exact A4|exact At.alloc A4 _ | exact At.alloc (At.alloc A4 _) _):P:=h
theorem QS(h:P:=by rw[hz2];omega):P:=h
theorem YJ(h:P:=by rw[sZ];exact hk):P:=h
theorem YK(h:P:=by rw[HM.out];exact hlt):P:=h
theorem Z4x(h:P:=by first|(simp;done)|(simp;omega)):P:=h
theorem Z4y(h:P:=by simp[results,Tryz.results47,go_sem, *];first|done|exact⟨rfl,rfl⟩|rfl):P:=h
theorem Z4z(h:P:=by first|assumption|exact aL.keep (by assumption) hS):P:=h
theorem Z50(h:P:=by rw[HS.out,<-Bool.and_assoc,<-HF.out];rfl):P:=h
theorem Z51(h:P:=by rw[iX];omega):P:=h
theorem Z52(h:P:=by rw[HL.out];omega):P:=h
theorem Z53(h:P:=by rw[yj _ rfl];rfl):P:=h
theorem Z54(h:P:=by rw[dG];exact M9.out):P:=h
theorem Z55(h:P:=by rw[bI];omega):P:=h
theorem Z56(h:P:=by rw[<-gY.out,HG.out,hg1];simp):P:=h
theorem Z57(h:P:=by((rw[<-hW])<;>exact At.alloc (At.new' _ EM) _)):P:=h
theorem Z58(h:P:=by simp[Fence.wide]at hd):P:=h
theorem Z59(h:P:=by with_reducible exact At.new _ _):P:=h
end Go.Proofs.YtmidaiklolmkcaaGreat
