/- Short names for steps that come often in the proofs about the program's boxes. -/
import Derived.ArgAppend
import Derived.Below
import Derived.BigQuiet
import Derived.BigRegion
import Derived.ChangeOld
import Derived.ChangeSame
import Derived.Deep.Cut
import Derived.Deep.CutRange
import Derived.Deep.MidRow
import Derived.Deep.OwnRows
import Derived.Deep.QuietTactic
import Derived.Deep.RegionWith
import Derived.Deep.Slices
import Derived.DeepKeys
import Derived.DeepKeys3
import Derived.DeepKeys4
import Derived.IntWalk
import Derived.Laws.ComplexArith
import Derived.Laws.CopyOwn
import Derived.Laws.EntriesVeiled
import Derived.Laws.Externs
import Derived.Laws.FloatArith
import Derived.Laws.IdiomArrays
import Derived.Laws.IdiomCopy
import Derived.Laws.StructEq
import Derived.Lib.AppendZerosOnto
import Derived.Lib.Hide
import Derived.Lib.MinMax
import Derived.Lib.Overlaps
import Derived.Lib.SliceRun
import Derived.Lib.SmallJoins
import Derived.LoopIn
import Derived.LoopN
import Derived.LoopNIn
import Derived.Maps.AppendAt
import Derived.Maps.OwnIn
import Derived.Maps.OwnSet
import Derived.Maps.RangeWalk
import Derived.OpenShut
import Derived.Orders
import Derived.OwnWalkIn
import Derived.ProofKit
import Derived.RangeFuncBox
import Derived.RangeFuncCalls
import Derived.RangeFuncLeaves
import Derived.ScopeJumps
import Derived.Shelf.Abstract
import Derived.ShutString
import Derived.Sort.CutIn
import Derived.TacticsInMore
import Derived.WalkKit
import Derived.WalkLawsBesides
import Derived.WalkMore
set_option linter.all false
set_option maxRecDepth 100000
set_option maxHeartbeats 400000
open Go Go.ChangeShapes Go.WideShapes Go.ChangeAt Go.RowKit
namespace Go.Proofs.YtdnggaapcgomhaaGreat
instance zzc0:Coe Int Value:=⟨.int .i64⟩
instance zzc1:Coe Nat Value:=⟨fun b=>.pointer (some ⟨b,0,none⟩)⟩
instance zzc2:Coe World Nat:=⟨fun w=>w.heap.size⟩
instance zzc4:Coe Unit Value:=⟨fun _=>.int .i64 0⟩
instance zzc5:Coe Bool Value:=⟨.bool⟩
instance zzc3:Coe Nat (Option Addr):=⟨fun b=>some ⟨b,0,none⟩⟩
variable {P:Prop}
theorem aA{α:Sort _}(a:α):∃l,a=l:=⟨a,rfl⟩
theorem aD{n:Nat}{w:World}:Go.RowKit.Below n w w:=Go.RowKit.Below.refl _ _
theorem aC{n:Nat}:n<=n:=Nat.le_refl _
theorem lG{n:Nat}:n<=n.succ:=Nat.le_succ _
theorem oI{n:Nat}:0<=n:=Nat.zero_le _
theorem aB{w a:World}(h:Go.RowKit.Below w.heap.size w a)(o:Obj):Go.RowKit.Below w.heap.size w (a.alloc o):=h.alloc h.size o
theorem aH:∀n:Nat,n<=n:=@Nat.le_refl
theorem aT:∀{n m k:Nat},n<m->m<=k->n<k:=@Nat.lt_of_lt_of_le
theorem aJ:∀{n m k:Nat},n<=m->m<=k->n<=k:=@Nat.le_trans
theorem dX:∀{a b:Nat},a<b->a≠b:=@Nat.ne_of_lt
theorem uO:∀{n m:Nat},n<m->n<=m:=@Nat.le_of_lt
theorem eX:∀n:Nat,0<=n:=@Nat.zero_le
theorem ah:∀{p:Prop},p->Go.RowKit.Hid p:=@Lib.hid
theorem Z0(h:P:=by(repeat (first|exact Below.refl _ _ | assumption|refine Below.drew ?_ | refine Below.drewN ?_ _ | refine Below.alloc' ?_ _ | refine Below.setCell ?_ Z46 _ | refine Below.ay ?_ (aH _) (by assumption)))):P:=h
theorem Z1(h:P:=by
 generalize hc1:cs.setIfInBounds (o+5) (Value.int IntKind.i64 (Fw.zw s 0 r0 a0))=cs1 at *;have h6':cs1[o+6]? = some (.int .i64 a1):=by rw[<-hc1,Array.getElem?_setIfInBounds,if_neg ak];exact h6
 replace h6:=h6';clear h6' h5;have Ww:=ah hc1;clear hc1;clear c0 lR cR zR;have c0:=A0.lc;have lR:=AR.lt;have cR:=(AR.cell (o+6)).trans h6;have zR:=AR.thaw (o+6);go_wp2;cases SI:Fw.FH s 1 0 r1
 . have Ow:=ah SI
   clear SI;cases aaM:Fw.FH s 1 1 r1
   . have Wx:=ah aaM
     clear aaM;rw[rounds_succ]
     go_upto_region 6 with(fail)
     go_upto_region 7 with((go_at_call 158;(with_reducible refine(uP bz s vf va ib r0 r1 _ A2).mono ?_);rintro e w3 ⟨rfl,hb⟩;replace hQ:=hQ.trans (Out.of_below hb);replace A0:=At.keep A0 hb;replace A2:=At.keep A2 hb;replace AR:=At.keep AR hb;clear hb))
     clear c0 lR cR zR;have c0:=A0.lc;have lR:=AR.lt;have cR:=(AR.cell (o+6)).trans h6;have zR:=AR.thaw (o+6);rw[Ow.out]
     go_upto_region 10 with((go_at_call 158;(with_reducible refine(yh bz s vf va ib r0 r1 _ A2).mono ?_);rintro e w3 ⟨rfl,hb⟩;replace hQ:=hQ.trans (Out.of_below hb);replace A0:=At.keep A0 hb;replace A2:=At.keep A2 hb;replace AR:=At.keep AR hb;clear hb))
     clear c0 lR cR zR;have c0:=A0.lc;have lR:=AR.lt;have cR:=(AR.cell (o+6)).trans h6;have zR:=AR.thaw (o+6);rw[Wx.out];rw[<-aP h6,show a1=Fw.zw s 1 r1 a1 from by unfold Fw.zw;rw[if_neg (by rw[Ow.out];simp),if_neg (by rw[Wx.out];simp)]]at AR;exact Zw
   . have Wx:=ah aaM
     clear aaM;rw[rounds_succ]
     go_upto_region 6 with(fail)
     go_upto_region 7 with((go_at_call 158;(with_reducible refine(uP bz s vf va ib r0 r1 _ A2).mono ?_);rintro e w3 ⟨rfl,hb⟩;replace hQ:=hQ.trans (Out.of_below hb);replace A0:=At.keep A0 hb;replace A2:=At.keep A2 hb;replace AR:=At.keep AR hb;clear hb))
     clear c0 lR cR zR;have c0:=A0.lc;have lR:=AR.lt;have cR:=(AR.cell (o+6)).trans h6;have zR:=AR.thaw (o+6);rw[Ow.out]
     go_upto_region 10 with((go_at_call 158;(with_reducible refine(yh bz s vf va ib r0 r1 _ A2).mono ?_);rintro e w3 ⟨rfl,hb⟩;replace hQ:=hQ.trans (Out.of_below hb);replace A0:=At.keep A0 hb;replace A2:=At.keep A2 hb;replace AR:=At.keep AR hb;clear hb))
     clear c0 lR cR zR;have c0:=A0.lc;have lR:=AR.lt;have cR:=(AR.cell (o+6)).trans h6;have zR:=AR.thaw (o+6);rw[Wx.out]
     go_upto_region 11 with(fail)
     refine xA 11 1 ?_
     (repeat (first|refine jc ?_ | refine jd ?_ (hc:=by intro w2 hS;first|with_reducible exact iq hS (iO _))|refine je ?_))
     refine aj.bL ?_;intro w2 hS;replace hQ:=hQ.trans (Out.of_below hS);replace A0:=At.keep A0 hS;replace A2:=At.keep A2 hS;replace AR:=At.keep AR hS;clear hS;clear c0 lR cR zR;have c0:=A0.lc;have lR:=AR.lt;have cR:=(AR.cell (o+6)).trans h6;have zR:=AR.thaw (o+6);refine wz ?_;intro K hK;go_simp;refine hK _ _ (aj.bC ?_);clear hK K;generalize hW:World.setCell _ _ _=W9;replace A0:At W9 _ _:=hW▸At.off A0 ak _ _;replace A2:At W9 _ _:=hW▸At.off A2 ak _ _;replace hQ:Out _ _ W9:=hW▸Out.set hQ rfl _ _;replace AR:At W9 R _:=hW▸At.set AR (o+6) _;clear hW;rw[qK,show Fw.wr (a1-Fw.ins s 1 1 r1)=Fw.zw s 1 r1 a1 from by unfold Fw.zw;rw[if_neg (by rw[Ow.out];simp),if_pos Wx.out]]at AR;exact Zw
 . have Ow:=ah SI
   clear SI;rw[rounds_succ]
   go_upto_region 6 with(fail)
   go_upto_region 7 with((go_at_call 158;(with_reducible refine(uP bz s vf va ib r0 r1 _ A2).mono ?_);rintro e w3 ⟨rfl,hb⟩;replace hQ:=hQ.trans (Out.of_below hb);replace A0:=At.keep A0 hb;replace A2:=At.keep A2 hb;replace AR:=At.keep AR hb;clear hb))
   clear c0 lR cR zR;have c0:=A0.lc;have lR:=AR.lt;have cR:=(AR.cell (o+6)).trans h6;have zR:=AR.thaw (o+6);rw[Ow.out]
   go_upto_region 8 with(fail)
   refine xA 11 1 ?_
   (repeat (first|refine jc ?_ | refine jd ?_ (hc:=by intro w2 hS;first|with_reducible exact iq hS (iO _))|refine je ?_))
   refine aj.bL ?_;intro w2 hS;replace hQ:=hQ.trans (Out.of_below hS);replace A0:=At.keep A0 hS;replace A2:=At.keep A2 hS;replace AR:=At.keep AR hS;clear hS;clear c0 lR cR zR;have c0:=A0.lc;have lR:=AR.lt;have cR:=(AR.cell (o+6)).trans h6;have zR:=AR.thaw (o+6);refine wz ?_;intro K hK;go_simp;refine hK _ _ (aj.bC ?_);clear hK K;generalize hW:World.setCell _ _ _=W9;replace A0:At W9 _ _:=hW▸At.off A0 ak _ _;replace A2:At W9 _ _:=hW▸At.off A2 ak _ _;replace hQ:Out _ _ W9:=hW▸Out.set hQ rfl _ _;replace AR:At W9 R _:=hW▸At.set AR (o+6) _;clear hW;rw[qK,show Fw.wr (a1+Fw.ins s 1 0 r1)=Fw.zw s 1 r1 a1 from by unfold Fw.zw;rw[if_pos Ow.out]]at AR
   exact Zw):P:=h
theorem Z2(h:P:=by
 go_enter Tryz.func158,Tryz.ntmps158
 go_upto_region 1 with(fail)
 generalize hW:World.alloc _ _=W0;have A0:At W0 w.heap.size (.cells #[.int .i64 r0,.int .i64 r1] 95):=hW▸At.new _ _;have A2:aL W0 b s fl ap ib:=hW▸aL.alloc h _;have hB:Below w.heap.size w W0:=hW▸Below.alloc' (Below.refl _ _) _;clear hW h;have c0:=A0.lc;obtain⟨l2,bS,bX,bY,bZ,cu,cK,bU,bV⟩:=At.bxi A2;refine adB [0,1,2,3,4,5,6,7,8] 9 10 ?_ (norm:=[⟨_,_,_,_,_,_⟩,⟨_,_,_,_,_,_⟩,⟨_,_,_,_,_,_⟩,⟨_,_,_,_,_,_⟩,⟨_,_,_,_,_,_⟩,⟨_,_,_,_,_,_⟩,⟨_,_,_,_,_,_⟩,⟨_,_,_,_,_,_⟩,⟨_,_,_,_,_,_⟩]) (tail:=[⟨_,_,_,_,_,_⟩]) (x:=.cells #[.int .i64 0,.int .i64 0] 59) (so:=⟨_,_,_,_,_,_⟩)
 (repeat (first|refine sbk ?_ | refine sbc ?_ (hc:=by intro w2 hS;first|with_reducible exact(iO _)|with_reducible exact(IK _)|with_reducible exact(IL _)|with_reducible exact(IQ _))|refine sbv ?_))
 refine aj.yj ?_;intro n0 w2 hn hA hS;(try simp only[bM,bN,bO,tks])
 ((have hB0:=hB);have BF:=dX (aT A0.lt hn);have BG:=dX (aT A2.lt hn);(clear c0 l2 bS bX bY bZ cu cK bU bV);(replace hB:=Below.ay qN (aH _) hS);replace A0:=At.keep uL hS;replace A2:=At.keep uh hS;clear hS;have c0:=A0.lc;obtain⟨l2,bS,bX,bY,bZ,cu,cK,bU,bV⟩:=At.bxi A2;have A3:=hA;clear hA;have c3:=A3.nM;have g0:=aJ Z4g hn;clear hB0)
 refine wz ?_;intro K hK;go_simp;refine hK _ _ (aj.bC ?_);clear hK K
 (generalize hW:World.setCell (World.setCell _ _ _) _ _=W1;clear c0 l2 bS bX bY bZ cu cK bU bV c3;replace A3:At W1 _ _:=hW▸(At.SK A3 _ _);replace A0:At W1 _ _:=hW▸(At.off (At.off A0 BF _ _) BF _ _);replace A2:At W1 _ _:=hW▸(At.off (At.off A2 BG _ _) BG _ _);replace hB:Below w.heap.size w W1:=hW▸(Below.setCell (Below.setCell hB g0 _) g0 _);clear hW BF BG;have c0:=A0.lc;obtain⟨l2,bS,bX,bY,bZ,cu,cK,bU,bV⟩:=At.bxi A2;have c3:=A3.lc)
 go_upto_region 2 with(fail)
 refine rZ ?_
 (repeat (first|refine jc ?_ | refine jd ?_ (hc:=by intro w2 hS;first|with_reducible exact iq hS (iP _ _ _ _ _)|with_reducible exact iq hS (jD _ _ _ _))|refine je ?_))
 refine aj.bD ?_;intro w2 hS;go_wp2
 refine bodyPost_ret (v:=.tuple #[.int .i64 _,.bool _]) (by simp[results,Tryz.results158,go_sem, *];first|done|exact⟨rfl,rfl⟩|rfl) rfl ⟨rfl,Below.ay hB (aH _) hS⟩):P:=h
theorem Z3(h:P:=by
 have HC:∀X,Below w4.heap.size w4 X->(X.cell? ⟨w.heap.size,1,none⟩=some (.map (some m))/\X.cell? ⟨w.heap.size+1,0,none⟩=some (pt bx pE)/\X.cell? ⟨w.heap.size+1,1,none⟩=some (ng kx ky)/\Below w4.heap.size w4 X):=λX h=>⟨(A0.keep h).cell 1,(A1.keep h).cell 0,(A1.keep h).cell 1,h⟩;have hSd:=HC _ (Below.drew (Below.refl _ _));clear hB4;refine iC (S:=(λX=>X.cell? ⟨w.heap.size,1,none⟩=some (.map (some m))/\X.cell? ⟨w.heap.size+1,0,none⟩=some (pt bx pE)/\X.cell? ⟨w.heap.size+1,1,none⟩=some (ng kx ky)/\Below w4.heap.size w4 X)) 11 ?_ ?_
 . exact hSd
 intro hS0;have hx:Below w4.heap.size w4 w4.drew:=Below.drew (Below.refl _ _);clear hSd;refine aO 0 ?_;refine aO 1 ?_;refine aO 2 ?_;refine jh 3 rfl (aZ aR rfl rfl rfl (λX h=>hlk X h.2.2.2)) ?_;refine aO 4 ?_;refine aO 5 ?_;refine aO 7 ?_;refine aO 8 ?_;clear hlk hS0;generalize w4.drew=W1 at *;refine tk2 6 10 ?_ ?_
 . refine aj.Step.call eD (kM1 _) ?_
   rintro e qh ⟨rfl,hb⟩;replace hx:=Below.ay hx (aH _) hb;clear hb;refine⟨_,rfl,λ_=>HC _ hx,?_⟩
   (try simp only[bM,bN,bO,tks])
   refine tk2 9 10 ?_ ?_
   . refine aj.Step.call eD (kM2 _) ?_
     rintro e wO ⟨rfl,hb⟩;replace hx:=Below.ay hx (aH _) hb;clear hb;refine⟨_,rfl,λ_=>HC _ hx,?_⟩
     (try simp only[bM,bN,bO,tks])
     refine tk1 10 ?_;refine aj.Step.value (u:=.pointer (some ⟨wO.heap.size,0,none⟩)) (w':=wO.alloc (.cells #[.int .i64 0,.int .i64 0,.int .i64 0,.int .i64 0] 40)) eD ?_;obtain⟨zl,uM,Ap,hb⟩:∃w9,w9=wO.alloc (.cells #[.int .i64 0,.int .i64 0,.int .i64 0,.int .i64 0] 40)/\At w9 wO.heap.size (.cells #[.int .i64 0,.int .i64 0,.int .i64 0,.int .i64 0] 40)/\Below wO.heap.size wO w9:=⟨_,rfl,At.new _ _,Below.alloc' (Below.refl _ _) _⟩;rw[<-uM];clear uM;have gp:=hx.size;obtain⟨Tp,C8⟩:∃q,wO.heap.size=q:=⟨_,rfl⟩;rw[C8]at Ap gp;rw[C8];clear C8;replace hx:=Below.ay hx (aH _) hb;clear hb;refine⟨λ_=>HC _ hx,?_⟩;exact Za
   . refine aj.Step.value (u:=.pointer (some ⟨qh.heap.size,0,none⟩)) (w':=qh.alloc (.cells #[.int .i64 0,.int .i64 0,.int .i64 0,.int .i64 0] 40)) eD ?_
     obtain⟨wO,uM,Ap,hb⟩:∃w9,w9=qh.alloc (.cells #[.int .i64 0,.int .i64 0,.int .i64 0,.int .i64 0] 40)/\At w9 qh.heap.size (.cells #[.int .i64 0,.int .i64 0,.int .i64 0,.int .i64 0] 40)/\Below qh.heap.size qh w9:=⟨_,rfl,At.new _ _,Below.alloc' (Below.refl _ _) _⟩;rw[<-uM];clear uM;have gp:=hx.size;obtain⟨Tp,C8⟩:∃q,qh.heap.size=q:=⟨_,rfl⟩;rw[C8]at Ap gp;rw[C8];clear C8;replace hx:=Below.ay hx (aH _) hb;clear hb;refine⟨λ_=>HC _ hx,?_⟩;exact Z24
 . refine aj.Step.value (u:=.pointer (some ⟨W1.heap.size,0,none⟩)) (w':=W1.alloc (.cells #[.int .i64 0,.int .i64 0,.int .i64 0,.int .i64 0] 40)) eD ?_
   obtain⟨qh,uM,Ap,hb⟩:∃w9,w9=W1.alloc (.cells #[.int .i64 0,.int .i64 0,.int .i64 0,.int .i64 0] 40)/\At w9 W1.heap.size (.cells #[.int .i64 0,.int .i64 0,.int .i64 0,.int .i64 0] 40)/\Below W1.heap.size W1 w9:=⟨_,rfl,At.new _ _,Below.alloc' (Below.refl _ _) _⟩;rw[<-uM];clear uM;have gp:=hx.size;obtain⟨Tp,C8⟩:∃q,W1.heap.size=q:=⟨_,rfl⟩;rw[C8]at Ap gp;rw[C8];clear C8;replace hx:=Below.ay hx (aH _) hb;clear hb;refine⟨λ_=>HC _ hx,?_⟩
   (try simp only[bM,bN,bO,tks])
   refine tk1 6 ?_;refine aj.Step.call eD (kM1 _) ?_;rintro e wO ⟨rfl,hb⟩;replace Ap:=Ap.keep hb;replace hx:=Below.ay hx (aH _) hb;clear hb;refine⟨_,rfl,λ_=>HC _ hx,?_⟩
   exact Z24):P:=h
theorem Z4(h:P:=by
 go_region_with (refine(hA.call xs x _ (hA.keep _ _ _ hI (Below.drew (Below.refl _ _))) hx).mono ?_;rintro e w1 ⟨rfl,hI1,gJ⟩;replace gJ:=(Out.of_below (M:=mine) (Below.drew (Below.refl w.heap.size w))).trans gJ;have a1:=At.out a n1 gJ;have aw1:=At.out aw n2 gJ;have KG:w1.cell? ⟨b,o,none⟩=some (.int .i64 x):=(a1.cell o).trans ho;have hf1:=a1.thaw o)
 all_goals (refine bodyPost_end (results_none rfl _ _ _) rfl ⟨rfl,⟨hA.set _ _ _ _ _ hI1 n1,At.set a1 _ _,At.off aw1 (Ne.symm n3) _ _⟩,Out.set (gJ.mono λ_ _ h => .inl h) (.inr rfl) _ _⟩)):P:=h
theorem Z5(h:P:=by
 have hSd:Below w8.heap.size w8 w8.drew:=Below.drew (Below.refl _ _);have hLR:=λX (h:Below w8.heap.size w8 X)=>HLR.out X (hbf.trans (h.mono hsf));have hWI:=HWI.out;have hfw:=aaN r0 r1 s2 s3;have hfh:=aaO r0 r1 s2 s3;refine iC (S:=λX=>Below w8.heap.size w8 X) 41 ?_ ?_
 . exact hSd
 intro hx;clear hSd;refine aF 0 ?_;refine aF 1 ?_;refine aF 2 ?_;refine aF 3 ?_;refine aF 4 ?_;refine aF 5 ?_;refine aF 6 ?_;refine aF 7 ?_;refine aF 8 ?_;refine aF 9 ?_;refine aF 10 ?_;refine tk1 11 ?_;refine BH (HKW.out _) hx ?_;clear hx;intro y5 hx;refine tk1 12 ?_;refine BH (IU t0 t1 t2 t3 q0 q1 q2 q3 _) hx ?_;clear hx;intro y6 hx;refine aF 13 ?_;refine aF 14 ?_;refine aF 15 ?_;refine aF 16 ?_;refine aF 17 ?_;refine aF 18 ?_;refine aF 19 ?_;refine aF 20 ?_;refine aF 21 ?_;refine aF 22 ?_;refine aF 23 ?_;refine jh 24 rfl (aZ aR rfl rfl rfl (λX h=>hLR X h)) ?_;refine aF 25 ?_;refine aF 26 ?_;refine aF 27 ?_;refine aF 28 ?_;refine aF 29 ?_;refine aF 30 ?_;refine aF 31 ?_;refine aF 32 ?_;refine aF 33 ?_;refine aF 34 ?_;refine aF 35 ?_;refine aF 36 ?_;refine jh 37 rfl (aZ aR rfl rfl rfl (λX h=>hLR X h)) ?_;refine aF 38 ?_;refine aF 39 ?_;refine aF 40 ?_;refine gZ ?_;have hbz:=hbf.trans (hx.mono hsf);go_wp2
 go_roundw
 case rel=>exact⟨j+1,by omega,by go_num,hbz⟩
 case measure=>simp[intOf];omega):P:=h
theorem Z6(h:P:=by
 have hT4:=HK.out.2.1;have hne:iu≠k':=λe=>by have:=HU.out;rw[e,hT4]at this;cases this
 obtain⟨W5,hst,BI,hD5,hG5⟩:=HD.out.adC hkd hT4 (iu:Int);have c4:=HD.out.cT;have HST:=ah hst;have HBD:=ah (Da (iu:Int));have HG5:=ah (((DG.of_below HB1.out).trans HG.out).trans hG5);have hU5:Tr.set T (k':Int) ⟨iu,[],Re.zero⟩ iu=some p:=(Tr.aK _ _ ak).trans HU.out;have hKu:(if (iu:Int)=(k':Int)then (Value.slice none 0 0)else K iu)=.slice A nk cc:=by rw[if_neg ak];exact HV.out
 have c5:=hD5.cT;have c6:=hD5.jX hU5;have ji:=hD5.row _ _ hU5;simp only[hKu]at c6 ji;have HD5:=ah hD5;have HU5:=ah hU5;have BJ:=ah ji;have HV5:Hid ((if (iu:Int)=(k':Int)then (Value.slice none 0 0)else K iu)=.slice A nk cc):=ah hKu;clear c0 hst BI hD5 hG5 HD HG hU5 hKu hT4 ji hne HV BK;generalize fH (iu:Int) (.slice none 0 0) Re.zero=dc at *;have aiz:Hid ((λz:Int=>if z=(k':Int)then (Value.slice none 0 0)else K z) iu=.slice A nk cc):=HV5;clear HV5;generalize (λz:Int=>if z=(k':Int)then (Value.slice none 0 0)else K z)=K5 at *;generalize hT5:Tr.set T (k':Int) ⟨iu,[],Re.zero⟩=T5 at *;have HT5:=ah hT5;clear hT5
 go_upto_region 15 with(first|(refine wpList_build aR 146 _ rfl #[(0,.bool true),(1,.int .i64 (iu:Int))] Wy (HBD.out _) ?_)|(refine ni aR (sj (.tmp 64) (.tmp 63) rfl rfl rfl HST.out) ?_))
 clear HST HBD c4;refine iC (S:=(λW'=>W'.cell? ⟨r,0,none⟩=some (.slice (some ⟨gd,0,none⟩) md cd)/\W'.cell? ⟨gd,iu*58+2,none⟩=some (.slice A nk cc)/\Below W5.heap.size W5 W')) 16 ?_ ?_
 . exact⟨c5,c6,Below.drew (Below.refl _ _)⟩
 intro hS0;clear c5 c6;refine aO 0 ?_;refine aO 1 ?_;refine aO 2 ?_;refine aO 3 ?_;refine aO 4 ?_;refine aO 5 ?_;refine aO 6 ?_;refine aO 7 ?_;refine aO 8 ?_;refine aO 9 ?_;refine aO 10 ?_;refine aO 11 ?_;refine aO 12 ?_;refine aO 13 ?_;refine aO 14 ?_;refine tk1 15 ?_;refine aj.Step.call eD (GA (BJ.out.after hS0.2.2) (by rw[HNK.out];exact afM.out) (by rw[HNK.out];exact hil.out) (k':Int)) ?_;rintro e w6 ⟨⟨v6,rfl,Cu⟩,hb6⟩;have hS1:=hS0.2.2.trans (hb6.mono hS0.2.2.size);have hn6:=aJ hS0.2.2.size (aH _);have KI:=dP Cu (eX _);have hown6:=λb hb=>aJ hn6 (World.ownsRow.lt Cu b hb).1;obtain⟨A6,c6,rfl⟩:=dY Cu;have hD6:=HD5.out.after hS1;have c7:=hD6.cT;have c8:=hD6.jX HU5.out;rw[aiz.out]at c8;obtain⟨cur,hcur,_⟩:=hD6.cur;have hth:=hcur.thaw (iu*58+2);have hD7:=ah (hD6.sw HU5.out KI)
 have Ox:DG r gd K5 T5 W5 (w6.setCell ⟨gd,iu*58+2,none⟩ (.slice A6 (Tr.wi p.kids i k').length c6)) gd (λz=>if z=(iu:Int)then .slice A6 (Tr.wi p.kids i k').length c6 else K5 z) (Tr.set T5 iu { p with kids:=Tr.wi p.kids i k' }) :=
  ⟨(Out.of_below hS1).trans ((Out.refl _ _).set (M:=iW r gd K5 T5) (.inr (.inl rfl)) _ _),λb hb=>(pO HU5.out hb).elim .inl λq => .inr (hown6 b q)⟩
 have HG7:=ah (HG5.out.trans Ox);refine⟨_,rfl,λ_=>⟨c7,c8,hS1⟩,?_⟩;clear Ox hS0 hS1 hn6 KI hown6 Cu hb6 hcur hD6 HG5 BJ HB1;generalize hnl:(Tr.wi p.kids i (k':Int)).length=nl at *
 (try simp only[bM,bN,bO,tks])
 refine tk1 16 ?_;refine uG ?_ (hS:=by first|(intro hlt;exact absurd hlt aG)|(intro _;exact hlt));refine tk1 17 ?_;refine uG ?_ (hS:=by first|(intro hlt;exact absurd hlt aG)|(intro _;exact hlt));refine tk1 18 ?_;refine aj.Step.skip Z3v ?_;refine⟨by first|(intro hlt;exact absurd hlt aG)|(intro _;exact hlt),?_⟩;(try simp only[Act.put]);refine gZ ?_;go_wp2
 go_ret2
 rw[HT5.out]
 exact⟨rfl,_,_,_,_,hD7.out,hml,HG7.out⟩):P:=h
theorem Z7(h:P:=by
 have HKF:Hid (pF T (ks.take (k+1))=pF T (ks.take k)):=ah (by rw[SL,SQ,if_neg (by rw[n0,no];decide),List.append_nil]);have HKA:Hid (qj T (ks.take (k+1))=qj T (ks.take k)++[x]):=ah (by rw[IV,SS,if_pos (by rw[n0,no];rfl)]);clear SL IV SQ SS
 go_upto_region 4 with(fail)
 go_upto_region 6 with(first|(go_at_call 22;(with_reducible refine key2.mono ?_);rintro e w2 ⟨rfl,hb2⟩)|(refine aS aR rfl ?_)|(refine bE aR rfl ?_)|(refine aQ aR _ rfl rfl oC ?_)|(refine bF aR _ _ rfl rfl rfl oC ?_)|(refine aU aR _ _ rfl rfl rfl oC ?_))
 (try simp only[bM,bN,bO,tks])
 generalize hW:World.setRow _ _ _=w3;have A3:At w3 w2.heap.size (.cells (cells sx) 68):=by rw[<-hW];exact At.setRow (At.new w2 (.cells (cells Re.zero) 68)) (cells sx)
 have hb3:Below wr.heap.size wr w3:=by rw[<-hW];exact below_setRow (hb2.alloc hb2.size (.cells (cells Re.zero) 68)) hb2.size (cells sx)
 clear hW;have hv3:=bG (M:=λ_=>False) hv (λ_ _ q=>q) (Out.of_below hb3);have hu3:=bG (M:=λ_=>False) hu (λ_ _ q=>q) (Out.of_below hb3);have hB3:Below w1.heap.size w1 w3:=Below.ay hB (aH _) hb3;have l3:=A3.lt;have d0:=A3.st 0 aG rfl;have d1:=A3.st 1 aG rfl;have hlen1:(pF T (ks.take k)).length<=10000:=IW T ks k HL.out;have Wz:(qj T (ks.take k)).length<=10000:=IX T ks k HL.out;obtain⟨g,c,w4,hr,ho4,hp4,ha4,hb4,hs4⟩:=xB x hu3 hv3 hap (by have:=hB3.size;omega) Wz;have HRR:=ah hr;clear hr
 go_wp2_with (at_builtin;refine wpList_append_run aR _ _ 37 rfl rfl rfl HRR.out ?_)
 (try simp only[bM,bN,bO,tks])
 (try simp only[Act.put,List.setIfInBounds_toArray,List.set_cons_zero,List.set_cons_succ,List.size_toArray,Array.getD_eq_getD_getElem?])
 go_roundw
 case rel =>
  refine⟨k+1,Nat.succ_le_of_lt Db.out,?_,?_⟩
  . exact Z2w
  . rw[HKF.out,HKA.out]
    exact⟨hp4,by rw[List.length_append];exact ho4,ha4,hB3.trans hb4⟩
 case measure =>
  exact Z1s):P:=h
theorem Z8(h:P:=by
 go_enter Tryz.func193,Tryz.ntmps193
 go_upto_region 2 with(fail)
 generalize hW:World.alloc (World.alloc (World.alloc (World.alloc _ _) _) _) _=W1;have hX:cO W1 w.heap.size (w.heap.size+1) (w.heap.size+1+1) (w.heap.size+1+1+1) left 0 0 1:=hW▸mG w left;have hB:Below w.heap.size w W1:=hW▸kZ w _ _ _ _;clear hW;obtain⟨m2,m3,m4⟩:w.heap.size<=w.heap.size+1/\w.heap.size<=w.heap.size+1+1/\w.heap.size<=w.heap.size+1+1+1:=⟨by omega,by omega,by omega⟩;generalize w.heap.size+1+1+1=b4 at *;generalize w.heap.size+1+1=b3 at *;generalize w.heap.size+1=b2 at *;have HX:=ah hX;obtain⟨c1,c2,c3,c4⟩:=hX.cells;obtain⟨z2,z3,z4,l2,l3,l4⟩:=hX.GD;have l1:=hX.a1.lt;have n23:=hX.n23;have n24:=hX.n24;have n34:=hX.n34;have n32:=hX.n23.symm;have n42:=hX.n24.symm;have n43:=hX.n34.symm;clear hX;go_wp2
 go_ret
 exact⟨⟨_,_,_,_,rfl,((HX.out.SK (1)).SV (2))⟩,(Below.setCell (Below.setCell hB m2 _) m4 _)⟩):P:=h
theorem Z9(h:P:=by
 go_enter Tryz.func193,Tryz.ntmps193
 go_upto_region 2 with(fail)
 generalize hW:World.alloc (World.alloc (World.alloc (World.alloc _ _) _) _) _=W1;have hX:cO W1 w.heap.size (w.heap.size+1) (w.heap.size+1+1) (w.heap.size+1+1+1) left 0 0 1:=hW▸mG w left;have hB:Below w.heap.size w W1:=hW▸kZ w _ _ _ _;clear hW;obtain⟨m2,m3,m4⟩:w.heap.size<=w.heap.size+1/\w.heap.size<=w.heap.size+1+1/\w.heap.size<=w.heap.size+1+1+1:=⟨by omega,by omega,by omega⟩;generalize w.heap.size+1+1+1=b4 at *;generalize w.heap.size+1+1=b3 at *;generalize w.heap.size+1=b2 at *;have HX:=ah hX;obtain⟨c1,c2,c3,c4⟩:=hX.cells;obtain⟨z2,z3,z4,l2,l3,l4⟩:=hX.GD;have l1:=hX.a1.lt;have n23:=hX.n23;have n24:=hX.n24;have n34:=hX.n34;have n32:=hX.n23.symm;have n42:=hX.n24.symm;have n43:=hX.n34.symm;clear hX;go_wp2
 go_ret
 exact⟨⟨_,_,_,_,rfl,HX.out⟩,hB⟩):P:=h
theorem Za(h:P:=by
 (try simp only[bM,bN,bO,tks])
 refine tk1 11 ?_;refine aj.Step.skip (aY (q:=0) sD (.tmp 8) (.tmp 29) rfl rfl rfl Ap rfl aW (sF _ _ _ _)) ?_;rw[dZ (cs:=#[.int .i64 0,.int .i64 0,.int .i64 0,.int .i64 0]) (vs:=#[.int .i64 v.x,.int .i64 v.y,.int .i64 v.w,.int .i64 v.h]) rfl];have V4:=At.setRow Ap #[.int .i64 v.x,.int .i64 v.y,.int .i64 v.w,.int .i64 v.h];have hx1:=aM hx gp #[.int .i64 v.x,.int .i64 v.y,.int .i64 v.w,.int .i64 v.h];generalize zl.setRow Tp #[.int .i64 v.x,.int .i64 v.y,.int .i64 v.w,.int .i64 v.h]=x1 at *;refine⟨λhlt=>absurd hlt aG,?_⟩
 (try simp only[bM,bN,bO,tks])
 refine gZ ?_
 exact⟨rfl,Tp,_,_,_,_,_,_,_,_,_,_,rfl,gp,V4,hx1⟩):P:=h
theorem Zb(h:P:=by
 refine rZ ?_
 (repeat (first|refine jc ?_ | refine jd ?_ (hc:=by intro w2 hS;first|with_reducible exact iq hS (jY _ _ _ _ _ _ _ _))|refine je ?_))
 refine aj.bD ?_;intro w2 hS;go_wp2
 go_ret
 exact⟨bA E.out,Below.ay hB (aH _) hS⟩):P:=h
theorem Zc(h:P:=by
 rw[<-heq.out,he0]at key
 have hF4:Hid (WA (splice cs (k*5) (wP x.it)) it (k+1)):=ah λi hi j hj=>by
  have hsz:k*5+(wP x.it).size<=cs.size:=by rw[gN];exact hfit
  by_cases ei:i=k
  . subst ei
    rw[mH hsz (by rw[gN];exact hj),hiq.out]
  . rw[gX hsz (.inl ak)]
    exact hF i ak j hj
 have aiA:Hid ((splice cs (k*5) (wP x.it)).size=m*5):=ah (by rw[iM (by rw[gN];exact hfit)];exact hcs);have HA4:=ah A4;have HB4:=ah hB4;clear hW A2 A3 hB3 KJ HLD l2 A4 hB4 he0 hfit
 go_upto_region 8 with(first|(go_at_call 186;(with_reducible refine key.mono ?_);rintro e w5 ⟨rfl,hb5⟩)|(refine dn aR _ rfl rfl (by assumption) ?_)|(refine dK aR _ rfl rfl (by assumption) ?_)|(refine bW aR rfl ?_)|(refine bP aR _ _ rfl rfl rfl oC ?_))
 have A6:=HA4.out.keep hb5;have zm:=Below.ay HB4.out (aH _) hb5;clear hb5 key A5 aaP;go_wp2
 go_roundw
 case rel=>exact⟨k+1,_,by omega,by go_num,by rw[hlk.out],A6,aiA.out,hF4.out,zm⟩
 case measure=>simp[intOf];omega):P:=h
theorem Zd(h:P:=by
 refine tk1 10 ?_;have lp:=Ap.lt;have zp0:=Ap.thaw 0;have zp1:=Ap.thaw 1;obtain⟨_,SX,SY⟩:=At.two Ap;refine aj.Step.skip eD ?_;generalize hW:World.setCell _ _ _=x1;have V4:At x1 Tp (.cells #[.int .i64 e0,.int .i64 e1] 95):=hW▸At.set (At.set Ap 0 _) 1 _;have hx1:Below w1.heap.size w1 x1:=by rw[<-hW];exact Below.setCell (Below.setCell hx gp _) gp _
 refine⟨λ_=>hx1,?_⟩
 (try simp only[bM,bN,bO,tks])
 refine gZ ?_
 exact⟨rfl,Tp,_,_,_,_,_,_,_,_,_,rfl,gp,V4,hx1⟩):P:=h
theorem Ze(h:P:=by
 obtain⟨it,ld,b,m0,m1,m2,m3⟩:=x;have hlt:B<w.heap.size:=World.block_lt_of_cell? _ _ h;go_enter Tryz.func191,Tryz.ntmps191
 go_upto_region 1 with(fail)
 have hB:Below w.heap.size w (w.alloc (.cells (lZ ⟨it,ld,b,m0,m1,m2,m3⟩) 232)):=Below.alloc' (Below.refl _ _) _;generalize hW:World.alloc _ _=W0;have A0:At W0 w.heap.size (.cells (lZ ⟨it,ld,b,m0,m1,m2,m3⟩) 232):=hW▸At.new _ _;replace hB:Below w.heap.size w W0:=hW▸hB;have lB:B<W0.heap.size:=aT hlt hB.size;have cB:=(Below.cell_ hB hlt 0).trans h;clear hW h hlt;obtain⟨l0,-, -, -, -, -, -, -, -, d0,d1,-, -, -, c1,c2,c3,c4⟩:=At.im A0;simp only at d0 d1 c1 c2 c3 c4
 exact Zy):P:=h
theorem Zf(h:P:=by
 refine aF 18 ?_;refine aF 19 ?_;refine aF 20 ?_;refine aF 21 ?_;refine aF 22 ?_;refine aF 23 ?_;refine gZ ?_;replace A0:=A0.keep hx;replace A1:=A1.keep hx;replace A2:=A2.keep hx;have hBx:Below w.heap.size w _:=Below.ay hB1 (aH _) hx;clear c0 lY xC xD zy zA zB zC l2 bS bX bY bZ cu cK bU bV c44 Kt hlk;have c3:=A2.lc;have c4:=A1.lc;have aaQ:=A1.thaw 0;have aaR:=A1.thaw 1;have lw:w.heap.size+1<w.heap.size+1+1:=by omega
 go_wp2;generalize hW:World.setCell _ _ _=W6;replace A1:At W6 (w.heap.size+1) (.cells #[.int .i64 (-1),.int .i64 (-1)] 95):=hW▸At.set (At.set A1 0 _) 1 _;have zm:Below w.heap.size w W6:=by
  rw[<-hW];exact Below.setCell (Below.setCell hBx (Nat.le_succ _) _) (Nat.le_succ _) _
 exact Z2c):P:=h
theorem Zg(h:P:=by
 cases Rc.out with
 | root h0 =>
   have h0':=h0;rw[HT.out]at h0;cases h0;have hup:nd.up = -1:=GH.out nd h0';refine⟨⟨.inr ⟨by rw[hup],hs.symm⟩,hB2⟩,?_⟩;show uj T nd.up<uj T 0;rw[hup,Oy hm,qO (Tr.Dp.root h0')];omega
 | step h1 h0 h2 =>
   have h1':=h1;rw[HT.out]at h1;cases h1;refine⟨⟨.inl ⟨nd.up,_,rfl,h2,hs⟩,hB2⟩,?_⟩;show uj T nd.up<uj T y;rw[qO h2,qO (Tr.Dp.step h1' h0 h2)]
   omega):P:=h
theorem Zh(h:P:=by
 refine rZ ?_
 (repeat (first|refine jc ?_ | refine jd ?_ (hc:=by intro w2 hS;first|with_reducible exact iq hS (eY _ _ _))|refine je ?_))
 refine aj.bD ?_;intro w2 hS;go_wp2
 go_ret
 exact⟨bA (by rw[<-E.out];(try simp only[uQ,qK]);(try rfl)),Below.ay hB (aH _) hS⟩):P:=h
theorem Zi(h:P:=by
 have hO:Out (Of3 mine bs bw) w w:=Out.refl _ _;go_enter Tryz.func171,Tryz.ntmps171
 go_wp2;refine wp_loop_rounds 5 ?_;rw[rounds_succ]
 go_wp2_with (go_at_call 170;(with_reducible refine(qP hA h hp aG rfl rfl).mono ?_);rintro e w1 ⟨rfl,h1,gJ⟩;replace hO:=hO.trans gJ;clear h gJ)
 rw[rounds_succ]
 go_wp2_with (go_at_call 170;(with_reducible refine(qP hA h1 hp aG rfl rfl).mono ?_);rintro e w2 ⟨rfl,h2,gJ⟩;replace hO:=hO.trans gJ;clear h1 gJ)
 rw[rounds_succ]
 go_wp2_with (go_at_call 170;(with_reducible refine(qP hA h2 hp aG rfl rfl).mono ?_);rintro e w3 ⟨rfl,h3,gJ⟩;replace hO:=hO.trans gJ;clear h2 gJ)
 rw[rounds_succ]
 go_wp2_with (go_at_call 170;(with_reducible refine(qP hA h3 hp aG rfl rfl).mono ?_);rintro e w4 ⟨rfl,h4,gJ⟩;replace hO:=hO.trans gJ;clear h3 gJ)
 rw[rounds_succ];go_wp2
 go_end0
 exact⟨rfl,h4,hO⟩):P:=h
theorem Zj(h:P:=by
 go_wp2_with (first|(go_at_call 138;with_reducible refine mI (zD _ _ _ _) ?_))
 go_meet
 case rel=>exact⟨by rw[HK.out],rfl⟩):P:=h
theorem Zk(h:P:=by
 (try simp only[bM,bN,bO,tks])
 refine tk1 3 ?_;refine aj.Step.call eD (Dc A (Fe.ws gr S n) _ c (Fe.free gr room S n) _ (hIw.after hx) hL ak) ?_;rintro e w4 ⟨⟨b,rfl,hbb,WB⟩,hb⟩;have hx3:=hx.size;replace hx:=Below.ay hx (aH _) hb;replace pI:=pI.keep hb;have hc9:w4.cell? ⟨B5,0,none⟩=some (.slice none 0 0):=pI.cell 0;have hz9:=pI.thaw 0;have hl9:=pI.lt;have hx4:=hx.size;clear hb;refine⟨_,rfl,λ_=>⟨(hV.keep hx).cell 0,(hB1.keep hx).cell 0⟩,?_⟩
 (try simp only[bM,bN,bO,tks])
 refine tk1 5 ?_;refine aj.Step.skip Z3v ?_;refine⟨by first|(intro hlt;exact absurd hlt aG)|(intro _;omega),?_⟩;(try simp only[Act.put]);refine gZ ?_
 exact⟨rfl,b,B5,rfl,by omega,by omega,pI.set 0 _,WB.off ak _,Below.setCell hx ak _⟩):P:=h
theorem Zl(h:P:=by
 have hO:Out (Of3 mine bs bw) w w:=Out.refl _ _;go_enter Tryz.func172,Tryz.ntmps172
 go_wp2;refine wp_loop_rounds 5 ?_;rw[rounds_succ]
 go_wp2_with (go_at_call 173;(with_reducible refine(yt hA h hp aG rfl).mono ?_);rintro e w1 ⟨rfl,h1,gJ⟩;replace hO:=hO.trans gJ;clear h gJ)
 rw[rounds_succ]
 go_wp2_with (go_at_call 173;(with_reducible refine(yt hA h1 hp aG rfl).mono ?_);rintro e w2 ⟨rfl,h2,gJ⟩;replace hO:=hO.trans gJ;clear h1 gJ)
 rw[rounds_succ]
 go_wp2_with (go_at_call 173;(with_reducible refine(yt hA h2 hp aG rfl).mono ?_);rintro e w3 ⟨rfl,h3,gJ⟩;replace hO:=hO.trans gJ;clear h2 gJ)
 rw[rounds_succ]
 go_wp2_with (go_at_call 173;(with_reducible refine(yt hA h3 hp aG rfl).mono ?_);rintro e w4 ⟨rfl,h4,gJ⟩;replace hO:=hO.trans gJ;clear h3 gJ)
 rw[rounds_succ];go_wp2
 go_end0
 exact⟨rfl,h4,hO⟩):P:=h
theorem Zm(h:P:=by
 clear eF hg1 hg0;refine rZ ?_
 (repeat (first|refine jc ?_ | refine jd ?_ (hc:=by intro w2 hS;first|with_reducible exact iq hS (jY _ _ _ _ _ _ _ _))|refine je ?_))
 refine aj.bD ?_;intro w2 hS;replace A0:=A0.keep hS;replace A2:=A2.keep hS;replace hB:=Below.ay hB (aH _) hS;clear c0 l2 bS bX bY bZ cu cK bU bV hS hfx;have c0:=A0.lc
 go_upto_region 5 with(fail)
 refine rZ ?_
 (repeat (first|refine jc ?_ | refine jd ?_ (hc:=by intro w2 hS;first|with_reducible exact iq hS (fI _ _ _ _ _ _ _ _ Z4c)|with_reducible exact iq hS (eY _ _ _))|refine je ?_))
 refine aj.bD ?_;intro w2 hS;go_wp2
 go_ret
 exact⟨bA (by rw[<-E.out];(try simp only[uQ,qK]);rfl),Below.ay hB (aH _) hS⟩):P:=h
theorem Zn(h:P:=by
 clear hW l2 d0 d1 d2 d3 d4 d5 d6 d7 z0 z1 z2 z3 z4 z5 z6 z7;obtain⟨l2,d0,d1,d2,d3,d4,d5,d6,d7⟩:=A9.eight
 refine bodyPost_ret (v:=.agg #[.int .i64 _,.int .i64 _,.int .i64 _,.int .i64 _,.int .i64 _,.int .i64 _,.int .i64 _,.int .i64 _]) (by simp[results,Tryz.results93,go_sem, *];first|done|exact⟨rfl,rfl⟩|exact⟨rfl,rfl,rfl,rfl,rfl,rfl,rfl,rfl⟩|rfl) rfl ⟨rfl,GI⟩):P:=h
theorem Zo(h:P:=by
 clear hfx;refine iC (S:=λX=>Below W5.heap.size W5 X) 15 ?_ ?_
 . exact hSd
 intro hx;clear hSd;refine aF 0 ?_;refine aF 1 ?_;refine aF 2 ?_;refine aF 3 ?_;refine aF 4 ?_;refine aF 5 ?_;refine aF 6 ?_;refine aF 7 ?_;refine jh 8 rfl (oJ (.tmp 38) aR rfl rfl (λX h=>BL.out.keep h)) ?_;refine aF 9 ?_;refine aF 10 ?_;refine aF 11 ?_;refine tk1 12 ?_;refine aj.Step.call Z42 (jY _ _ _ _ _ _ _ _) ?_;rintro e' w6 ⟨rfl,hb⟩;rw[V6.out];replace hx:=Below.ay hx (aH _) hb;clear hb;refine⟨_,rfl,λ_=>hx,?_⟩
 (try simp only[bM,bN,bO,tks])
 refine aF 13 ?_;refine aF 14 ?_;refine gZ ?_
 exact⟨rfl,_,_,_,_,_,_,_,_,_,_,_,_,_,_,_,rfl,S9,hx⟩):P:=h
theorem Zp(h:P:=by
 generalize hW:World.setCell _ _ _=W5;have A5:At W5 b (.cells (aX v m (k+1)) 3):=by rw[<-hW,<-jE _ hlt];exact A4.set k _
 have kr:Below w.heap.size w W5:=hW▸Below.setCell (Below.ay hB3 (aH _) hb4) (Nat.le_of_eq hsz) _;clear hW A4 A3 A2 hb4 KN zb4 cb4;go_wp2
 go_roundw
 case rel=>exact⟨k+1,by omega,by go_num,A5,kr⟩
 case measure=>simp[intOf];omega):P:=h
theorem Zq(h:P:=by
 rintro e w' ⟨rfl,h1,hO⟩;rw[sG,uR f t hb,<-Re.KP hb,<-yu]at h1
 exact⟨rfl,h1,hO⟩):P:=h
theorem Zr(h:P:=by
 refine tk1 19 ?_;have lT:=AT.lt;have cT0:=AT.cell 0;have cT1:=AT.cell 1;simp only[List.getElem?_toArray,List.getElem?_cons_zero,List.getElem?_cons_succ]at cT0 cT1;have zT0:=AT.thaw 0;have zT1:=AT.thaw 1;refine aj.Step.skip eD ?_;generalize hW:World.setCell _ _ _=qh;have AT2:At qh T (.cells #[.int .i64 x.ld.s0,.int .i64 hh] 95):=hW▸(AT.set 0 _).set 1 _;have hx2:Below w7.heap.size w7 qh:=hW▸Below.setCell (Below.setCell hx gT _) gT _;refine⟨λ_=>hx2,?_⟩
 (try simp only[bM,bN,bO,tks])
 refine gZ ?_
 exact⟨rfl,T,_,_,_,_,_,_,_,_,_,_,_,_,_,_,_,_,_,_,rfl,gT,AT2,hx2⟩):P:=h
theorem Zs(h:P:=by
 (try simp only[bM,bN,bO,tks])
 refine tk1 8 ?_;have lT:=AT.lt;have cT0:=AT.cell 0;have cT1:=AT.cell 1;simp only[List.getElem?_toArray,List.getElem?_cons_zero,List.getElem?_cons_succ]at cT0 cT1;have zT0:=AT.thaw 0;have zT1:=AT.thaw 1;refine aj.Step.skip eD ?_;generalize hW:World.setCell _ _ _=qh;have AT2:At qh U (.cells #[.int .i64 cs0,.int .i64 (-1)] 95):=hW▸(AT.set 0 _).set 1 _;have hx2:Below wr.heap.size wr qh:=hW▸Below.setCell (Below.setCell hx gT _) gT _;refine⟨λ_=>hx2,?_⟩
 (try simp only[bM,bN,bO,tks])
 refine gZ ?_
 exact⟨rfl,U,_,_,_,_,_,_,_,rfl,gT,AT2,hx2⟩):P:=h
theorem Zt(h:P:=by
 rw[hf]at d7;generalize Fe.left room S k=u at *;generalize (S k).x.b=v0 at *;generalize (S k).x.lo=v1 at *;generalize (S k).x.hi=v2 at *;generalize (S k).x.g=v3 at *;generalize (S k).x.s=v4 at *;generalize (S k).z=v5 at *;generalize (S k).m=v6 at *;go_wp2
 go_roundw
 case rel=>exact⟨k+1,by omega,by go_num,by rw[HL.out],by(repeat (first|exact Below.refl _ _ | assumption|refine Below.drew ?_ | refine Below.drewN ?_ _ | refine Below.alloc' ?_ _ | refine Below.setCell ?_ Z46 _ | refine Below.ay ?_ (aH _) (by assumption)))⟩
 case measure=>simp[intOf];omega):P:=h
theorem Zu(h:P:=by
 clear hW l6 c60 c61 c62 c63 z0 z1 z2 z3;obtain⟨l6,c60,c61,c62,c63⟩:=At.four A9
 refine bodyPost_ret (v:=.agg #[.int .i64 _,.int .i64 _,.int .i64 _,.int .i64 _]) (by simp[results,Tryz.results29,go_sem, *];first|done|exact⟨rfl,rfl⟩|exact⟨rfl,rfl,rfl,rfl⟩|rfl) rfl ⟨rfl,GI⟩):P:=h
theorem Zv(h:P:=by
 go_ret
 exact⟨rfl,rfl⟩):P:=h
theorem Zw(h:P:=by
 go_wp2;rw[rounds_succ];go_wp2;refine bodyPost_end (results_none rfl _ _ _) rfl ⟨rfl,?_,Out.trans' (Out.of_below hW1) hQ λb _ q=>q⟩;rw[show x0=Fw.zw s 0 r0 a0 from by rw[<-HX0.out];exact if_pos HP.out,show x1=Fw.zw s 1 r1 a1 from by rw[<-Ta.out];exact if_pos HP.out,Ww.out]
 exact AR):P:=h
theorem Zx(h:P:=by exact hy.of_same (execOp_put oi (λcs b=>hsel i oi cs b hi) a oj.dst u a3) (wanted_put oi a oj.dst u a3)):P:=h
theorem Zy(h:P:=by
 refine rZ ?_
 (repeat (first|refine jc ?_ | refine jd ?_ (hc:=by intro w2 hS;first|with_reducible exact iq hS (eY _ _ _))|refine je ?_))
 exact Z35):P:=h
theorem Zz(h:P:=by
 have IY:=ah hop;clear hop
 go_wp2_with ((go_at_call 144;(with_reducible refine(Df bz s (.slice A fl.length cp) va ib _ A2).mono ?_);rintro e w3 ⟨rfl,hb⟩;replace AM:=AM.keep hb;replace hB:=Below.ay hB (aH _) hb;replace A2:=At.keep A2 hb;replace nU:=((fO hb).1 _ _ l2).trans nU;replace l2:=aT l2 hb.size;clear hb;rw[IY.out]))
 refine bodyPost_ret (results_tmp rfl _ _ _) rfl ⟨⟨_,rfl,?_⟩,hB⟩;have hm:Fw.meet B 1 0 z=[Fw.mg s 1 1 (-1)]:=by
  simp only[Fw.meet,hs]
 rw[hm]
 exact pQ AM hgm):P:=h
theorem Z10(h:P:=by
 have IY:=ah hop;clear hop
 go_wp2_with ((go_at_call 144;(with_reducible refine(Dh bz s (.slice A fl.length cp) va ib _ A2).mono ?_);rintro e w3 ⟨rfl,hb⟩;replace AM:=AM.keep hb;replace hB:=Below.ay hB (aH _) hb;replace A2:=At.keep A2 hb;replace nU:=((fO hb).1 _ _ l2).trans nU;replace l2:=aT l2 hb.size;clear hb;rw[IY.out]))
 refine bodyPost_ret (results_tmp rfl _ _ _) rfl ⟨⟨_,rfl,?_⟩,hB⟩;have hm:Fw.meet B 0 0 z=[Fw.mg s 1 0 (-1)]:=by
  simp only[Fw.meet,hs]
 rw[hm]
 exact pQ AM hgm):P:=h
theorem Z11(h:P:=by
 refine yw 9 1 ?_ (h0:=by first|assumption|exact Below.refl _ _)
 (repeat (first|refine jc ?_ | refine jd ?_ (hc:=by intro w2 hS;first|with_reducible exact zn hS (Rf _ _ _)|with_reducible exact zn hS (Rh _ _ _))|refine je ?_))
 refine aj.bL ?_;intro w2 hS;obtain⟨hc,hf⟩:=fO hS;refine wz ?_;intro K hK;go_simp;refine hK _ _ (aj.bC ?_);clear hK K;go_wp2;refine bodyPost_ret (by simp[results,Tryz.results18,go_sem, *];first|done|exact⟨rfl,rfl⟩|rfl) rfl ⟨qQ rfl rfl rfl rfl,?_⟩
 exact Z0):P:=h
theorem Z12(h:P:=by
 go_wp2
 go_ret
 refine⟨dF (by unfold Fw.opn;rw[show Fw.sd 1 1=2 from rfl];simp[*]),hB⟩):P:=h
theorem Z13(h:P:=by
 intro l i W G hi hG
 (simp only[List.setIfInBounds_toArray,List.set_cons_zero,List.set_cons_succ]at hG)
 gi_wp2
 first|exact hG|simpa using hG):P:=h
theorem Z14(h:P:=by
 clear e1;go_wp2
 go_meet
 case rel=>exact⟨by rw[E1.out],Below.refl _ _⟩):P:=h
theorem Z15(h:P:=by
 refine bodyPost_end (results_none rfl _ _ _) rfl ⟨rfl,⟨?_,?_,?_⟩,?_⟩
 . rw[yu,HX.out]
   exact hA.set _ _ _ _ _ h2.i hp.nb
 . have:=a2.set k (.bool (f k (Re.num t k)==1))
   rw[IZ f t HB.out,<-HY.out]at this;exact this
 . rw[<-HY.out]
   exact h2.w.off (Ne.symm hp.ne) _ _
 . refine Out.set ?_ (.inr (.inl rfl)) _ _
   exact Out.trans' (Out.of_below (Below.alloc' (Below.refl _ _) _)) hO2 λb hb q=>q.elim .inl λq=>q.elim (λq=>absurd q (dX hb)) λq => .inr (.inr q)):P:=h
theorem Z16(h:P:=by
 go_enter Tryz.func76,Tryz.ntmps76
 go_wp2_with (go_at_call 79;first|((with_reducible refine key.mono ?_);rintro e w' ⟨rfl,rfl⟩)|((with_reducible refine ql.mono ?_);rintro e w' ⟨rfl,rfl⟩))
 go_ret
 exact⟨rfl,_,HD.out,DG.refl _ _ _ _ _⟩):P:=h
theorem Z17(h:P:=by
 go_enter Tryz.func75,Tryz.ntmps75
 go_wp2_with (go_at_call 59;first|((with_reducible refine key.mono ?_);rintro e w' ⟨rfl,rfl⟩)|((with_reducible refine ql.mono ?_);rintro e w' ⟨rfl,rfl⟩))
 go_ret
 exact⟨rfl,L,HR.out,Grow.refl _ _ _ _⟩):P:=h
theorem Z18(h:P:=by
 obtain rfl:k=m:=by omega
 have hI:=hF.items A1;have key:=Oz (some ⟨b,0,none⟩) it k k (oK r ex k) wr hI hl;obtain⟨lf,hlf⟩:∃lf,oK r ex k=lf:=⟨_,rfl⟩;rw[hlf]at key ⊢;have HLF:=ah hlf;clear hI hF hcs A1 hlf
 go_wp2_with (go_at_call 214;(with_reducible refine key.mono ?_);rintro e w5 ⟨⟨b5,rfl,aiB,hI5⟩,hb5⟩)
 go_ret
 exact⟨⟨b5,rfl,aJ hB.size aiB,HLF.out.symm▸hI5⟩,hB.trans (hb5.mono hB.size)⟩):P:=h
theorem Z19(h:P:=by
 go_enter Tryz.func121,Tryz.ntmps121
 go_wp2_with (first|(go_at_call 48;with_reducible refine mI (eu _ _) ?_)|(go_at_call 159;(with_reducible refine(jD _ _ _ _).mono ?_);rintro e w' ⟨rfl,hb⟩;(try replace hb:=Below.after (by assumption) hb);obtain⟨hc,hf⟩:=fO hb;have hz:=hb.size;(try simp at hz))|(go_at_call 160;with_reducible refine mI (WC _ _ _) ?_))
 all_goals go_ret
 all_goals
  refine⟨bA Hr.out.symm,?_⟩
  exact Z0):P:=h
theorem Z1a(h:P:=by
 unfold execOp
 simp only[ho,resolve,invoke,builtin,Sem.run_bind,Sem.run_pure,Result.andThen_ok,List.map_toArray,List.map_cons,List.map_nil,hs,hx,hrun]):P:=h
theorem Z1b(h:P:=by
 go_enter Tryz.func156,Tryz.ntmps156
 go_wp2_with (first|(go_at_call 52;with_reducible refine mI (kD _ _ _) ?_)|(go_at_call 194;with_reducible refine mI (Ri _ _ _) ?_))
 go_ret
 exact⟨bA Hr.out.symm,rfl⟩):P:=h
theorem Z1c(h:P:=by
 refine bodyPost_ret (v:=.agg #[.int .i64 _,.int .i64 _,.int .i64 _,.int .i64 _]) (by simp[results,Tryz.results89,go_sem, *];first|done|exact⟨rfl,rfl⟩|exact⟨rfl,rfl,rfl,rfl⟩|rfl) rfl ⟨qQ Z4h Z4h Z4h Z4h,?_⟩
 exact Z0):P:=h
theorem Z1d(h:P:=by
 have GI:Below w.heap.size w W2:=by
  rw[<-hW];exact Below.setCell (Below.setCell (Below.setCell (Below.setCell (Below.setCell (Below.setCell (Below.setCell (Below.setCell kr (Nat.le_add_right _ 2) _) (Nat.le_add_right _ 2) _) (Nat.le_add_right _ 2) _) (Nat.le_add_right _ 2) _) (Nat.le_add_right _ 2) _) (Nat.le_add_right _ 2) _) (Nat.le_add_right _ 2) _) (Nat.le_add_right _ 2) _
 exact Zn):P:=h
theorem Z1e(h:P:=by
 go_enter Tryz.func75,Tryz.ntmps75
 go_wp2_with (first|(go_at_call 59;first|((with_reducible refine key.mono ?_);rintro e w' ⟨rfl,rfl⟩)|((with_reducible refine ql.mono ?_);rintro e w' ⟨rfl,rfl⟩))|(go_at_call 105;(with_reducible refine xE.mono ?_);rintro e w1 ⟨rfl,hb1⟩))
 exact Z2r):P:=h
theorem Z1f(h:P:=by
 have h1:=mH (cs:=cs') (vs:=dV ly) (q:=q+k*17+5) (j:=0) Z4i (by rw[dB];omega);rw[Nat.add_zero]at h1;rw[nN.cell,h1,<-KQ]
 rfl):P:=h
theorem Z1g(h:P:=by
 go_wp2
 go_ret
 refine⟨dF (by unfold Fw.opn;rw[show Fw.sd 1 0=0 from rfl];simp[*]),hB⟩):P:=h
theorem Z1h(h:P:=by
 go_enter Tryz.func34,Tryz.ntmps34
 go_wp2_with (go_at_call 59;(with_reducible refine key.mono ?_);rintro e w' ⟨rfl,rfl⟩)
 go_ret2
 exact⟨rfl,L,n,HR.out,by omega,Grow.refl _ _ _ _⟩):P:=h
theorem Z1i(h:P:=by
 have hs:(T (k':Int)).isSome=true:=by
  cases e:T (k':Int)with
  | none=>exact absurd e (HK.out.2.2 _ ak ak)
  | some _=>rfl
 rw[hs]at BK
 go_wp2_with (go_at_call 79;(with_reducible refine BK.mono ?_);rintro e w' ⟨rfl,rfl⟩)
 go_roundw
 case rel=>exact⟨k'+1,by omega,by go_num,trivial⟩
 case measure=>simp[intOf];omega):P:=h
theorem Z1j(h:P:=by
 simp only[List.setIfInBounds_toArray,List.set_cons_zero,List.set_cons_succ]at hG
 gi_wp2
 first|exact hG|simpa using hG):P:=h
theorem Z1k(h:P:=by
 intro q hq;by_cases hqi:q=i
 . subst hqi
   have hun:=(mem_ready.1 (show q∈Region.ready md ops listed by simpa using hr)).1;have hlt:q<listed.size:=by
    rcases Nat.lt_or_ge q listed.size with h'|h'
    . exact h'
    . simp[Array.getElem?_eq_none h']at hun
   simp[hlt]
 . rw[getD_set_ne true (Ne.symm hqi)];exact hl q ak):P:=h
theorem Z1l(h:P:=by
 go_enter Tryz.func78,Tryz.ntmps78
 go_wp2_with (go_at_call 79;(with_reducible refine key.mono ?_);rintro e w' ⟨rfl,rfl⟩)
 go_ret2
 exact⟨rfl,HD.out,DG.refl _ _ _ _ _⟩):P:=h
theorem Z1m(h:P:=by
 clear hW l6 c60 c61 c62 c63 z0 z1 z2 z3 l7 c70 nU c72 c73;obtain⟨l6,c60,c61,c62,c63⟩:=At.four A9
 refine bodyPost_ret (v:=.agg #[.int .i64 _,.int .i64 _,.int .i64 _,.int .i64 _]) (by simp[results,Tryz.results65,go_sem, *];first|done|exact⟨rfl,rfl⟩|exact⟨rfl,rfl,rfl,rfl⟩|rfl) rfl ⟨rfl,GI⟩):P:=h
theorem Z1n(h:P:=by
 subst his;refine⟨so,hso,.inr ⟨rfl,rfl,λv=>⟨λq hq=>xF (λ_=>Di hr) (λhne=>hl q hq aW hne),v,rfl,λw hN => ?_⟩⟩⟩;have:=uS (P:=P) (Q:=Q) tail m (listed.setIfInBounds i true) (a.put so.dst v) w htail (by rw[htl];exact hf) (h v w hN)
 rw[htl]at this;exact this):P:=h
theorem Z1o(h:P:=by
 go_wp2_with (first|(go_at_call 138;with_reducible refine mI (zD _ _ _ _) ?_))
 go_ret
 exact⟨dF (by rw[HV.out];rfl),by rw[aaS.out];exact HE.out⟩):P:=h
theorem Z1p(h:P:=by
 by_cases e:y=kl
 . subst e
   rw[iU];exact⟨λz=>by rw[Maps.atKey_put_same h1.isMap (K.key hkey)];rfl,by rw[Maps.has_put_same h1.isMap (K.key hkey)];rfl⟩
 . rw[jZ e]
   exact⟨λz=>by rw[Maps.atKey_put_other e];exact(h3 y hy).1 z,by rw[Maps.has_put_other e];exact(h3 y hy).2⟩):P:=h
theorem Z1q(h:P:=by
 have e:((l.take k).mapIdx g).length=k:=by simp;omega
 have e2:(l.take k).length=k:=by simp;omega
 rw[List.set_append,if_neg ak,e,Nat.sub_self,List.drop_eq_getElem_cons hk,List.set_cons_zero,List.take_succ_eq_append_getElem hk,List.mapIdx_concat,e2,List.append_assoc]
 rfl):P:=h
theorem Z1r(h:P:=by
 (try simp only[bM,bN,bO,tks])
 refine tk1 7 ?_;refine aj.Step.call eD (aaT _ hx) ?_;rintro e zl ⟨rfl,hb⟩;replace Ap:=Ap.keep hb;replace hx:=Below.ay hx (aH _) hb;clear hb;refine⟨_,rfl,λ_=>hx,?_⟩
 (try simp only[bM,bN,bO,tks])
 refine aF 8 ?_
 exact Zd):P:=h
theorem Z1s(h:P:=by
 show ks.length-(intOf (.int .i64 (wrap64 ((k:Int)+1)))).toNat<ks.length-(intOf (.int .i64 (k:Int))).toNat
 rw[hwk];exact uT Db.out):P:=h
theorem Z1t(h:P:=by
 go_wp2_with (go_at_call 59;(with_reducible refine key.mono ?_);rintro e w' ⟨rfl,rfl⟩)
 exact Zv):P:=h
theorem Z1u(h:P:=by
 obtain⟨l1,d0,d1,d2,d3⟩:=At.four A9
 refine bodyPost_ret (v:=.agg #[.int .i64 _,.int .i64 _,.int .i64 _,.int .i64 _]) (by simp[results,Tryz.results128,go_sem, *];first|done|exact⟨rfl,rfl⟩|exact⟨rfl,rfl,rfl,rfl⟩|rfl) rfl ⟨rfl,GI⟩):P:=h
theorem Z1v(h:P:=by
 go_wp2
 go_roundw
 case rel=>exact⟨k+1,by omega,by go_num,ah (HS.out.trans HV.out),trivial⟩
 case measure=>simp[intOf];omega):P:=h
theorem Z1w(h:P:=by
 have k:=adD hK z i0 i1 hz (by rw[GJ.out];exact λk hk=>(HDN.out k hk).1) (by rw[GJ.out,HM.out];omega) w3 FQ;rw[GJ.out,HM.out,<-HX0.out]at k
 exact k.mono λe w' ⟨⟨R,cs,h1,h2,h3,h4,h5⟩,h6⟩=>⟨⟨R,0,cs,h1,h2,h3,h4⟩,h6⟩):P:=h
theorem Z1x(h:P:=by
 go_wp2_with (go_at_call 148;(with_reducible refine key2.mono ?_);rintro e' w4 ⟨⟨b,rfl,gb,hT⟩,hb4⟩)
 go_ret
 exact⟨⟨b,rfl,aJ hsz gb,by rw[<-eF.out];exact fP _ _ KR hT⟩,HB1.out.trans (hb4.mono hsz)⟩):P:=h
theorem Z1y(h:P:=by
 go_ret
 refine⟨rfl,?_⟩
 exact Z0):P:=h
theorem Z1z(h:P:=by rw[Array.setIfInBounds_comm _ _ hji,<-Act.put_comm a v u a2];exact hn):P:=h
theorem Z20(h:P:=by rcases(by omega:j=0\/j=1\/j=2\/j=3\/j=4\/j=5\/j=6)with rfl|rfl|rfl|rfl|rfl|rfl|rfl<;>rfl):P:=h
theorem Z21(h:P:=by
 rw[<-hW]
 exact Out.set (M:=λb=>b=w.heap.size+1) (Out.set (M:=λb=>b=w.heap.size+1) (Out.refl _ _) rfl 0 _) rfl 1 _):P:=h
theorem Z22(h:P:=by
 have hlen:os.length=t:=by rw[<-hd,List.length_drop,hm];omega
 refine⟨λq hq=>hl q ak,λw hS => ?_⟩;have:=uS (P:=P) (Q:=Q) os i listed a w hd (by rw[hlen];simpa only[jV]using hk) (h w hS)
 rw[hlen]at this;exact this):P:=h
theorem Z23(h:P:=by exact K1.out _ (Below.drew (Below.refl _ _))):P:=h
theorem Z24(h:P:=by
 (try simp only[bM,bN,bO,tks])
 refine tk1 9 ?_;refine aj.Step.call eD (kM2 _) ?_;rintro e zl ⟨rfl,hb⟩;replace Ap:=Ap.keep hb;replace hx:=Below.ay hx (aH _) hb;clear hb;refine⟨_,rfl,λ_=>HC _ hx,?_⟩
 exact Za):P:=h
theorem Z25(h:P:=by
 go_wp2_with (first|(go_at_call 96;with_reducible refine mI (KT (by first|assumption|exact HR.out)) ?_))
 exact Zv):P:=h
theorem Z26(h:P:=by
 go_wp2
 go_ret
 exact⟨dF (by rw[HV.out]),by rw[aaS.out];exact HBW.out⟩):P:=h
theorem Z27(h:P:=by
 rcases hb with e|e|⟨z,zd,hz,e⟩
 . exact .inl e
 . exact .inr (.inl e)
 . by_cases e2:z=i
   . subst e2;exact .inr (.inr ⟨_,nd,hn,e⟩)
   . rw[Tr.aK _ _ e2]at hz;exact .inr (.inr ⟨z,zd,hz,e⟩)):P:=h
theorem Z28(h:P:=by
 rcases hb with e|e|⟨y,yd,hy,e⟩
 . exact .inl e
 . exact .inr (.inl e)
 . by_cases e2:y=z
   . subst e2;exact .inr (.inr ⟨y,nd,hz,e⟩)
   . rw[Tr.aK _ _ e2]at hy;exact .inr (.inr ⟨y,yd,hy,e⟩)):P:=h
theorem Z29(h:P:=by
 cases e:T (-1)with
 | none=>rfl
 | some nd=>have:=(h.small _ nd e).1;omega):P:=h
theorem Z2a(h:P:=by simp only[List.map_append,List.sum_append,List.map_cons,List.map_nil,List.sum_cons,List.sum_nil,Nat.add_zero]):P:=h
theorem Z2b(h:P:=by
 have h1:=HR.out.after hB;have key:=eZ h1 (z := -1) Z4e;rw[hm]at key;clear h1
 go_wp2_with (go_at_call 59;(with_reducible refine key.mono ?_);rintro e w' ⟨rfl,rfl⟩)
 go_ret
 exact⟨rfl,hB⟩):P:=h
theorem Z2c(h:P:=by
 clear hW c4 aaQ aaR;have c4:=A1.lc
 refine bodyPost_ret (v:=.agg #[.int .i64 _,.int .i64 _]) (by simp[results,Tryz.results151,go_sem, *];first|done|exact⟨rfl,rfl⟩|rfl) rfl ⟨by rw[<-E.out],zm⟩):P:=h
theorem Z2d(h:P:=by
 try simp only[Exit.jump]
 refine bodyPost_ret (v:=.slice (some ⟨b,0,none⟩) n n) (by simp[results,Tryz.results214,go_sem, *];first|done|exact⟨rfl,rfl⟩|rfl) rfl ⟨⟨b,rfl,by omega,WB⟩,hB⟩):P:=h
theorem Z2e(h:P:=by
 exfalso;obtain⟨hun,oj,ho,_⟩:=mem_ready.1 hj;by_cases hjm:j<m
 . have:=H.1 j hjm
   rw[getD_set_ne true (Ne.symm hji),hun]at this;cases this
 . exact jF hr hj ho (oL ht ho ak him)):P:=h
theorem Z2f(h:P:=by
 exfalso;obtain⟨hun,oj,ho,_⟩:=mem_ready.1 hj;by_cases hjm:j<m
 . have:=H.1 j hjm
   rw[getD_set_ne true (Ne.symm hji),hun]at this;cases this
 . exact GK ht hcl hr hj ho ak him (Ne.symm hji)):P:=h
theorem Z2g(h:P:=by
 cases Rc.out with
 | root h0=>rw[GH.out nd hT];exact .inr ⟨rfl,by rw[hk];congr 1;omega⟩
 | step h1 h0 h2 =>
   rw[hT]at h1;cases h1
   exact .inl ⟨nd.up,_,k+1,rfl,rfl,by omega,by omega,h2⟩):P:=h
theorem Z2h(h:P:=by
 by_cases e:y=z
 . subst e;rw[Tr.aP]at hy;cases hy
   simp only[if_true];exact hb.out hbm hO
 . rw[Tr.aK _ _ e]at hy
   simp only[if_neg e]
   exact(h.box y yd hy).out (λq=>h.GL hy q) hO):P:=h
theorem Z2i(h:P:=by
 by_cases hv0:v.ownBlock=none
 . exact .inl hv0
 . refine .inr (.inr ?_)
   rcases hblk with h|h
   . rw[h]
     exact hvb.resolve_left hv0
   . rw[h]
     intro e;have:=(hv.lt _ e).2;simp at this
     omega):P:=h
theorem Z2j(h:P:=by
 have h1:=gX (cs:=cs') (vs:=dV ly) (q:=q+k*17+5) (k:=q+k*17+12) Z4i (.inr (by rw[dB];omega));rw[nN.cell,h1,<-mJ.cell]
 exact GN):P:=h
theorem Z2k(h:P:=by
 have e:l.toArray.size=tail.length+(L.length+1):=by simpa using hn
 have e2:Array.replicate (tail.length+(L.length+1)) false=Array.replicate l.length false:=by rw[hn]
 rw[e,e2];exact h1):P:=h
theorem Z2l(h:P:=by
 unfold wpList;rw[if_pos hw];refine .inl ?_;unfold Oper.wp;rw[hrun]
 exact h):P:=h
theorem Z2m(h:P:=by rcases(by omega:j=0\/j=1\/j=2\/j=3\/j=4)with rfl|rfl|rfl|rfl|rfl<;>rfl):P:=h
theorem Z2n(h:P:=by
 go_enter Tryz.func73,Tryz.ntmps73
 go_wp2_with (go_at_call 59;(with_reducible refine key.mono ?_);rintro e w' ⟨rfl,rfl⟩)
 go_ret2
 exact⟨rfl,L,n,HR.out,aH _,Grow.refl _ _ _ _⟩):P:=h
theorem Z2o(h:P:=by
 rw[Tr.aK _ _ e2]at hy;simp only[if_neg e2]at e
 exact .inl (.inr (.inr ⟨y,yd,hy,e⟩))):P:=h
theorem Z2p(h:P:=by
 have E:Hid (Fw.wr (q0+m0)=ans):=ah (by rw[<-eF.out,hg0];simp);clear eF hg0;go_wp2
 go_ret
 exact⟨bA (by rw[<-E.out];(try simp only[uQ,qK]);(try rfl)),hB⟩):P:=h
theorem Z2q(h:P:=by
 by_cases e:y=z
 . subst e;rw[Tr.aP]at hy;cases hy
   exact(h.row y nd hz).out (h.OA hz hz) hO
 . rw[Tr.aK _ _ e]at hy
   exact(h.row y yd hy).out (h.OA hy hz) hO):P:=h
theorem Z2r(h:P:=by
 go_ret
 exact⟨rfl,L,⟨HR.out.rep.after hb1,HR.out.wf,HR.out.num⟩,Grow.of_below hb1⟩):P:=h
theorem Z2s(h:P:=by unfold GQ;rw[Array.setIfInBounds_append_right Z4j,bI];rfl):P:=h
theorem Z2t(h:P:=by
 go_enter Tryz.func74,Tryz.ntmps74
 go_wp2_with (go_at_call 79;(with_reducible refine key.mono ?_);rintro e w' ⟨rfl,rfl⟩)
 go_ret2
 exact⟨rfl,_,HD.out,DG.refl _ _ _ _ _⟩):P:=h
theorem Z2u(h:P:=by
 obtain rfl:k=m:=by omega
 go_wp2
 go_ret
 exact⟨⟨b,rfl,Nat.le_of_eq hsz,A1⟩,hB⟩):P:=h
theorem Z2v(h:P:=by
 go_enter Tryz.func102,Tryz.ntmps102
 go_wp2_with (at_builtin;refine wpList_append_run aR _ _ 37 rfl rfl rfl zF.out ?_)
 go_ret
 exact⟨v',rfl,hQ.out,hO.out,HL.out⟩):P:=h
theorem Z2w(h:P:=by
 show Value.int .i64 (wrap64 ((k:Int)+1))=.int .i64 ((k+1:Nat):Int)
 rw[hwk];rfl):P:=h
theorem Z2x(h:P:=by
 go_enter Tryz.func138,Tryz.ntmps138
 go_wp2
 go_ret
 exact⟨dF HIN.out.symm,rfl⟩):P:=h
theorem Z2y(h:P:=by
 rw[<-hW]
 exact Below.setCell (Below.setCell (Below.setCell (Below.setCell hB4 (aH _) _) (aH _) _) (aH _) _) (aH _) _):P:=h
theorem Z2z(h:P:=by
 by_cases e:y=z
 . subst e;rw[Tr.aP,hz];rfl
 . rw[Tr.aK _ _ e]):P:=h
theorem Z30(h:P:=by
 have e:=At.new (w.alloc (.deferred (some []))) (.loop (L .ready none));rw[World.size_alloc]at e
 exact⟨e,(At.new w (.deferred (some []))).alloc _⟩):P:=h
theorem Z31(h:P:=by
 go_wp2
 all_goals
  go_ret
  refine⟨dF (by unfold Fx.valid;rw[if_neg ak,if_neg ak,if_pos rfl];simp[*]<;>omega),?_⟩
  exact Z0):P:=h
theorem Z32(h:P:=by
 rcases k with k|⟨⟨a0,_⟩,b0,_⟩
 . exact .inl k
 . exact .inr ⟨⟨a0,Int.le_refl _,Int.le_refl _⟩,b0,Int.le_refl _,Int.le_refl _⟩):P:=h
theorem Z33(h:P:=by
 by_cases e:y=z
 . subst e;simp[Tr.aP,hz]
 . rw[Tr.aK _ _ e]):P:=h
theorem Z34(h:P:=by
 rcases ha with h|h|h
 . exact .inl h
 . by_cases hv0:v.ownBlock=none
   . exact .inl hv0
   . exact .inr (by rw[h];exact hv0)
 . exact .inr h):P:=h
theorem Z35(h:P:=by
 refine aj.bD ?_;intro w2 hS;go_wp2
 go_ret
 exact⟨bA (by(try simp only[uQ,qK]);rfl),Below.ay hB (aH _) hS⟩):P:=h
theorem Z36(h:P:=by
 rw[hz1,Int.toNat_natCast]at hrun
 exact⟨_,hrun,size_madeCells _ _⟩):P:=h
theorem Z37(h:P:=by
 go_enter Tryz.func157,Tryz.ntmps157
 go_wp2
 exact Z1y):P:=h
theorem Z38(h:P:=by rw[Tr.aK _ _ e]at hy;exact h.small y yd hy):P:=h
theorem Z39(h:P:=by
 go_enter Tryz.func106,Tryz.ntmps106
 go_wp2_with (go_at_call 21;(with_reducible refine key.mono ?_);rintro e w' ⟨rfl,rfl⟩)
 exact Zv):P:=h
theorem Z3a(h:P:=by
 have E1:=ah e1
 exact Z14):P:=h
theorem ak(h:P:=by omega):P:=h
theorem qm(h:P:=by first|exact .inr ⟨by rfl,rfl⟩|exact .inl ⟨by rfl,by intro w2 hS;have hc:=wC hS;go_simp;first|done|with_reducible rfl|exact⟨rfl,rfl⟩⟩):P:=h
theorem qN(h:P:=by first|exact hB|exact Below.alloc' hB _ | exact Below.alloc' (Below.alloc' hB _) _):P:=h
theorem aG(h:P:=by decide):P:=h
theorem sH(h:P:=by first|exact A1|exact At.alloc A1 _ | exact At.alloc (At.alloc A1 _) _):P:=h
theorem aV(h:P:=by kernel_rfl):P:=h
theorem uh(h:P:=by first|exact A2|exact At.alloc A2 _ | exact At.alloc (At.alloc A2 _) _):P:=h
theorem oC(h:P:=by first|assumption|(with_reducible exact At.new _ _)):P:=h
theorem uL(h:P:=by first|exact A0|exact At.alloc A0 _ | exact At.alloc (At.alloc A0 _) _):P:=h
theorem zG(h:P:=by first|exact A3|exact At.alloc A3 _ | exact At.alloc (At.alloc A3 _) _):P:=h
theorem Ku(h:P:=by first|done|rfl|simp):P:=h
theorem aW(h:P:=by simp):P:=h
theorem aR(h:P:=by rfl):P:=h
theorem iJ(h:P:=by simp;omega):P:=h
theorem Z3p(h:P:=by intro w2 hS;obtain⟨hc,hf⟩:=fO hS;go_simp;first|done|with_reducible rfl|exact⟨rfl,rfl⟩):P:=h
theorem WE(h:P:=by((rw[<-hW])<;>exact At.alloc (At.alloc (At.new' _ Ku) _) _)):P:=h
theorem Tc(h:P:=by((rw[<-hW])<;>exact At.alloc (At.new' _ Ku) _)):P:=h
theorem Wy(h:P:=by simp only[List.map_toArray,List.map_cons,List.map_nil];rfl):P:=h
theorem Td(h:P:=by((rw[<-hW])<;>exact At.new' _ Ku)):P:=h
theorem Z3u(h:P:=by intro q hq hn;unfold KV;(repeat' split)<;>first|rfl|omega):P:=h
theorem Z3v(h:P:=by go_simp;first|done|with_reducible rfl|exact⟨rfl,rfl⟩):P:=h
theorem Z3w(h:P:=by((rw[<-hW])<;>exact Below.alloc' (Below.alloc' (Below.alloc' (Below.refl _ _) _) _) _)):P:=h
theorem Z3x(h:P:=by first|exact A4|exact At.alloc A4 _ | exact At.alloc (At.alloc A4 _) _):P:=h
theorem Oi(h:P:=by simp only[maxLen];omega):P:=h
theorem Kv(h:P:=by simp[Value.oneCell']):P:=h
theorem Z40(h:P:=by rw[bJ _ hk hb,OB f t (aH k)]):P:=h
theorem KR(h:P:=by unfold maxLen;omega):P:=h
theorem Z42(h:P:=by go_simp;first|done|with_reducible rfl|exact⟨⟨⟨rfl,rfl,rfl,rfl,rfl,rfl⟩,rfl⟩,rfl⟩):P:=h
theorem Z43(h:P:=by((rw[<-hW])<;>exact At.alloc (At.alloc (At.alloc (At.new' _ Ku) _) _) _)):P:=h
theorem V7(h:P:=by rw[HN.out];exact hlt):P:=h
theorem Z45(h:P:=by rw[hA2.cell,mK x ak];rfl):P:=h
theorem Z46(h:P:=by first|(simp;done)|(simp;omega)):P:=h
theorem Z47(h:P:=by((rw[<-hW])<;>exact Below.alloc' (Below.alloc' (Below.alloc' (Below.alloc' (Below.refl _ _) _) _) _) _)):P:=h
theorem Te(h:P:=by rw[hz2];omega):P:=h
theorem Z49(h:P:=by rw[sG];exact hk):P:=h
theorem Z4a(h:P:=by rw[HM.out];exact hlt):P:=h
theorem Z4b(h:P:=by simp[results,Tryz.results83,go_sem, *];first|done|exact⟨rfl,rfl⟩|rfl):P:=h
theorem Z4c(h:P:=by first|assumption|exact aL.keep (by assumption) hS):P:=h
theorem Z4d(h:P:=by rw[HS.out,<-Bool.and_assoc,<-HF.out];rfl):P:=h
theorem Z4e(h:P:=by rw[iQ];omega):P:=h
theorem Z4f(h:P:=by rw[HL.out];omega):P:=h
theorem Z4g(h:P:=by first|exact hB0.size|exact aH _):P:=h
theorem Z4h(h:P:=by unfold Fx.Tf;rw[HE.out,HE'.out];rfl):P:=h
theorem Z4i(h:P:=by rw[dB];exact OC.out):P:=h
theorem Z4j(h:P:=by rw[bI];omega):P:=h
theorem Z4k(h:P:=by rw[<-eF.out,HG.out,hg1];simp):P:=h
theorem Z4l(h:P:=by simp[Fence.wide]at hd):P:=h
theorem Z4m(h:P:=by with_reducible exact At.new _ _):P:=h
theorem Z4n(h:P:=by unfold Fx.WG;rw[HE.out];rfl):P:=h
end Go.Proofs.YtdnggaapcgomhaaGreat
