/- Short names for steps that come often in the proofs about the program's boxes. -/
import Derived.ArgAppend
import Derived.Below
import Derived.BigQuiet
import Derived.BigRegion
import Derived.ChangeOld
import Derived.ChangeSame
import Derived.Deep.Cut
import Derived.Deep.CutRange
import Derived.Deep.MidRow
import Derived.Deep.OwnRows
import Derived.Deep.QuietTactic
import Derived.Deep.RegionWith
import Derived.Deep.Slices
import Derived.DeepKeys
import Derived.DeepKeys3
import Derived.DeepKeys4
import Derived.Laws.CopyOwn
import Derived.Laws.EntriesVeiled
import Derived.Laws.Externs
import Derived.Laws.IdiomArrays
import Derived.Laws.IdiomCopy
import Derived.Laws.StructEq
import Derived.Lib.AppendZerosOnto
import Derived.Lib.Hide
import Derived.Lib.MinMax
import Derived.Lib.Overlaps
import Derived.Lib.SliceRun
import Derived.Lib.SmallJoins
import Derived.LoopIn
import Derived.LoopNIn
import Derived.Maps.AppendAt
import Derived.Maps.OwnIn
import Derived.Maps.OwnSet
import Derived.Maps.RangeWalk
import Derived.OpenShut
import Derived.Orders
import Derived.OwnWalkIn
import Derived.ProofKit
import Derived.RangeFuncBox
import Derived.RangeFuncCalls
import Derived.RangeFuncLeaves
import Derived.ScopeJumps
import Derived.Shelf.Abstract
import Derived.ShutString
import Derived.Sort.CutIn
import Derived.TacticsInMore
import Derived.WalkKit
import Derived.WalkLawsBesides
import Derived.WalkMore
set_option linter.unusedVariables false
set_option linter.unusedSimpArgs false
set_option linter.unusedSectionVars false
set_option maxRecDepth 100000
open Go Go.ChangeShapes Go.WideShapes Go.ChangeAt Go.RowKit
namespace Go.Proofs.YteggipnplbkijaaGreat
theorem Z0 {P:Prop} (h:P:=by
 (try simp only [tkp,tka,tkz,tks])
 refine tkB 5 ?_
 refine tk1 6 ?_
 refine Drawn.Step.value (u:= .pointer (some ⟨w14.heap.size,0,none⟩)) (w':=w14.alloc (.cells #[.int .i64 ww,.int .i64 wh,.map (some mb),.map (some mk),.map (some mp),.map (some mr)] 100)) tkL ?_
 refine ⟨fun _=>Below.alloc' hx _,?_⟩
 (try simp only [tkp,tka,tkz,tks])
 refine tk1 7 ?_
 refine tkV ?_ (hS:=by first | (intro hlt;exact absurd hlt Z3i) | (intro _;exact Below.alloc' hx _))
 refine tkE ?_
 have hxs:=hx.size
 have hb9:Below w14.heap.size w14 (w14.alloc (.cells #[.int .i64 ww,.int .i64 wh,.map (some mb),.map (some mk),.map (some mp),.map (some mr)] 100)):=Below.alloc' (Below.refl _ _) _
 exact ⟨rfl,w14.heap.size,mb,mk,mp,mr,_,_,_,_,_,_,_,rfl,⟨by omega,gb,gk,gp,gr⟩,⟨by omega,by omega,by omega,by omega,by omega,by omega,by omega,by omega,by omega,by omega⟩,At.new _ _,Gb.keep hb9,KMp.keep _ _ _ Gk hb9,Gp.keep hb9,Gr.keep hb9,Below.alloc' hx _⟩):P:=h
theorem Z1 {P:Prop} (h:P:=by
 (try simp only [tkp,tka,tkz,tks])
 refine tk1 8 ?_
 have npq':Tp≠Tq:=by omega
 have lp:=Ap.lt
 have lq:=Aq.lt
 have zp0:=Ap.thaw 0
 have zp1:=Ap.thaw 1
 have zp2:=Ap.thaw 2
 have zp3:=Ap.thaw 3
 obtain ⟨_,cp0,cp1,cp2,cp3⟩:=At.four Ap
 refine Drawn.Step.skip tkL ?_
 generalize hW:World.setCell _ _ _=x1
 have Ap2:At x1 Tp (.cells #[.int .i64 (s.c 34),.int .i64 (s.c 32),.int .i64 (s.c 31),.int .i64 (s.c 33)] 139):=hW ▸ At.set (At.set (At.set (At.set Ap 0 _) 1 _) 2 _) 3 _
 have Aq2:At x1 Tq (.cells #[.int .i64 0,.int .i64 0,.int .i64 0,.int .i64 0] 139):=hW ▸ At.off (At.off (At.off (At.off Aq npq'.symm _ _) npq'.symm _ _) npq'.symm _ _) npq'.symm _ _
 have hx1:Below w1.heap.size w1 x1:=by rw [← hW];exact Below.setCell (Below.setCell (Below.setCell (Below.setCell hx gp _) gp _) gp _) gp _
 clear hW zp0 zp1 zp2 zp3 cp0 cp1 cp2 cp3 lp lq
 refine ⟨fun _=>hx1,?_⟩
 (try simp only [tkp,tka,tkz,tks])
 refine tk1 9 ?_
 have lq:=Aq2.lt
 have zq0:=Aq2.thaw 0
 have zq1:=Aq2.thaw 1
 have zq2:=Aq2.thaw 2
 have zq3:=Aq2.thaw 3
 obtain ⟨_,cq0,cq1,cq2,cq3⟩:=At.four Aq2
 refine Drawn.Step.skip tkL ?_
 generalize hW:World.setCell _ _ _=x2
 have Aq3:At x2 Tq (.cells #[.int .i64 (s.c 38),.int .i64 (s.c 36),.int .i64 (s.c 35),.int .i64 (s.c 37)] 139):=hW ▸ At.set (At.set (At.set (At.set Aq2 0 _) 1 _) 2 _) 3 _
 have Ap3:At x2 Tp (.cells #[.int .i64 (s.c 34),.int .i64 (s.c 32),.int .i64 (s.c 31),.int .i64 (s.c 33)] 139):=hW ▸ At.off (At.off (At.off (At.off Ap2 npq' _ _) npq' _ _) npq' _ _) npq' _ _
 have hx2:Below w1.heap.size w1 x2:=by rw [← hW];exact Below.setCell (Below.setCell (Below.setCell (Below.setCell hx1 gq _) gq _) gq _) gq _
 refine ⟨fun _=>hx2,?_⟩
 (try simp only [tkp,tka,tkz,tks])
 refine tkE ?_
 exact ⟨rfl,Tp,Tq,_,_,_,_,_,_,rfl,gp,gq,npq',Ap3,Aq3,hx2⟩):P:=h
theorem Z2 {P:Prop} (h:P:=by
 (try simp only [tkp,tka,tkz,tks])
 refine tk1 17 ?_
 refine Drawn.Step.skip (exec_store_at (q:=0) siz_ld (.tmp 12) (.tmp 66) rfl rfl rfl Ap (ldc_size ly) Z3t (ldc_one ly)) ?_
 rw [splice_all (cs:=#[.int .i64 0,.int .i64 0,.int .i64 0,.int .i64 0,.int .i64 0,.int .i64 0,.int .i64 0]) (vs:=ldc ly) rfl]
 have npq':Tp≠Tq:=by omega
 have Ap2:At (x14.setRow Tp (ldc ly)) Tp (.cells (ldc ly) 94):=At.setRow Ap _
 have Aq2:=At.offRow Aq npq'.symm (ldc ly)
 have hO1:Out (fun b=>b=Tp) x14 (x14.setRow Tp (ldc ly)):=Out.setRow (M:=fun b=>b=Tp) (Out.refl _ _) rfl _
 replace hLS:=hLS.own hO1 fun b hb h=>by subst h;exact ⟨np,by omega⟩
 replace hx:=Out.trans' hx hO1 fun b hb h=>by omega
 generalize x14.setRow Tp (ldc ly)=y1 at *
 clear hO1 Ap Aq
 refine ⟨fun _=>hx,?_⟩
 (try simp only [tkp,tka,tkz,tks])
 refine tk1 18 ?_
 refine Drawn.Step.skip (exec_store_sty (.tmp 13) (.tmp 75) rfl rfl rfl Aq2) ?_
 have Aq3:At (y1.setRow Tq (cells sk)) Tq (.cells (cells sk) 37):=At.setRow Aq2 _
 have Ap3:=At.offRow Ap2 npq' (cells sk)
 have hO2:Out (fun b=>b=Tq) y1 (y1.setRow Tq (cells sk)):=Out.setRow (M:=fun b=>b=Tq) (Out.refl _ _) rfl _
 replace hLS:=hLS.own hO2 fun b hb h=>by subst h;exact ⟨nq,by omega⟩
 replace hx:=Out.trans' hx hO2 fun b hb h=>by omega
 generalize y1.setRow Tq (cells sk)=y2 at *
 clear hO2 Ap2 Aq2
 refine ⟨fun _=>hx,?_⟩
 (try simp only [tkp,tka,tkz,tks])
 refine tkE ?_
 exact ⟨rfl,Tp,Tq,n2,P2,_,_,_,_,_,_,_,_,_,_,_,_,_,_,_,rfl,gp,gq,npq',Ap3,Aq3,hn2,hLS,hPs,np,nq,hx⟩):P:=h
theorem Z3 {P:Prop} (h:P:=by
 generalize hc1:cs.setIfInBounds (o + 5) (Value.int IntKind.i64 (Fw.mv1 s 0 r0 a0))=cs1 at *
 have h6':cs1[o + 6]? = some (.int .i64 a1):=by rw [← hc1,Array.getElem?_setIfInBounds,if_neg Z3f];exact h6
 replace h6:=h6'
 clear h6' h5
 have HC1:=Lib.hid hc1
 clear hc1
 clear l0 c0_0 c0_1 lR cR zR
 obtain ⟨l0,c0_0,c0_1⟩:=At.two A0
 have lR:=AR.lt
 have cR:=(AR.cell (o + 6)).trans h6
 have zR:=AR.thaw (o + 6)
 go_wp2
 cases hf10:Fw.inF s 1 0 r1
 · have HF10:=Lib.hid hf10
   clear hf10
   cases hf11:Fw.inF s 1 1 r1
   · have HF11:=Lib.hid hf11
     clear hf11
     rw [rounds_succ]
     go_upto_region 6 with (fail)
     go_upto_region 7 with ((go_at_call 154;(with_reducible refine (finset10 bz s vf va ib r0 r1 _ A2).mono ?_);rintro e w3 ⟨rfl,hb⟩;replace hQ:=hQ.trans (Out.of_below hb);replace A0:=At.keep A0 hb;replace A2:=At.keep A2 hb;replace AR:=At.keep AR hb;clear hb))
     clear l0 c0_0 c0_1 lR cR zR
     obtain ⟨l0,c0_0,c0_1⟩:=At.two A0
     have lR:=AR.lt
     have cR:=(AR.cell (o + 6)).trans h6
     have zR:=AR.thaw (o + 6)
     rw [HF10.out]
     go_upto_region 10 with ((go_at_call 154;(with_reducible refine (finset11 bz s vf va ib r0 r1 _ A2).mono ?_);rintro e w3 ⟨rfl,hb⟩;replace hQ:=hQ.trans (Out.of_below hb);replace A0:=At.keep A0 hb;replace A2:=At.keep A2 hb;replace AR:=At.keep AR hb;clear hb))
     clear l0 c0_0 c0_1 lR cR zR
     obtain ⟨l0,c0_0,c0_1⟩:=At.two A0
     have lR:=AR.lt
     have cR:=(AR.cell (o + 6)).trans h6
     have zR:=AR.thaw (o + 6)
     rw [HF11.out]
     rw [← set_same h6,show a1=Fw.mv1 s 1 r1 a1 from by unfold Fw.mv1;rw [if_neg (by rw [HF10.out];simp),if_neg (by rw [HF11.out];simp)]] at AR
     exact Z1h
   · have HF11:=Lib.hid hf11
     clear hf11
     rw [rounds_succ]
     go_upto_region 6 with (fail)
     go_upto_region 7 with ((go_at_call 154;(with_reducible refine (finset10 bz s vf va ib r0 r1 _ A2).mono ?_);rintro e w3 ⟨rfl,hb⟩;replace hQ:=hQ.trans (Out.of_below hb);replace A0:=At.keep A0 hb;replace A2:=At.keep A2 hb;replace AR:=At.keep AR hb;clear hb))
     clear l0 c0_0 c0_1 lR cR zR
     obtain ⟨l0,c0_0,c0_1⟩:=At.two A0
     have lR:=AR.lt
     have cR:=(AR.cell (o + 6)).trans h6
     have zR:=AR.thaw (o + 6)
     rw [HF10.out]
     go_upto_region 10 with ((go_at_call 154;(with_reducible refine (finset11 bz s vf va ib r0 r1 _ A2).mono ?_);rintro e w3 ⟨rfl,hb⟩;replace hQ:=hQ.trans (Out.of_below hb);replace A0:=At.keep A0 hb;replace A2:=At.keep A2 hb;replace AR:=At.keep AR hb;clear hb))
     clear l0 c0_0 c0_1 lR cR zR
     obtain ⟨l0,c0_0,c0_1⟩:=At.two A0
     have lR:=AR.lt
     have cR:=(AR.cell (o + 6)).trans h6
     have zR:=AR.thaw (o + 6)
     rw [HF11.out]
     go_upto_region 11 with (fail)
     refine sqtT 11 1 ?_
     (repeat (first | refine sqk ?_ | refine sqc ?_ (hc:=by intro w2 hS;first | with_reducible exact qaB hS (fside00 _)) | refine sqv ?_))
     refine Drawn.seq_tail ?_;intro w2 hS
     replace hQ:=hQ.trans (Out.of_below hS);replace A0:=At.keep A0 hS;replace A2:=At.keep A2 hS;replace AR:=At.keep AR hS
     clear hS
     clear l0 c0_0 c0_1 lR cR zR
     obtain ⟨l0,c0_0,c0_1⟩:=At.two A0
     have lR:=AR.lt
     have cR:=(AR.cell (o + 6)).trans h6
     have zR:=AR.thaw (o + 6)
     refine tkT ?_;intro K hK;go_simp;refine hK _ _ (Drawn.text_nil ?_);clear hK K
     generalize hW:World.setCell _ _ _=W9
     replace A0:At W9 _ _:=hW ▸ At.off A0 Z3f _ _
     replace A2:At W9 _ _:=hW ▸ At.off A2 Z3f _ _
     replace hQ:Out _ _ W9:=hW ▸ Out.set hQ rfl _ _
     replace AR:At W9 R _:=hW ▸ At.set AR (o + 6) _
     clear hW
     rw [wri,show Fw.wr (a1 - Fw.ins s 1 1 r1)=Fw.mv1 s 1 r1 a1 from by unfold Fw.mv1;rw [if_neg (by rw [HF10.out];simp),if_pos HF11.out]] at AR
     exact Z1h
 · have HF10:=Lib.hid hf10
   clear hf10
   rw [rounds_succ]
   go_upto_region 6 with (fail)
   go_upto_region 7 with ((go_at_call 154;(with_reducible refine (finset10 bz s vf va ib r0 r1 _ A2).mono ?_);rintro e w3 ⟨rfl,hb⟩;replace hQ:=hQ.trans (Out.of_below hb);replace A0:=At.keep A0 hb;replace A2:=At.keep A2 hb;replace AR:=At.keep AR hb;clear hb))
   clear l0 c0_0 c0_1 lR cR zR
   obtain ⟨l0,c0_0,c0_1⟩:=At.two A0
   have lR:=AR.lt
   have cR:=(AR.cell (o + 6)).trans h6
   have zR:=AR.thaw (o + 6)
   rw [HF10.out]
   go_upto_region 8 with (fail)
   refine sqtT 11 1 ?_
   (repeat (first | refine sqk ?_ | refine sqc ?_ (hc:=by intro w2 hS;first | with_reducible exact qaB hS (fside00 _)) | refine sqv ?_))
   refine Drawn.seq_tail ?_;intro w2 hS
   replace hQ:=hQ.trans (Out.of_below hS);replace A0:=At.keep A0 hS;replace A2:=At.keep A2 hS;replace AR:=At.keep AR hS
   clear hS
   clear l0 c0_0 c0_1 lR cR zR
   obtain ⟨l0,c0_0,c0_1⟩:=At.two A0
   have lR:=AR.lt
   have cR:=(AR.cell (o + 6)).trans h6
   have zR:=AR.thaw (o + 6)
   refine tkT ?_;intro K hK;go_simp;refine hK _ _ (Drawn.text_nil ?_);clear hK K
   generalize hW:World.setCell _ _ _=W9
   replace A0:At W9 _ _:=hW ▸ At.off A0 Z3f _ _
   replace A2:At W9 _ _:=hW ▸ At.off A2 Z3f _ _
   replace hQ:Out _ _ W9:=hW ▸ Out.set hQ rfl _ _
   replace AR:At W9 R _:=hW ▸ At.set AR (o + 6) _
   clear hW
   rw [wri,show Fw.wr (a1 + Fw.ins s 1 0 r1)=Fw.mv1 s 1 r1 a1 from by unfold Fw.mv1;rw [if_pos HF10.out]] at AR
   exact Z1h):P:=h
theorem Z4 {P:Prop} (h:P:=by
 go_enter Tryz.func154,Tryz.ntmps154
 go_upto_region 1 with (fail)
 generalize hW:World.alloc _ _=W0
 have A0:At W0 w.heap.size (.cells #[.int .i64 r0,.int .i64 r1] 88):=hW ▸ At.new _ _
 have A2:BxAt W0 b s fl ap ib:=hW ▸ BxAt.alloc h _
 have hB:Below w.heap.size w W0:=hW ▸ Below.alloc' (Below.refl _ _) _
 clear hW h
 obtain ⟨l0,c0_0,c0_1⟩:=A0.two
 obtain ⟨l2,c2_0,c2_1,c2_2,c2_3,c2_4,c2_5,c2_6,c2_7⟩:=At.bxi A2
 refine sbtT [0,1,2,3,4,5,6,7,8] 9 10 ?_ (norm:=[⟨_,_,_,_,_,_⟩,⟨_,_,_,_,_,_⟩,⟨_,_,_,_,_,_⟩,⟨_,_,_,_,_,_⟩,⟨_,_,_,_,_,_⟩,⟨_,_,_,_,_,_⟩,⟨_,_,_,_,_,_⟩,⟨_,_,_,_,_,_⟩,⟨_,_,_,_,_,_⟩]) (tail:=[⟨_,_,_,_,_,_⟩]) (x:= .cells #[.int .i64 0,.int .i64 0] 28) (so:=⟨_,_,_,_,_,_⟩)
 (repeat (first | refine sbk ?_ | refine sbc ?_ (hc:=by intro w2 hS;first | with_reducible exact (fside00 _) | with_reducible exact (fside01 _) | with_reducible exact (fside10 _) | with_reducible exact (fside11 _)) | refine sbv ?_))
 refine Drawn.bseq_end ?_;intro n0 w2 hn hA hS;(try simp only [tkp,tka,tkz,tks])
 ((have hB0:=hB);have ne0:=Nat.ne_of_lt (Nat.lt_of_lt_of_le A0.lt hn);have ne2:=Nat.ne_of_lt (Nat.lt_of_lt_of_le A2.lt hn);(clear l0 c0_0 c0_1 l2 c2_0 c2_1 c2_2 c2_3 c2_4 c2_5 c2_6 c2_7);(replace hB:=Below.after2 Z3g (Nat.le_refl _) hS);replace A0:=At.keep Z3k hS;replace A2:=At.keep Z3j hS;clear hS;obtain ⟨l0,c0_0,c0_1⟩:=At.two A0;obtain ⟨l2,c2_0,c2_1,c2_2,c2_3,c2_4,c2_5,c2_6,c2_7⟩:=At.bxi A2;have A3:=hA;clear hA;obtain ⟨l3,c3_0,c3_1⟩:=At.two A3;have z3_0:=A3.thaw 0;have z3_1:=A3.thaw 1;have g0:=Nat.le_trans Z3z hn;clear hB0)
 refine tkT ?_;intro K hK;go_simp;refine hK _ _ (Drawn.text_nil ?_);clear hK K
 (generalize hW:World.setCell (World.setCell _ _ _) _ _=W1;clear l0 c0_0 c0_1 l2 c2_0 c2_1 c2_2 c2_3 c2_4 c2_5 c2_6 c2_7 l3 c3_0 c3_1 z3_0 z3_1;replace A3:At W1 _ _:=hW ▸ (At.put2 A3 _ _);replace A0:At W1 _ _:=hW ▸ (At.off (At.off A0 ne0 _ _) ne0 _ _);replace A2:At W1 _ _:=hW ▸ (At.off (At.off A2 ne2 _ _) ne2 _ _);replace hB:Below w.heap.size w W1:=hW ▸ (Below.setCell (Below.setCell hB g0 _) g0 _);clear hW ne0 ne2;obtain ⟨l0,c0_0,c0_1⟩:=At.two A0;obtain ⟨l2,c2_0,c2_1,c2_2,c2_3,c2_4,c2_5,c2_6,c2_7⟩:=At.bxi A2;obtain ⟨l3,c3_0,c3_1⟩:=At.two A3)
 go_upto_region 2 with (fail)
 refine sqt ?_
 (repeat (first | refine sqk ?_ | refine sqc ?_ (hc:=by intro w2 hS;first | with_reducible exact qaB hS (len_any _ _ _ _ _) | with_reducible exact qaB hS (fixed_any _ _ _ _)) | refine sqv ?_))
 refine Drawn.seq_end ?_;intro w2 hS
 go_wp2
 refine bodyPost_ret (v:= .tuple #[.int .i64 _,.bool _]) (by simp [results,Tryz.results154,go_sem, *];first | done | exact ⟨rfl,rfl⟩ | rfl) rfl ⟨rfl,Below.after2 hB (Nat.le_refl _) hS⟩):P:=h
theorem Z5 {P:Prop} (h:P:=by
 go_enter Tryz.func140,Tryz.ntmps140
 go_upto_region 2 with (first | (refine wpList_alloc_style Z3n rfl ?_) | (refine wpList_build_zero Z3n rfl ?_) | (refine wpList_load_style Z3n _ rfl rfl Z3l ?_) | (refine wpList_store_same Z3n _ _ rfl rfl rfl Z3l ?_) | (refine wpList_store_style Z3n _ _ rfl rfl rfl Z3l ?_) | (refine wpList_load_sty Z3n _ rfl rfl hSty.out ?_))
 generalize hW:World.setRow _ _ _=W1
 have A1:At W1 w.heap.size (.cells (cells s) 37):=hW ▸ (At.new w (.cells (cells Re.zero) 37)).setRow _
 have hB:Below w.heap.size w W1:=hW ▸ below_setRow (Below.alloc' (Below.refl _ _) _) (Nat.le_refl _) _
 clear hW
 replace d0:=(Below.cell_ hB l0 _).trans d0
 replace d1:=(Below.cell_ hB l0 _).trans d1
 have l1:=A1.lt
 have g0:=A1.st 0 Z3i rfl
 have g2:=A1.st 2 Z3i rfl
 have g5:=A1.st 5 Z3i rfl
 have g9:=A1.st 9 Z3i rfl
 replace l0:=Nat.lt_of_lt_of_le l0 hB.size
 clear hSty
 go_wp2
 go_ret
 refine ⟨ret_bool (by unfold Fw.opn;rw [show Fw.sd 1 1=2 from rfl];simp [*]),hB⟩):P:=h
theorem Z6 {P:Prop} (h:P:=by (repeat (first | exact Below.refl _ _ | assumption | refine Below.drew ?_ | refine Below.drewN ?_ _ | refine Below.alloc' ?_ _ | refine Below.setCell ?_ Z44 _ | refine Below.after2 ?_ (Nat.le_refl _) Z3v))):P:=h
theorem Z7 {P:Prop} (h:P:=by
 (try simp only [tkp,tka,tkz,tks])
 refine tk1 3 ?_
 · refine Drawn.Step.value (u:= .map (some w13.heap.size)) (w':=w13.alloc (.map #[] 0)) tkL ?_
   obtain ⟨w14,hw9,Gp,hb,hsz9⟩:∃ w9,w9=w13.alloc (.map #[] 0)∧GM 92 w9 w13.heap.size 0 (fun _=>none)∧Below w13.heap.size w13 w9∧w13.heap.size<w9.heap.size:=⟨_,rfl,GM.made _ _,Below.alloc' (Below.refl _ _) _,by simp⟩
   rw [← hw9]
   clear hw9
   obtain ⟨mp,hmp⟩:∃ q,w13.heap.size=q:=⟨_,rfl⟩
   rw [hmp] at Gp
   rw [hmp]
   have gp:w13.heap.size≤mp:=Nat.le_of_eq hmp
   have lp:mp<w14.heap.size:=hmp ▸ hsz9
   clear hmp hsz9
   have nbp:mb<mp:=by omega
   replace Gb:=Gb.keep hb
   replace lb:mb<w14.heap.size:=by have:=hb.size;omega
   have nkp:mk<mp:=by omega
   replace Gk:=KMp.keep _ _ _ Gk hb
   replace lk:mk<w14.heap.size:=by have:=hb.size;omega
   have npr:mr<mp:=by omega
   replace Gr:=Gr.keep hb
   replace lr:mr<w14.heap.size:=by have:=hb.size;omega
   replace gp:w1.heap.size≤mp:=by have:=hx.size;omega
   exact Z33):P:=h
theorem Z8 {P:Prop} (h:P:=by
 (try simp only [tkp,tka,tkz,tks])
 refine tk1 4 ?_
 · refine Drawn.Step.value (u:= .map (some w13.heap.size)) (w':=w13.alloc (.map #[] 0)) tkL ?_
   obtain ⟨w14,hw9,Gr,hb,hsz9⟩:∃ w9,w9=w13.alloc (.map #[] 0)∧GM 3 w9 w13.heap.size 0 (fun _=>none)∧Below w13.heap.size w13 w9∧w13.heap.size<w9.heap.size:=⟨_,rfl,GM.made _ _,Below.alloc' (Below.refl _ _) _,by simp⟩
   rw [← hw9]
   clear hw9
   obtain ⟨mr,hmr⟩:∃ q,w13.heap.size=q:=⟨_,rfl⟩
   rw [hmr] at Gr
   rw [hmr]
   have gr:w13.heap.size≤mr:=Nat.le_of_eq hmr
   have lr:mr<w14.heap.size:=hmr ▸ hsz9
   clear hmr hsz9
   have nbr:mb<mr:=by omega
   replace Gb:=Gb.keep hb
   replace lb:mb<w14.heap.size:=by have:=hb.size;omega
   have nkr:mk<mr:=by omega
   replace Gk:=KMp.keep _ _ _ Gk hb
   replace lk:mk<w14.heap.size:=by have:=hb.size;omega
   have npr:mp<mr:=by omega
   replace Gp:=Gp.keep hb
   replace lp:mp<w14.heap.size:=by have:=hb.size;omega
   replace gr:w1.heap.size≤mr:=by have:=hx.size;omega
   exact Z33):P:=h
theorem Z9 {P:Prop} (h:P:=by
 (try simp only [tkp,tka,tkz,tks])
 refine tk1 1 ?_
 · refine Drawn.Step.value (u:= .map (some w13.heap.size)) (w':=w13.alloc (.map #[] 0)) tkL ?_
   obtain ⟨w14,hw9,Gb,hb,hsz9⟩:∃ w9,w9=w13.alloc (.map #[] 0)∧GM 3 w9 w13.heap.size 0 (fun _=>none)∧Below w13.heap.size w13 w9∧w13.heap.size<w9.heap.size:=⟨_,rfl,GM.made _ _,Below.alloc' (Below.refl _ _) _,by simp⟩
   rw [← hw9]
   clear hw9
   obtain ⟨mb,hmb⟩:∃ q,w13.heap.size=q:=⟨_,rfl⟩
   rw [hmb] at Gb
   rw [hmb]
   have gb:w13.heap.size≤mb:=Nat.le_of_eq hmb
   have lb:mb<w14.heap.size:=hmb ▸ hsz9
   clear hmb hsz9
   have nbk:mk<mb:=by omega
   replace Gk:=KMp.keep _ _ _ Gk hb
   replace lk:mk<w14.heap.size:=by have:=hb.size;omega
   have nbp:mp<mb:=by omega
   replace Gp:=Gp.keep hb
   replace lp:mp<w14.heap.size:=by have:=hb.size;omega
   have nbr:mr<mb:=by omega
   replace Gr:=Gr.keep hb
   replace lr:mr<w14.heap.size:=by have:=hb.size;omega
   replace gb:w1.heap.size≤mb:=by have:=hx.size;omega
   exact Z33):P:=h
theorem Za {P:Prop} (h:P:=by
 go_enter Tryz.func140,Tryz.ntmps140
 go_upto_region 2 with (first | (refine wpList_alloc_style Z3n rfl ?_) | (refine wpList_build_zero Z3n rfl ?_) | (refine wpList_load_style Z3n _ rfl rfl Z3l ?_) | (refine wpList_store_same Z3n _ _ rfl rfl rfl Z3l ?_) | (refine wpList_store_style Z3n _ _ rfl rfl rfl Z3l ?_) | (refine wpList_load_sty Z3n _ rfl rfl hSty.out ?_))
 generalize hW:World.setRow _ _ _=W1
 have A1:At W1 w.heap.size (.cells (cells s) 37):=hW ▸ (At.new w (.cells (cells Re.zero) 37)).setRow _
 have hB:Below w.heap.size w W1:=hW ▸ below_setRow (Below.alloc' (Below.refl _ _) _) (Nat.le_refl _) _
 clear hW
 replace d0:=(Below.cell_ hB l0 _).trans d0
 replace d1:=(Below.cell_ hB l0 _).trans d1
 have l1:=A1.lt
 have g0:=A1.st 0 Z3i rfl
 have g2:=A1.st 2 Z3i rfl
 have g5:=A1.st 5 Z3i rfl
 have g9:=A1.st 9 Z3i rfl
 replace l0:=Nat.lt_of_lt_of_le l0 hB.size
 clear hSty
 go_wp2
 go_ret
 refine ⟨ret_bool (by unfold Fw.opn;rw [show Fw.sd 1 0=0 from rfl];simp [*]),hB⟩):P:=h
theorem Zb {P:Prop} (h:P:=by
 go_region_with (refine (hA.call xs x _ (hA.keep _ _ _ hI (Below.drew (Below.refl _ _))) hx).mono ?_;rintro e w1 ⟨rfl,hI1,hO1⟩;replace hO1:=(Out.of_below (M:=mine) (Below.drew (Below.refl w.heap.size w))).trans hO1;have a1:=At.out a n1 hO1;have aw1:=At.out aw n2 hO1;have cx1:w1.cell? ⟨b,o,none⟩=some (.int .i64 x):=(a1.cell o).trans ho;have hf1:=a1.thaw o)
 all_goals (refine bodyPost_end (results_none rfl _ _ _) rfl ⟨rfl,⟨hA.set _ _ _ _ _ hI1 n1,At.set a1 _ _,At.off aw1 (Ne.symm n3) _ _⟩,Out.set (hO1.mono fun _ _ h => .inl h) (.inr rfl) _ _⟩)):P:=h
theorem Zc {P:Prop} (h:P:=by
 replace hx:=Below.after2 hx (Nat.le_refl _) hb
 clear hb
 refine ⟨fun _=>hx,?_⟩
 (try simp only [tkp,tka,tkz,tks])
 refine tk1 2 ?_
 · refine Drawn.Step.call tkL (fkinds_any _) ?_
   rintro e w14 ⟨⟨mk,rfl,gk,Gk⟩,hb⟩
   have lk:mk<w14.heap.size:=by obtain ⟨_,_,q,_⟩:=Gk;exact q.lt
   have nbk:mb<mk:=by omega
   replace Gb:=Gb.keep hb
   replace lb:mb<w14.heap.size:=by have:=hb.size;omega
   have nkp:mp<mk:=by omega
   replace Gp:=Gp.keep hb
   replace lp:mp<w14.heap.size:=by have:=hb.size;omega
   have nkr:mr<mk:=by omega
   replace Gr:=Gr.keep hb
   replace lr:mr<w14.heap.size:=by have:=hb.size;omega
   replace gk:w1.heap.size≤mk:=by have:=hx.size;omega
   replace hx:=Below.after2 hx (Nat.le_refl _) hb
   clear hb
   refine ⟨_,rfl,fun _=>hx,?_⟩
   exact Z0):P:=h
theorem Zd {P:Prop} (h:P:=by
 (try simp only [tkp,tka,tkz,tks])
 refine tk1 5 ?_
 have keyY:=lay_call hL hKO HR0.out hkm hLS kid i0 i1 (-1) (-1) hdk.out.1 hdk.out.2 Z3f
 rw [hly] at keyY
 refine Drawn.Step.call tkL keyY ?_
 rintro e x14 ⟨rfl,n2,P2,hn2,hLS2,hPs0,hO⟩
 have hPs:∀ b,b<wr.heap.size→P2 b→P' b:=fun b hb h=>hPs0 b (Nat.lt_of_lt_of_le hb hx.size) h
 have lp:=Ap.lt
 replace np:¬ P2 Tp:=fun h=>np (hPs0 Tp lp h)
 replace Ap:=At.out (M:=fun b=>b=Y.pm) Ap Z3f hO
 clear lp
 have lq:=Aq.lt
 replace nq:¬ P2 Tq:=fun h=>nq (hPs0 Tq lq h)
 replace Aq:=At.out (M:=fun b=>b=Y.pm) Aq Z3f hO
 clear lq
 replace hLS:=hLS2
 clear hLS2 hPs0 keyY
 replace hx:=hx.trans hO
 clear hO
 refine ⟨_,rfl,fun _=>hx,?_⟩
 exact Z2):P:=h
theorem Ze {P:Prop} (h:P:=by
 refine bodyPost_end (results_none rfl _ _ _) rfl ⟨rfl,?_,Out.set (hO.mono fun _ _ q=>q.elim .inl fun q => .inr (.inl q)) (.inr (.inr rfl)) _ _⟩
 rw [HIN.out]
 simp only [Bool.not_false,Bool.or_true]
 exact Here.held hA h1' hp _):P:=h
theorem Zf {P:Prop} (h:P:=by
 have HKF:Hid (kfl T (ks.take (k + 1))=kfl T (ks.take k)):=Lib.hid (by rw [hfl1,hflx,if_neg (by rw [n0,no];decide),List.append_nil])
 have HKA:Hid (kap T (ks.take (k + 1))=kap T (ks.take k) ++ [x]):=Lib.hid (by rw [hap1,hapx,if_pos (by rw [n0,no];rfl)])
 clear hfl1 hap1 hflx hapx
 go_upto_region 4 with (fail)
 go_upto_region 6 with (first | (go_at_call 25;(with_reducible refine key2.mono ?_);rintro e w2 ⟨rfl,hb2⟩) | (refine wpList_alloc_style Z3n rfl ?_) | (refine wpList_build_zero Z3n rfl ?_) | (refine wpList_load_style Z3n _ rfl rfl Z3l ?_) | (refine wpList_store_same Z3n _ _ rfl rfl rfl Z3l ?_) | (refine wpList_store_style Z3n _ _ rfl rfl rfl Z3l ?_))
 (try simp only [tkp,tka,tkz,tks])
 generalize hW:World.setRow _ _ _=w3
 have A3:At w3 w2.heap.size (.cells (cells sx) 37):=by rw [← hW];exact At.setRow (At.new w2 (.cells (cells Re.zero) 37)) (cells sx)
 have hb3:Below wr.heap.size wr w3:=by rw [← hW];exact below_setRow (hb2.alloc hb2.size (.cells (cells Re.zero) 37)) hb2.size (cells sx)
 clear hW
 have hv3:=ownsRow_out (M:=fun _=>False) hv (fun _ _ q=>q) (Out.of_below hb3)
 have hu3:=ownsRow_out (M:=fun _=>False) hu (fun _ _ q=>q) (Out.of_below hb3)
 have hB3:Below w1.heap.size w1 w3:=Below.after2 hB (Nat.le_refl _) hb3
 have l3:=A3.lt
 have d0:=A3.st 0 Z3i rfl
 have d1:=A3.st 1 Z3i rfl
 have hlen1:(kfl T (ks.take k)).length≤10000:=kfl_len T ks k HL.out
 have hlen2:(kap T (ks.take k)).length≤10000:=kap_len T ks k HL.out
 obtain ⟨g,c,w4,hr,ho4,hp4,ha4,hb4,hs4⟩:=append_two x hu3 hv3 hap (by have:=hB3.size;omega) hlen2
 have HRR:=Lib.hid hr
 clear hr
 go_wp2_with (at_builtin;refine wpList_append_run Z3n _ _ 52 rfl rfl rfl HRR.out ?_)
 (try simp only [tkp,tka,tkz,tks])
 (try simp only [Act.put,List.setIfInBounds_toArray,List.set_cons_zero,List.set_cons_succ,List.size_toArray,Array.getD_eq_getD_getElem?])
 go_roundw
 case rel =>
  refine ⟨k + 1,Nat.succ_le_of_lt HLT.out,?_,?_⟩
  · exact Z35
  · rw [HKF.out,HKA.out]
    exact ⟨hp4,by rw [List.length_append];exact ho4,ha4,hB3.trans hb4⟩
 case measure =>
  exact Z2c):P:=h
theorem Zg {P:Prop} (h:P:=by
 (try simp only [tkp,tka,tkz,tks])
 refine tk2 5 7 ?_ ?_
 · refine Drawn.Step.call Z3r (fbyway_any _ _ _ _ _) ?_
   rintro e w13 ⟨rfl,hb⟩
   replace Ap:=Ap.keep hb
   replace hx:=Below.after2 hx (Nat.le_refl _) hb
   clear hb
   refine ⟨_,rfl,fun _=>hx,?_⟩
   exact Z18
 · refine Drawn.Step.value (u:= .pointer (some ⟨w12.heap.size,0,none⟩)) (w':=w12.alloc (.cells #[.int .i64 0,.int .i64 0,.int .i64 0,.int .i64 0] 139)) tkL ?_
   obtain ⟨w13,hw9,Aq,hb⟩:∃ w9,w9=w12.alloc (.cells #[.int .i64 0,.int .i64 0,.int .i64 0,.int .i64 0] 139)∧At w9 w12.heap.size (.cells #[.int .i64 0,.int .i64 0,.int .i64 0,.int .i64 0] 139)∧Below w12.heap.size w12 w9:=⟨_,rfl,At.new _ _,Below.alloc' (Below.refl _ _) _⟩
   rw [← hw9]
   clear hw9
   have gq:=hx.size
   obtain ⟨Tq,hTq⟩:∃ q,w12.heap.size=q:=⟨_,rfl⟩
   rw [hTq] at Aq gq
   rw [hTq]
   have kq:w12.heap.size≤Tq:=Nat.le_of_eq hTq
   clear hTq
   have npq:Tp≠Tq:=by have:=Ap.lt;omega
   replace Ap:=Ap.keep hb
   replace hx:=Below.after2 hx (Nat.le_refl _) hb
   clear hb
   refine ⟨fun _=>hx,?_⟩
   exact Zx):P:=h
theorem Zh {P:Prop} (h:P:=by
 (try simp only [tkp,tka,tkz,tks])
 refine tk2 5 6 ?_ ?_
 · refine Drawn.Step.call Z3r (fbyway_any _ _ _ _ _) ?_
   rintro e w13 ⟨rfl,hb⟩
   replace Aq:=Aq.keep hb
   replace hx:=Below.after2 hx (Nat.le_refl _) hb
   clear hb
   refine ⟨_,rfl,fun _=>hx,?_⟩
   exact Z19
 · refine Drawn.Step.value (u:= .pointer (some ⟨w12.heap.size,0,none⟩)) (w':=w12.alloc (.cells #[.int .i64 0,.int .i64 0,.int .i64 0,.int .i64 0] 139)) tkL ?_
   obtain ⟨w13,hw9,Ap,hb⟩:∃ w9,w9=w12.alloc (.cells #[.int .i64 0,.int .i64 0,.int .i64 0,.int .i64 0] 139)∧At w9 w12.heap.size (.cells #[.int .i64 0,.int .i64 0,.int .i64 0,.int .i64 0] 139)∧Below w12.heap.size w12 w9:=⟨_,rfl,At.new _ _,Below.alloc' (Below.refl _ _) _⟩
   rw [← hw9]
   clear hw9
   have gp:=hx.size
   obtain ⟨Tp,hTp⟩:∃ q,w12.heap.size=q:=⟨_,rfl⟩
   rw [hTp] at Ap gp
   rw [hTp]
   have kp:w12.heap.size≤Tp:=Nat.le_of_eq hTp
   clear hTp
   have npq:Tq≠Tp:=by have:=Aq.lt;omega
   replace Aq:=Aq.keep hb
   replace hx:=Below.after2 hx (Nat.le_refl _) hb
   clear hb
   refine ⟨fun _=>hx,?_⟩
   exact Zx):P:=h
theorem Zi {P:Prop} (h:P:=by
 (try simp only [tkp,tka,tkz,tks])
 refine tk1 15 ?_
 refine Drawn.Step.value (u:= .pointer (some ⟨x13.heap.size,0,none⟩)) (w':=x13.alloc (.cells #[.int .i64 0,.int .i64 0,.int .i64 0,.int .i64 0,.int .i64 0,.int .i64 0,.int .i64 0] 94)) tkL ?_
 obtain ⟨x14,hw9,Ap,hb⟩:∃ w9,w9=x13.alloc (.cells #[.int .i64 0,.int .i64 0,.int .i64 0,.int .i64 0,.int .i64 0,.int .i64 0,.int .i64 0] 94)∧At w9 x13.heap.size (.cells #[.int .i64 0,.int .i64 0,.int .i64 0,.int .i64 0,.int .i64 0,.int .i64 0,.int .i64 0] 94)∧Below x13.heap.size x13 w9:=⟨_,rfl,At.new _ _,Below.alloc' (Below.refl _ _) _⟩
 rw [← hw9]
 clear hw9
 have gp:=hx.size
 obtain ⟨Tp,hTp⟩:∃ q,x13.heap.size=q:=⟨_,rfl⟩
 have np:¬ P2 Tp:=fun h=>by have:=hLS.lt _ h;omega
 rw [hTp] at Ap gp
 rw [hTp]
 have npq:Tq<Tp:=by have:=Aq.lt;omega
 clear hTp
 replace Aq:=Aq.keep hb
 exact Z38):P:=h
theorem Zj {P:Prop} (h:P:=by
 go_enter Tryz.func191,Tryz.ntmps191
 go_upto_region 2 with (fail)
 generalize hW:World.alloc (World.alloc (World.alloc (World.alloc _ _) _) _) _=W1
 have hX:Boxed W1 w.heap.size (w.heap.size + 1) (w.heap.size + 1 + 1) (w.heap.size + 1 + 1 + 1) left 0 0 1:=hW ▸ boxed_made w left
 have hB:Below w.heap.size w W1:=hW ▸ boxed_below w _ _ _ _
 clear hW
 obtain ⟨m2,m3,m4⟩:w.heap.size≤w.heap.size + 1∧w.heap.size≤w.heap.size + 1 + 1∧w.heap.size≤w.heap.size + 1 + 1 + 1:=⟨by omega,by omega,by omega⟩
 generalize w.heap.size + 1 + 1 + 1=b4 at *
 generalize w.heap.size + 1 + 1=b3 at *
 generalize w.heap.size + 1=b2 at *
 have HX:=Lib.hid hX
 obtain ⟨c1,c2,c3,c4⟩:=hX.cells
 obtain ⟨z2,z3,z4,l2,l3,l4⟩:=hX.thaws
 have l1:=hX.a1.lt
 have n23:=hX.n23
 have n24:=hX.n24
 have n34:=hX.n34
 have n32:=hX.n23.symm
 have n42:=hX.n24.symm
 have n43:=hX.n34.symm
 clear hX
 go_wp2
 go_ret
 exact ⟨⟨_,_,_,_,rfl,((HX.out.put2 (1)).put4 (2))⟩,(Below.setCell (Below.setCell hB m2 _) m4 _)⟩):P:=h
theorem Zk {P:Prop} (h:P:=by
 (try simp only [tkp,tka,tkz,tks])
 refine tk2 3 4 ?_ ?_
 · refine Drawn.Step.value (u:= .map (some w12.heap.size)) (w':=w12.alloc (.map #[] 0)) tkL ?_
   obtain ⟨w13,hw9,Gp,hb,hsz9⟩:∃ w9,w9=w12.alloc (.map #[] 0)∧GM 92 w9 w12.heap.size 0 (fun _=>none)∧Below w12.heap.size w12 w9∧w12.heap.size<w9.heap.size:=⟨_,rfl,GM.made _ _,Below.alloc' (Below.refl _ _) _,by simp⟩
   rw [← hw9]
   clear hw9
   obtain ⟨mp,hmp⟩:∃ q,w12.heap.size=q:=⟨_,rfl⟩
   rw [hmp] at Gp
   rw [hmp]
   have gp:w12.heap.size≤mp:=Nat.le_of_eq hmp
   have lp:mp<w13.heap.size:=hmp ▸ hsz9
   clear hmp hsz9
   have nbp:mb<mp:=by omega
   replace Gb:=Gb.keep hb
   replace lb:mb<w13.heap.size:=by have:=hb.size;omega
   have nkp:mk<mp:=by omega
   replace Gk:=KMp.keep _ _ _ Gk hb
   replace lk:mk<w13.heap.size:=by have:=hb.size;omega
   replace gp:w1.heap.size≤mp:=by have:=hx.size;omega
   replace hx:=Below.after2 hx (Nat.le_refl _) hb
   clear hb
   refine ⟨fun _=>hx,?_⟩
   exact Z8
 · refine Drawn.Step.value (u:= .map (some w12.heap.size)) (w':=w12.alloc (.map #[] 0)) tkL ?_
   obtain ⟨w13,hw9,Gr,hb,hsz9⟩:∃ w9,w9=w12.alloc (.map #[] 0)∧GM 3 w9 w12.heap.size 0 (fun _=>none)∧Below w12.heap.size w12 w9∧w12.heap.size<w9.heap.size:=⟨_,rfl,GM.made _ _,Below.alloc' (Below.refl _ _) _,by simp⟩
   rw [← hw9]
   clear hw9
   obtain ⟨mr,hmr⟩:∃ q,w12.heap.size=q:=⟨_,rfl⟩
   rw [hmr] at Gr
   rw [hmr]
   have gr:w12.heap.size≤mr:=Nat.le_of_eq hmr
   have lr:mr<w13.heap.size:=hmr ▸ hsz9
   clear hmr hsz9
   have nbr:mb<mr:=by omega
   replace Gb:=Gb.keep hb
   replace lb:mb<w13.heap.size:=by have:=hb.size;omega
   have nkr:mk<mr:=by omega
   replace Gk:=KMp.keep _ _ _ Gk hb
   replace lk:mk<w13.heap.size:=by have:=hb.size;omega
   replace gr:w1.heap.size≤mr:=by have:=hx.size;omega
   replace hx:=Below.after2 hx (Nat.le_refl _) hb
   clear hb
   refine ⟨fun _=>hx,?_⟩
   exact Z7):P:=h
theorem Zl {P:Prop} (h:P:=by
 (try simp only [tkp,tka,tkz,tks])
 refine tk2 1 3 ?_ ?_
 · refine Drawn.Step.value (u:= .map (some w12.heap.size)) (w':=w12.alloc (.map #[] 0)) tkL ?_
   obtain ⟨w13,hw9,Gb,hb,hsz9⟩:∃ w9,w9=w12.alloc (.map #[] 0)∧GM 3 w9 w12.heap.size 0 (fun _=>none)∧Below w12.heap.size w12 w9∧w12.heap.size<w9.heap.size:=⟨_,rfl,GM.made _ _,Below.alloc' (Below.refl _ _) _,by simp⟩
   rw [← hw9]
   clear hw9
   obtain ⟨mb,hmb⟩:∃ q,w12.heap.size=q:=⟨_,rfl⟩
   rw [hmb] at Gb
   rw [hmb]
   have gb:w12.heap.size≤mb:=Nat.le_of_eq hmb
   have lb:mb<w13.heap.size:=hmb ▸ hsz9
   clear hmb hsz9
   have nbk:mk<mb:=by omega
   replace Gk:=KMp.keep _ _ _ Gk hb
   replace lk:mk<w13.heap.size:=by have:=hb.size;omega
   have nbr:mr<mb:=by omega
   replace Gr:=Gr.keep hb
   replace lr:mr<w13.heap.size:=by have:=hb.size;omega
   replace gb:w1.heap.size≤mb:=by have:=hx.size;omega
   replace hx:=Below.after2 hx (Nat.le_refl _) hb
   clear hb
   refine ⟨fun _=>hx,?_⟩
   exact Z7
 · refine Drawn.Step.value (u:= .map (some w12.heap.size)) (w':=w12.alloc (.map #[] 0)) tkL ?_
   obtain ⟨w13,hw9,Gp,hb,hsz9⟩:∃ w9,w9=w12.alloc (.map #[] 0)∧GM 92 w9 w12.heap.size 0 (fun _=>none)∧Below w12.heap.size w12 w9∧w12.heap.size<w9.heap.size:=⟨_,rfl,GM.made _ _,Below.alloc' (Below.refl _ _) _,by simp⟩
   rw [← hw9]
   clear hw9
   obtain ⟨mp,hmp⟩:∃ q,w12.heap.size=q:=⟨_,rfl⟩
   rw [hmp] at Gp
   rw [hmp]
   have gp:w12.heap.size≤mp:=Nat.le_of_eq hmp
   have lp:mp<w13.heap.size:=hmp ▸ hsz9
   clear hmp hsz9
   have nkp:mk<mp:=by omega
   replace Gk:=KMp.keep _ _ _ Gk hb
   replace lk:mk<w13.heap.size:=by have:=hb.size;omega
   have npr:mr<mp:=by omega
   replace Gr:=Gr.keep hb
   replace lr:mr<w13.heap.size:=by have:=hb.size;omega
   replace gp:w1.heap.size≤mp:=by have:=hx.size;omega
   replace hx:=Below.after2 hx (Nat.le_refl _) hb
   clear hb
   refine ⟨fun _=>hx,?_⟩
   exact Z9):P:=h
theorem Zm {P:Prop} (h:P:=by
 (try simp only [tkp,tka,tkz,tks])
 refine tk2 1 4 ?_ ?_
 · refine Drawn.Step.value (u:= .map (some w12.heap.size)) (w':=w12.alloc (.map #[] 0)) tkL ?_
   obtain ⟨w13,hw9,Gb,hb,hsz9⟩:∃ w9,w9=w12.alloc (.map #[] 0)∧GM 3 w9 w12.heap.size 0 (fun _=>none)∧Below w12.heap.size w12 w9∧w12.heap.size<w9.heap.size:=⟨_,rfl,GM.made _ _,Below.alloc' (Below.refl _ _) _,by simp⟩
   rw [← hw9]
   clear hw9
   obtain ⟨mb,hmb⟩:∃ q,w12.heap.size=q:=⟨_,rfl⟩
   rw [hmb] at Gb
   rw [hmb]
   have gb:w12.heap.size≤mb:=Nat.le_of_eq hmb
   have lb:mb<w13.heap.size:=hmb ▸ hsz9
   clear hmb hsz9
   have nbk:mk<mb:=by omega
   replace Gk:=KMp.keep _ _ _ Gk hb
   replace lk:mk<w13.heap.size:=by have:=hb.size;omega
   have nbp:mp<mb:=by omega
   replace Gp:=Gp.keep hb
   replace lp:mp<w13.heap.size:=by have:=hb.size;omega
   replace gb:w1.heap.size≤mb:=by have:=hx.size;omega
   replace hx:=Below.after2 hx (Nat.le_refl _) hb
   clear hb
   refine ⟨fun _=>hx,?_⟩
   exact Z8
 · refine Drawn.Step.value (u:= .map (some w12.heap.size)) (w':=w12.alloc (.map #[] 0)) tkL ?_
   obtain ⟨w13,hw9,Gr,hb,hsz9⟩:∃ w9,w9=w12.alloc (.map #[] 0)∧GM 3 w9 w12.heap.size 0 (fun _=>none)∧Below w12.heap.size w12 w9∧w12.heap.size<w9.heap.size:=⟨_,rfl,GM.made _ _,Below.alloc' (Below.refl _ _) _,by simp⟩
   rw [← hw9]
   clear hw9
   obtain ⟨mr,hmr⟩:∃ q,w12.heap.size=q:=⟨_,rfl⟩
   rw [hmr] at Gr
   rw [hmr]
   have gr:w12.heap.size≤mr:=Nat.le_of_eq hmr
   have lr:mr<w13.heap.size:=hmr ▸ hsz9
   clear hmr hsz9
   have nkr:mk<mr:=by omega
   replace Gk:=KMp.keep _ _ _ Gk hb
   replace lk:mk<w13.heap.size:=by have:=hb.size;omega
   have npr:mp<mr:=by omega
   replace Gp:=Gp.keep hb
   replace lp:mp<w13.heap.size:=by have:=hb.size;omega
   replace gr:w1.heap.size≤mr:=by have:=hx.size;omega
   replace hx:=Below.after2 hx (Nat.le_refl _) hb
   clear hb
   refine ⟨fun _=>hx,?_⟩
   exact Z9):P:=h
theorem Zn {P:Prop} (h:P:=by
 go_enter Tryz.func191,Tryz.ntmps191
 go_upto_region 2 with (fail)
 generalize hW:World.alloc (World.alloc (World.alloc (World.alloc _ _) _) _) _=W1
 have hX:Boxed W1 w.heap.size (w.heap.size + 1) (w.heap.size + 1 + 1) (w.heap.size + 1 + 1 + 1) left 0 0 1:=hW ▸ boxed_made w left
 have hB:Below w.heap.size w W1:=hW ▸ boxed_below w _ _ _ _
 clear hW
 obtain ⟨m2,m3,m4⟩:w.heap.size≤w.heap.size + 1∧w.heap.size≤w.heap.size + 1 + 1∧w.heap.size≤w.heap.size + 1 + 1 + 1:=⟨by omega,by omega,by omega⟩
 generalize w.heap.size + 1 + 1 + 1=b4 at *
 generalize w.heap.size + 1 + 1=b3 at *
 generalize w.heap.size + 1=b2 at *
 have HX:=Lib.hid hX
 obtain ⟨c1,c2,c3,c4⟩:=hX.cells
 obtain ⟨z2,z3,z4,l2,l3,l4⟩:=hX.thaws
 have l1:=hX.a1.lt
 have n23:=hX.n23
 have n24:=hX.n24
 have n34:=hX.n34
 have n32:=hX.n23.symm
 have n42:=hX.n24.symm
 have n43:=hX.n34.symm
 clear hX
 go_wp2
 go_ret
 exact ⟨⟨_,_,_,_,rfl,HX.out⟩,hB⟩):P:=h
theorem Zo {P:Prop} (h:P:=by
 (try simp only [tkp,tka,tkz,tks])
 refine tk2 5 16 ?_ ?_
 · have keyY:=lay_call hL hKO HR0.out hkm hLS kid i0 i1 (-1) (-1) hdk.out.1 hdk.out.2 Z3f
   rw [hly] at keyY
   refine Drawn.Step.call tkL keyY ?_
   rintro e x13 ⟨rfl,n2,P2,hn2,hLS2,hPs0,hO⟩
   have hPs:∀ b,b<wr.heap.size→P2 b→P' b:=fun b hb h=>hPs0 b (Nat.lt_of_lt_of_le hb hx.size) h
   have lp:=Ap.lt
   replace np:¬ P2 Tp:=fun h=>np (hPs0 Tp lp h)
   replace Ap:=At.out (M:=fun b=>b=Y.pm) Ap Z3f hO
   clear lp
   replace hLS:=hLS2
   clear hLS2 hPs0 keyY
   replace hx:=hx.trans hO
   clear hO
   refine ⟨_,rfl,fun _=>hx,?_⟩
   exact Z1d
 · refine Drawn.Step.value (exec_alloc_sty rfl) ?_
   obtain ⟨x13,hw9,Aq,hb⟩:∃ w9,w9=x12.alloc (.cells (cells Re.zero) 37)∧At w9 x12.heap.size (.cells (cells Re.zero) 37)∧Below x12.heap.size x12 w9:=⟨_,rfl,At.new _ _,Below.alloc' (Below.refl _ _) _⟩
   rw [← hw9]
   clear hw9
   have gq:=hx.size
   obtain ⟨Tq,hTq⟩:∃ q,x12.heap.size=q:=⟨_,rfl⟩
   have nq:¬ P' Tq:=fun h=>by have:=hLS.lt _ h;omega
   rw [hTq] at Aq gq
   rw [hTq]
   have npq:Tp<Tq:=by have:=Ap.lt;omega
   clear hTq
   replace Ap:=Ap.keep hb
   exact Z37):P:=h
theorem Zp {P:Prop} (h:P:=by
 (try simp only [tkp,tka,tkz,tks])
 refine tk2 5 15 ?_ ?_
 · have keyY:=lay_call hL hKO HR0.out hkm hLS kid i0 i1 (-1) (-1) hdk.out.1 hdk.out.2 Z3f
   rw [hly] at keyY
   refine Drawn.Step.call tkL keyY ?_
   rintro e x13 ⟨rfl,n2,P2,hn2,hLS2,hPs0,hO⟩
   have hPs:∀ b,b<wr.heap.size→P2 b→P' b:=fun b hb h=>hPs0 b (Nat.lt_of_lt_of_le hb hx.size) h
   have lq:=Aq.lt
   replace nq:¬ P2 Tq:=fun h=>nq (hPs0 Tq lq h)
   replace Aq:=At.out (M:=fun b=>b=Y.pm) Aq Z3f hO
   clear lq
   replace hLS:=hLS2
   clear hLS2 hPs0 keyY
   replace hx:=hx.trans hO
   clear hO
   refine ⟨_,rfl,fun _=>hx,?_⟩
   exact Zi
 · refine Drawn.Step.value (u:= .pointer (some ⟨x12.heap.size,0,none⟩)) (w':=x12.alloc (.cells #[.int .i64 0,.int .i64 0,.int .i64 0,.int .i64 0,.int .i64 0,.int .i64 0,.int .i64 0] 94)) tkL ?_
   obtain ⟨x13,hw9,Ap,hb⟩:∃ w9,w9=x12.alloc (.cells #[.int .i64 0,.int .i64 0,.int .i64 0,.int .i64 0,.int .i64 0,.int .i64 0,.int .i64 0] 94)∧At w9 x12.heap.size (.cells #[.int .i64 0,.int .i64 0,.int .i64 0,.int .i64 0,.int .i64 0,.int .i64 0,.int .i64 0] 94)∧Below x12.heap.size x12 w9:=⟨_,rfl,At.new _ _,Below.alloc' (Below.refl _ _) _⟩
   rw [← hw9]
   clear hw9
   have gp:=hx.size
   obtain ⟨Tp,hTp⟩:∃ q,x12.heap.size=q:=⟨_,rfl⟩
   have np:¬ P' Tp:=fun h=>by have:=hLS.lt _ h;omega
   rw [hTp] at Ap gp
   rw [hTp]
   have npq:Tq<Tp:=by have:=Aq.lt;omega
   clear hTp
   replace Aq:=Aq.keep hb
   exact Z37):P:=h
theorem Zq {P:Prop} (h:P:=by
 replace hx:=Below.after2 hx (Nat.le_refl _) hb
 clear hb
 refine ⟨fun _=>hx,?_⟩
 (try simp only [tkp,tka,tkz,tks])
 refine tk2 2 3 ?_ ?_
 · refine Drawn.Step.call tkL (fkinds_any _) ?_
   rintro e w13 ⟨⟨mk,rfl,gk,Gk⟩,hb⟩
   have lk:mk<w13.heap.size:=by obtain ⟨_,_,q,_⟩:=Gk;exact q.lt
   have nbk:mb<mk:=by omega
   replace Gb:=Gb.keep hb
   replace lb:mb<w13.heap.size:=by have:=hb.size;omega
   have nkr:mr<mk:=by omega
   replace Gr:=Gr.keep hb
   replace lr:mr<w13.heap.size:=by have:=hb.size;omega
   replace gk:w1.heap.size≤mk:=by have:=hx.size;omega
   replace hx:=Below.after2 hx (Nat.le_refl _) hb
   clear hb
   refine ⟨_,rfl,fun _=>hx,?_⟩
   exact Z7
 · refine Drawn.Step.value (u:= .map (some w12.heap.size)) (w':=w12.alloc (.map #[] 0)) tkL ?_
   obtain ⟨w13,hw9,Gp,hb,hsz9⟩:∃ w9,w9=w12.alloc (.map #[] 0)∧GM 92 w9 w12.heap.size 0 (fun _=>none)∧Below w12.heap.size w12 w9∧w12.heap.size<w9.heap.size:=⟨_,rfl,GM.made _ _,Below.alloc' (Below.refl _ _) _,by simp⟩
   rw [← hw9]
   clear hw9
   obtain ⟨mp,hmp⟩:∃ q,w12.heap.size=q:=⟨_,rfl⟩
   rw [hmp] at Gp
   rw [hmp]
   have gp:w12.heap.size≤mp:=Nat.le_of_eq hmp
   have lp:mp<w13.heap.size:=hmp ▸ hsz9
   clear hmp hsz9
   have nbp:mb<mp:=by omega
   replace Gb:=Gb.keep hb
   replace lb:mb<w13.heap.size:=by have:=hb.size;omega
   have npr:mr<mp:=by omega
   replace Gr:=Gr.keep hb
   replace lr:mr<w13.heap.size:=by have:=hb.size;omega
   replace gp:w1.heap.size≤mp:=by have:=hx.size;omega
   exact Zc):P:=h
theorem Zr {P:Prop} (h:P:=by
 replace hx:=Below.after2 hx (Nat.le_refl _) hb
 clear hb
 refine ⟨fun _=>hx,?_⟩
 (try simp only [tkp,tka,tkz,tks])
 refine tk2 2 4 ?_ ?_
 · refine Drawn.Step.call tkL (fkinds_any _) ?_
   rintro e w13 ⟨⟨mk,rfl,gk,Gk⟩,hb⟩
   have lk:mk<w13.heap.size:=by obtain ⟨_,_,q,_⟩:=Gk;exact q.lt
   have nbk:mb<mk:=by omega
   replace Gb:=Gb.keep hb
   replace lb:mb<w13.heap.size:=by have:=hb.size;omega
   have nkp:mp<mk:=by omega
   replace Gp:=Gp.keep hb
   replace lp:mp<w13.heap.size:=by have:=hb.size;omega
   replace gk:w1.heap.size≤mk:=by have:=hx.size;omega
   replace hx:=Below.after2 hx (Nat.le_refl _) hb
   clear hb
   refine ⟨_,rfl,fun _=>hx,?_⟩
   exact Z8
 · refine Drawn.Step.value (u:= .map (some w12.heap.size)) (w':=w12.alloc (.map #[] 0)) tkL ?_
   obtain ⟨w13,hw9,Gr,hb,hsz9⟩:∃ w9,w9=w12.alloc (.map #[] 0)∧GM 3 w9 w12.heap.size 0 (fun _=>none)∧Below w12.heap.size w12 w9∧w12.heap.size<w9.heap.size:=⟨_,rfl,GM.made _ _,Below.alloc' (Below.refl _ _) _,by simp⟩
   rw [← hw9]
   clear hw9
   obtain ⟨mr,hmr⟩:∃ q,w12.heap.size=q:=⟨_,rfl⟩
   rw [hmr] at Gr
   rw [hmr]
   have gr:w12.heap.size≤mr:=Nat.le_of_eq hmr
   have lr:mr<w13.heap.size:=hmr ▸ hsz9
   clear hmr hsz9
   have nbr:mb<mr:=by omega
   replace Gb:=Gb.keep hb
   replace lb:mb<w13.heap.size:=by have:=hb.size;omega
   have npr:mp<mr:=by omega
   replace Gp:=Gp.keep hb
   replace lp:mp<w13.heap.size:=by have:=hb.size;omega
   replace gr:w1.heap.size≤mr:=by have:=hx.size;omega
   exact Zc):P:=h
theorem Zs {P:Prop} (h:P:=by
 replace hx:=Below.after2 hx (Nat.le_refl _) hb
 clear hb
 refine ⟨fun _=>hx,?_⟩
 (try simp only [tkp,tka,tkz,tks])
 refine tk2 1 2 ?_ ?_
 · refine Drawn.Step.value (u:= .map (some w12.heap.size)) (w':=w12.alloc (.map #[] 0)) tkL ?_
   obtain ⟨w13,hw9,Gb,hb,hsz9⟩:∃ w9,w9=w12.alloc (.map #[] 0)∧GM 3 w9 w12.heap.size 0 (fun _=>none)∧Below w12.heap.size w12 w9∧w12.heap.size<w9.heap.size:=⟨_,rfl,GM.made _ _,Below.alloc' (Below.refl _ _) _,by simp⟩
   rw [← hw9]
   clear hw9
   obtain ⟨mb,hmb⟩:∃ q,w12.heap.size=q:=⟨_,rfl⟩
   rw [hmb] at Gb
   rw [hmb]
   have gb:w12.heap.size≤mb:=Nat.le_of_eq hmb
   have lb:mb<w13.heap.size:=hmb ▸ hsz9
   clear hmb hsz9
   have nbp:mp<mb:=by omega
   replace Gp:=Gp.keep hb
   replace lp:mp<w13.heap.size:=by have:=hb.size;omega
   have nbr:mr<mb:=by omega
   replace Gr:=Gr.keep hb
   replace lr:mr<w13.heap.size:=by have:=hb.size;omega
   replace gb:w1.heap.size≤mb:=by have:=hx.size;omega
   exact Zc
 · refine Drawn.Step.call tkL (fkinds_any _) ?_
   rintro e w13 ⟨⟨mk,rfl,gk,Gk⟩,hb⟩
   have lk:mk<w13.heap.size:=by obtain ⟨_,_,q,_⟩:=Gk;exact q.lt
   have nkp:mp<mk:=by omega
   replace Gp:=Gp.keep hb
   replace lp:mp<w13.heap.size:=by have:=hb.size;omega
   have nkr:mr<mk:=by omega
   replace Gr:=Gr.keep hb
   replace lr:mr<w13.heap.size:=by have:=hb.size;omega
   replace gk:w1.heap.size≤mk:=by have:=hx.size;omega
   replace hx:=Below.after2 hx (Nat.le_refl _) hb
   clear hb
   refine ⟨_,rfl,fun _=>hx,?_⟩
   exact Z9):P:=h
theorem Zt {P:Prop} (h:P:=by
 refine bodyPost_end (results_none rfl _ _ _) rfl ⟨rfl,?_,Out.set (hO.mono fun _ _ q=>q.elim .inl fun q => .inr (.inl q)) (.inr (.inr rfl)) _ _⟩
 rw [HIN.out]
 simp only [Bool.not_true,Bool.or_false]
 exact Here.held hA h1' hp _):P:=h
theorem Zu {P:Prop} (h:P:=by
 refine sqt ?_
 (repeat (first | refine sqk ?_ | refine sqc ?_ (hc:=by intro w2 hS;first | with_reducible exact qaB hS (ffix_any _ _ _ _ _ _ _ _)) | refine sqv ?_))
 refine Drawn.seq_end ?_;intro w2 hS
 go_wp2
 go_ret
 exact ⟨ret_int E.out,Below.after2 hB (Nat.le_refl _) hS⟩):P:=h
theorem Zv {P:Prop} (h:P:=by
 rw [← heq.out,he0] at key
 have hF4:Hid (FRow (splice cs (k * 5) (itv x.it)) it (k + 1)):=Lib.hid fun i hi j hj=>by
  have hsz:k * 5 + (itv x.it).size≤cs.size:=by rw [itv_size];exact hfit
  by_cases ei:i=k
  · subst ei
    rw [splice_in hsz (by rw [itv_size];exact hj),hiq.out]
  · rw [splice_out hsz (.inl Z3f)]
    exact hF i Z3f j hj
 have hcs4:Hid ((splice cs (k * 5) (itv x.it)).size=m * 5):=Lib.hid (by rw [splice_size (by rw [itv_size];exact hfit)];exact hcs)
 have HA4:=Lib.hid A4
 have HB4:=Lib.hid hB4
 clear hW A2 A3 hB3 HBX3 HLD l2 A4 hB4 he0 hfit
 go_upto_region 8 with (first | (go_at_call 184;(with_reducible refine key.mono ?_);rintro e w5 ⟨rfl,hb5⟩) | (refine wpList_load_im Z3n _ rfl rfl Z3v ?_) | (refine wpList_load_im0 Z3n _ rfl rfl Z3v ?_) | (refine wpList_alloc_im Z3n rfl ?_) | (refine wpList_store_im0 Z3n _ _ rfl rfl rfl Z3l ?_))
 have A6:=HA4.out.keep hb5
 have hB6:=Below.after2 HB4.out (Nat.le_refl _) hb5
 clear hb5 key A5 hlf2
 go_wp2
 go_roundw
 case rel=>exact ⟨k + 1,_,by omega,by go_num,by rw [hlk.out],A6,hcs4.out,hF4.out,hB6⟩
 case measure=>simp [intOf];omega):P:=h
theorem Zw {P:Prop} (h:P:=by
 replace hx:=Below.after2 hx (Nat.le_refl _) hb
 clear hb
 refine ⟨fun _=>hx,?_⟩
 (try simp only [tkp,tka,tkz,tks])
 refine tk1 5 ?_
 refine Drawn.Step.value (exec_make_int (fun i=>szl.getD i 0) (n:=m) (.tmp 37) (.tmp 37) rfl rfl rfl Z3f) ?_
 obtain ⟨x13,hw9,As,hb⟩:∃ w9,w9=x12.alloc (.cells (stRow (fun i=>szl.getD i 0) m 0) 3)∧At w9 x12.heap.size (.cells (stRow (fun i=>szl.getD i 0) m 0) 3)∧Below x12.heap.size x12 w9:=⟨_,rfl,At.new _ _,Below.alloc' (Below.refl _ _) _⟩
 rw [← hw9]
 clear hw9
 have gs:=hx.size
 obtain ⟨Ts,hTs⟩:∃ q,x12.heap.size=q:=⟨_,rfl⟩
 rw [hTs] at As gs
 rw [hTs]
 have nsu:Tu<Ts:=by have:=Au.lt;omega
 replace Au:=Au.keep hb
 have nsv:Tv<Ts:=by have:=Av.lt;omega
 replace Av:=Av.keep hb
 clear hTs
 replace hx:=Below.after2 hx (Nat.le_refl _) hb
 clear hb
 refine ⟨fun _=>hx,?_⟩
 (try simp only [tkp,tka,tkz,tks])
 refine tkB 18 ?_
 refine tkB 19 ?_
 exact Z1y):P:=h
theorem Zx {P:Prop} (h:P:=by
 (try simp only [tkp,tka,tkz,tks])
 refine tk1 5 ?_
 refine Drawn.Step.call Z3r (fbyway_any _ _ _ _ _) ?_
 rintro e w14 ⟨rfl,hb⟩
 replace Ap:=Ap.keep hb
 replace Aq:=Aq.keep hb
 replace hx:=Below.after2 hx (Nat.le_refl _) hb
 clear hb
 refine ⟨_,rfl,fun _=>hx,?_⟩
 exact Z1):P:=h
theorem Zy {P:Prop} (h:P:=by
 refine tkB 18 ?_
 refine tkB 19 ?_
 refine tkB 20 ?_
 refine tkB 21 ?_
 refine tkB 22 ?_
 refine tkB 23 ?_
 refine tkE ?_
 replace A0:=A0.keep hx
 replace A1:=A1.keep hx
 replace A2:=A2.keep hx
 have hBx:Below w.heap.size w _:=Below.after2 hB1 (Nat.le_refl _) hx
 clear l0 c0_0 c0_1 c0_2 lY cY0 cY1 cY2 cY3 cY4 cY5 l2 c2_0 c2_1 c2_2 c2_3 c2_4 c2_5 c2_6 c2_7 c44 lbz hlk
 obtain ⟨l3,c3_0,c3_1⟩:=At.two A2
 obtain ⟨l4,c4_0,c4_1⟩:=At.two A1
 have z4_0:=A1.thaw 0
 have z4_1:=A1.thaw 1
 have lw:w.heap.size + 1<w.heap.size + 1 + 1:=by omega
 go_wp2
 generalize hW:World.setCell _ _ _=W6
 replace A1:At W6 (w.heap.size + 1) (.cells #[.int .i64 (-1),.int .i64 (-1)] 88):=hW ▸ At.set (At.set A1 0 _) 1 _
 have hB6:Below w.heap.size w W6:=by
  rw [← hW]
  exact Below.setCell (Below.setCell hBx (Nat.le_succ _) _) (Nat.le_succ _) _
 exact Z2k):P:=h
theorem Zz {P:Prop} (h:P:=by
 refine tk1 10 ?_
 have lp:=Ap.lt
 have zp0:=Ap.thaw 0
 have zp1:=Ap.thaw 1
 obtain ⟨_,cp0,cp1⟩:=At.two Ap
 refine Drawn.Step.skip tkL ?_
 generalize hW:World.setCell _ _ _=x1
 have Ap2:At x1 Tp (.cells #[.int .i64 e0,.int .i64 e1] 88):=hW ▸ At.set (At.set Ap 0 _) 1 _
 have hx1:Below w1.heap.size w1 x1:=by rw [← hW];exact Below.setCell (Below.setCell hx gp _) gp _
 refine ⟨fun _=>hx1,?_⟩
 (try simp only [tkp,tka,tkz,tks])
 refine tkE ?_
 exact ⟨rfl,Tp,_,_,_,_,_,_,_,_,_,rfl,gp,Ap2,hx1⟩):P:=h
theorem Z10 {P:Prop} (h:P:=by
 obtain ⟨it,ld,b,m0,m1,m2,m3⟩:=x
 have hlt:B<w.heap.size:=World.block_lt_of_cell? _ _ h
 go_enter Tryz.func189,Tryz.ntmps189
 go_upto_region 1 with (fail)
 have hB:Below w.heap.size w (w.alloc (.cells (imc ⟨it,ld,b,m0,m1,m2,m3⟩) 203)):=Below.alloc' (Below.refl _ _) _
 generalize hW:World.alloc _ _=W0
 have A0:At W0 w.heap.size (.cells (imc ⟨it,ld,b,m0,m1,m2,m3⟩) 203):=hW ▸ At.new _ _
 replace hB:Below w.heap.size w W0:=hW ▸ hB
 have lB:B<W0.heap.size:=Nat.lt_of_lt_of_le hlt hB.size
 have cB:=(Below.cell_ hB hlt 0).trans h
 clear hW h hlt
 obtain ⟨l0, -, -, -, -, -, -, -, -, d0,d1, -, -, -, c1,c2,c3,c4⟩:=At.im A0
 simp only at d0 d1 c1 c2 c3 c4
 exact Z1i):P:=h
theorem Z11 {P:Prop} (h:P:=by
 refine tkB 19 ?_
 refine tk1 17 ?_
 refine Drawn.Step.value (exec_make_int (fun i=>btl.getD i 0) (n:=m) (.tmp 49) (.tmp 49) rfl rfl rfl Z3f) ?_
 obtain ⟨x13,hw9,Au,hb⟩:∃ w9,w9=x12.alloc (.cells (stRow (fun i=>btl.getD i 0) m 0) 3)∧At w9 x12.heap.size (.cells (stRow (fun i=>btl.getD i 0) m 0) 3)∧Below x12.heap.size x12 w9:=⟨_,rfl,At.new _ _,Below.alloc' (Below.refl _ _) _⟩
 rw [← hw9]
 clear hw9
 have gu:=hx.size
 obtain ⟨Tu,hTu⟩:∃ q,x12.heap.size=q:=⟨_,rfl⟩
 rw [hTu] at Au gu
 rw [hTu]
 have nsu:Ts<Tu:=by have:=As.lt;omega
 replace As:=As.keep hb
 have nuv:Tv<Tu:=by have:=Av.lt;omega
 replace Av:=Av.keep hb
 clear hTu
 replace hx:=Below.after2 hx (Nat.le_refl _) hb
 clear hb
 refine ⟨fun _=>hx,?_⟩
 (try simp only [tkp,tka,tkz,tks])
 exact Z1y):P:=h
theorem Z12 {P:Prop} (h:P:=by
 refine tk1 11 ?_
 refine Drawn.Step.value (exec_make_int (fun i=>tpl.getD i 0) (n:=m) (.tmp 43) (.tmp 43) rfl rfl rfl Z3f) ?_
 obtain ⟨x13,hw9,Av,hb⟩:∃ w9,w9=x12.alloc (.cells (stRow (fun i=>tpl.getD i 0) m 0) 3)∧At w9 x12.heap.size (.cells (stRow (fun i=>tpl.getD i 0) m 0) 3)∧Below x12.heap.size x12 w9:=⟨_,rfl,At.new _ _,Below.alloc' (Below.refl _ _) _⟩
 rw [← hw9]
 clear hw9
 have gv:=hx.size
 obtain ⟨Tv,hTv⟩:∃ q,x12.heap.size=q:=⟨_,rfl⟩
 rw [hTv] at Av gv
 rw [hTv]
 have nsv:Ts<Tv:=by have:=As.lt;omega
 replace As:=As.keep hb
 have nuv:Tu<Tv:=by have:=Au.lt;omega
 replace Au:=Au.keep hb
 clear hTv
 replace hx:=Below.after2 hx (Nat.le_refl _) hb
 clear hb
 refine ⟨fun _=>hx,?_⟩
 (try simp only [tkp,tka,tkz,tks])
 refine tkB 19 ?_
 exact Z1y):P:=h
theorem Z13 {P:Prop} (h:P:=by
 refine sqt ?_
 (repeat (first | refine sqk ?_ | refine sqc ?_ (hc:=by intro w2 hS;first | with_reducible exact qaB hS (fall_any _ _ _)) | refine sqv ?_))
 refine Drawn.seq_end ?_;intro w2 hS
 go_wp2
 go_ret
 exact ⟨ret_int (by rw [← E.out];(try simp only [wr64,wri]);(try rfl)),Below.after2 hB (Nat.le_refl _) hS⟩):P:=h
theorem Z14 {P:Prop} (h:P:=by
 have hO:Out (Of3 mine bs bw) w w:=Out.refl _ _
 go_enter Tryz.func168,Tryz.ntmps168
 go_wp2
 refine wp_loop_rounds 5 ?_
 rw [rounds_succ]
 go_wp2_with (go_at_call 167;(with_reducible refine (onlen_any hA h hp Z3i rfl rfl).mono ?_);rintro e w1 ⟨rfl,h1,hO1⟩;replace hO:=hO.trans hO1;clear h hO1)
 rw [rounds_succ]
 go_wp2_with (go_at_call 167;(with_reducible refine (onlen_any hA h1 hp Z3i rfl rfl).mono ?_);rintro e w2 ⟨rfl,h2,hO1⟩;replace hO:=hO.trans hO1;clear h1 hO1)
 rw [rounds_succ]
 go_wp2_with (go_at_call 167;(with_reducible refine (onlen_any hA h2 hp Z3i rfl rfl).mono ?_);rintro e w3 ⟨rfl,h3,hO1⟩;replace hO:=hO.trans hO1;clear h2 hO1)
 rw [rounds_succ]
 go_wp2_with (go_at_call 167;(with_reducible refine (onlen_any hA h3 hp Z3i rfl rfl).mono ?_);rintro e w4 ⟨rfl,h4,hO1⟩;replace hO:=hO.trans hO1;clear h3 hO1)
 rw [rounds_succ]
 go_wp2
 go_end0
 exact ⟨rfl,h4,hO⟩):P:=h
theorem Z15 {P:Prop} (h:P:=by
 (try simp only [tkp,tka,tkz,tks])
 refine tk1 3 ?_
 refine Drawn.Step.call tkL (fshare_any A (Fe.ws gr S n) _ c (Fe.free gr room S n) _ (hIw.after hx) hL Z3f) ?_
 rintro e w4 ⟨⟨b,rfl,hbb,hIb⟩,hb⟩
 have hx3:=hx.size
 replace hx:=Below.after2 hx (Nat.le_refl _) hb
 replace hA9:=hA9.keep hb
 have hc9:w4.cell? ⟨B5,0,none⟩=some (.slice none 0 0):=hA9.cell 0
 have hz9:=hA9.thaw 0
 have hl9:=hA9.lt
 have hx4:=hx.size
 clear hb
 refine ⟨_,rfl,fun _=>⟨(hV.keep hx).cell 0,(hB1.keep hx).cell 0⟩,?_⟩
 (try simp only [tkp,tka,tkz,tks])
 refine tk1 5 ?_
 refine Drawn.Step.skip Z4a ?_;refine ⟨by first | (intro hlt;exact absurd hlt Z3i) | (intro _;omega),?_⟩;(try simp only [Act.put])
 refine tkE ?_
 exact ⟨rfl,b,B5,rfl,by omega,by omega,hA9.set 0 _,hIb.off Z3f _,Below.setCell hx Z3f _⟩):P:=h
theorem Z16 {P:Prop} (h:P:=by
 have hO:Out (Of3 mine bs bw) w w:=Out.refl _ _
 go_enter Tryz.func169,Tryz.ntmps169
 go_wp2
 refine wp_loop_rounds 5 ?_
 rw [rounds_succ]
 go_wp2_with (go_at_call 170;(with_reducible refine (oni_any hA h hp Z3i rfl).mono ?_);rintro e w1 ⟨rfl,h1,hO1⟩;replace hO:=hO.trans hO1;clear h hO1)
 rw [rounds_succ]
 go_wp2_with (go_at_call 170;(with_reducible refine (oni_any hA h1 hp Z3i rfl).mono ?_);rintro e w2 ⟨rfl,h2,hO1⟩;replace hO:=hO.trans hO1;clear h1 hO1)
 rw [rounds_succ]
 go_wp2_with (go_at_call 170;(with_reducible refine (oni_any hA h2 hp Z3i rfl).mono ?_);rintro e w3 ⟨rfl,h3,hO1⟩;replace hO:=hO.trans hO1;clear h2 hO1)
 rw [rounds_succ]
 go_wp2_with (go_at_call 170;(with_reducible refine (oni_any hA h3 hp Z3i rfl).mono ?_);rintro e w4 ⟨rfl,h4,hO1⟩;replace hO:=hO.trans hO1;clear h3 hO1)
 rw [rounds_succ]
 go_wp2
 go_end0
 exact ⟨rfl,h4,hO⟩):P:=h
theorem Z17 {P:Prop} (h:P:=by
 clear HANS hg1 hg0
 refine sqt ?_
 (repeat (first | refine sqk ?_ | refine sqc ?_ (hc:=by intro w2 hS;first | with_reducible exact qaB hS (ffix_any _ _ _ _ _ _ _ _)) | refine sqv ?_))
 refine Drawn.seq_end ?_;intro w2 hS
 replace A0:=A0.keep hS
 replace A2:=A2.keep hS
 replace hB:=Below.after2 hB (Nat.le_refl _) hS
 clear l0 c0_0 c0_1 l2 c2_0 c2_1 c2_2 c2_3 c2_4 c2_5 c2_6 c2_7 hS hfx
 obtain ⟨l0,c0_0,c0_1⟩:=A0.two
 go_upto_region 5 with (fail)
 refine sqt ?_
 (repeat (first | refine sqk ?_ | refine sqc ?_ (hc:=by intro w2 hS;first | with_reducible exact qaB hS (fmargins_any _ _ _ _ _ _ _ _ Z49) | with_reducible exact qaB hS (fall_any _ _ _)) | refine sqv ?_))
 refine Drawn.seq_end ?_;intro w2 hS
 go_wp2
 go_ret
 exact ⟨ret_int (by rw [← E.out];(try simp only [wr64,wri]);rfl),Below.after2 hB (Nat.le_refl _) hS⟩):P:=h
theorem Z18 {P:Prop} (h:P:=by
 (try simp only [tkp,tka,tkz,tks])
 refine tk1 7 ?_
 refine Drawn.Step.value (u:= .pointer (some ⟨w13.heap.size,0,none⟩)) (w':=w13.alloc (.cells #[.int .i64 0,.int .i64 0,.int .i64 0,.int .i64 0] 139)) tkL ?_
 obtain ⟨w14,hw9,Aq,hb⟩:∃ w9,w9=w13.alloc (.cells #[.int .i64 0,.int .i64 0,.int .i64 0,.int .i64 0] 139)∧At w9 w13.heap.size (.cells #[.int .i64 0,.int .i64 0,.int .i64 0,.int .i64 0] 139)∧Below w13.heap.size w13 w9:=⟨_,rfl,At.new _ _,Below.alloc' (Below.refl _ _) _⟩
 rw [← hw9]
 clear hw9
 have gq:=hx.size
 obtain ⟨Tq,hTq⟩:∃ q,w13.heap.size=q:=⟨_,rfl⟩
 rw [hTq] at Aq gq
 rw [hTq]
 have kq:w13.heap.size≤Tq:=Nat.le_of_eq hTq
 clear hTq
 have npq:Tp≠Tq:=by have:=Ap.lt;omega
 replace Ap:=Ap.keep hb
 replace hx:=Below.after2 hx (Nat.le_refl _) hb
 clear hb
 refine ⟨fun _=>hx,?_⟩
 exact Z1):P:=h
theorem Z19 {P:Prop} (h:P:=by
 (try simp only [tkp,tka,tkz,tks])
 refine tk1 6 ?_
 refine Drawn.Step.value (u:= .pointer (some ⟨w13.heap.size,0,none⟩)) (w':=w13.alloc (.cells #[.int .i64 0,.int .i64 0,.int .i64 0,.int .i64 0] 139)) tkL ?_
 obtain ⟨w14,hw9,Ap,hb⟩:∃ w9,w9=w13.alloc (.cells #[.int .i64 0,.int .i64 0,.int .i64 0,.int .i64 0] 139)∧At w9 w13.heap.size (.cells #[.int .i64 0,.int .i64 0,.int .i64 0,.int .i64 0] 139)∧Below w13.heap.size w13 w9:=⟨_,rfl,At.new _ _,Below.alloc' (Below.refl _ _) _⟩
 rw [← hw9]
 clear hw9
 have gp:=hx.size
 obtain ⟨Tp,hTp⟩:∃ q,w13.heap.size=q:=⟨_,rfl⟩
 rw [hTp] at Ap gp
 rw [hTp]
 have kp:w13.heap.size≤Tp:=Nat.le_of_eq hTp
 clear hTp
 have npq:Tq≠Tp:=by have:=Aq.lt;omega
 replace Aq:=Aq.keep hb
 replace hx:=Below.after2 hx (Nat.le_refl _) hb
 clear hb
 refine ⟨fun _=>hx,?_⟩
 exact Z1):P:=h
theorem Z1a {P:Prop} (h:P:=by
 clear hfx
 refine tkX (S:=fun X=>Below W5.heap.size W5 X) 15 ?_ ?_
 · exact hSd
 intro hx
 clear hSd
 refine tkB 0 ?_
 refine tkB 1 ?_
 refine tkB 2 ?_
 refine tkB 3 ?_
 refine tkB 4 ?_
 refine tkB 5 ?_
 refine tkB 6 ?_
 refine tkB 7 ?_
 refine tkR 8 rfl (reads_ext0 (.tmp 38) Z3n rfl rfl (fun X h=>HBX1.out.keep h)) ?_
 refine tkB 9 ?_
 refine tkB 10 ?_
 refine tkB 11 ?_
 refine tk1 12 ?_
 refine Drawn.Step.call Z3x (ffix_any _ _ _ _ _ _ _ _) ?_
 rintro e' w6 ⟨rfl,hb⟩
 rw [HFX.out]
 replace hx:=Below.after2 hx (Nat.le_refl _) hb
 clear hb
 refine ⟨_,rfl,fun _=>hx,?_⟩
 (try simp only [tkp,tka,tkz,tks])
 refine tkB 13 ?_
 refine tkB 14 ?_
 refine tkE ?_
 exact ⟨rfl,_,_,_,_,_,_,_,_,_,_,_,_,_,_,_,rfl,HBB,hx⟩):P:=h
theorem Z1b {P:Prop} (h:P:=by
 generalize hW:World.setCell _ _ _=W5
 have A5:At W5 b (.cells (stRow v m (k + 1)) 3):=by rw [← hW, ← stRow_set _ hlt];exact A4.set k _
 have hB5:Below w.heap.size w W5:=hW ▸ Below.setCell (Below.after2 hB3 (Nat.le_refl _) hb4) (Nat.le_of_eq hsz) _
 clear hW A4 A3 A2 hb4 lb4 zb4 cb4
 go_wp2
 go_roundw
 case rel=>exact ⟨k + 1,by omega,by go_num,A5,hB5⟩
 case measure=>simp [intOf];omega):P:=h
theorem Z1c {P:Prop} (h:P:=by
 rintro e w' ⟨rfl,h1,hO⟩
 rw [ins_len,mix_set_int f t hb, ← Re.num_c hb, ← ins_succ] at h1
 exact ⟨rfl,h1,hO⟩):P:=h
theorem Z1d {P:Prop} (h:P:=by
 (try simp only [tkp,tka,tkz,tks])
 refine tk1 16 ?_
 refine Drawn.Step.value (exec_alloc_sty rfl) ?_
 obtain ⟨x14,hw9,Aq,hb⟩:∃ w9,w9=x13.alloc (.cells (cells Re.zero) 37)∧At w9 x13.heap.size (.cells (cells Re.zero) 37)∧Below x13.heap.size x13 w9:=⟨_,rfl,At.new _ _,Below.alloc' (Below.refl _ _) _⟩
 rw [← hw9]
 clear hw9
 have gq:=hx.size
 obtain ⟨Tq,hTq⟩:∃ q,x13.heap.size=q:=⟨_,rfl⟩
 have nq:¬ P2 Tq:=fun h=>by have:=hLS.lt _ h;omega
 rw [hTq] at Aq gq
 rw [hTq]
 have npq:Tp<Tq:=by have:=Ap.lt;omega
 clear hTq
 replace Ap:=Ap.keep hb
 exact Z38):P:=h
theorem Z1e {P:Prop} (h:P:=by
 refine tk1 19 ?_
 have lT:=AT.lt
 have cT0:=AT.cell 0
 have cT1:=AT.cell 1
 simp only [List.getElem?_toArray,List.getElem?_cons_zero,List.getElem?_cons_succ] at cT0 cT1
 have zT0:=AT.thaw 0
 have zT1:=AT.thaw 1
 refine Drawn.Step.skip tkL ?_
 generalize hW:World.setCell _ _ _=w11
 have AT2:At w11 T (.cells #[.int .i64 x.ld.s0,.int .i64 hh] 88):=hW ▸ (AT.set 0 _).set 1 _
 have hx2:Below w7.heap.size w7 w11:=hW ▸ Below.setCell (Below.setCell hx gT _) gT _
 refine ⟨fun _=>hx2,?_⟩
 (try simp only [tkp,tka,tkz,tks])
 refine tkE ?_
 exact ⟨rfl,T,_,_,_,_,_,_,_,_,_,_,_,_,_,_,_,_,_,_,rfl,gT,AT2,hx2⟩):P:=h
theorem Z1f {P:Prop} (h:P:=by
 (try simp only [tkp,tka,tkz,tks])
 refine tk1 8 ?_
 have lT:=AT.lt
 have cT0:=AT.cell 0
 have cT1:=AT.cell 1
 simp only [List.getElem?_toArray,List.getElem?_cons_zero,List.getElem?_cons_succ] at cT0 cT1
 have zT0:=AT.thaw 0
 have zT1:=AT.thaw 1
 refine Drawn.Step.skip tkL ?_
 generalize hW:World.setCell _ _ _=w11
 have AT2:At w11 U (.cells #[.int .i64 cs0,.int .i64 (-1)] 88):=hW ▸ (AT.set 0 _).set 1 _
 have hx2:Below wr.heap.size wr w11:=hW ▸ Below.setCell (Below.setCell hx gT _) gT _
 refine ⟨fun _=>hx2,?_⟩
 (try simp only [tkp,tka,tkz,tks])
 refine tkE ?_
 exact ⟨rfl,U,_,_,_,_,_,_,_,rfl,gT,AT2,hx2⟩):P:=h
theorem Z1g {P:Prop} (h:P:=by
 rw [hf] at d7
 generalize Fe.left room S k=u at *
 generalize (S k).x.b=v0 at *
 generalize (S k).x.lo=v1 at *
 generalize (S k).x.hi=v2 at *
 generalize (S k).x.g=v3 at *
 generalize (S k).x.s=v4 at *
 generalize (S k).z=v5 at *
 generalize (S k).m=v6 at *
 go_wp2
 go_roundw
 case rel=>exact ⟨k + 1,by omega,by go_num,by rw [HL.out],by (repeat (first | exact Below.refl _ _ | assumption | refine Below.drew ?_ | refine Below.drewN ?_ _ | refine Below.alloc' ?_ _ | refine Below.setCell ?_ Z44 _ | refine Below.after2 ?_ (Nat.le_refl _) Z3v))⟩
 case measure=>simp [intOf];omega):P:=h
theorem Z1h {P:Prop} (h:P:=by
 go_wp2
 rw [rounds_succ]
 go_wp2
 refine bodyPost_end (results_none rfl _ _ _) rfl ⟨rfl,?_,Out.trans' (Out.of_below hW1) hQ fun b _ q=>q⟩
 rw [show x0=Fw.mv1 s 0 r0 a0 from by rw [← HX0.out];exact if_pos HP.out,show x1=Fw.mv1 s 1 r1 a1 from by rw [← HX1.out];exact if_pos HP.out,HC1.out]
 exact AR):P:=h
theorem Z1i {P:Prop} (h:P:=by
 refine sqt ?_
 (repeat (first | refine sqk ?_ | refine sqc ?_ (hc:=by intro w2 hS;first | with_reducible exact qaB hS (fall_any _ _ _)) | refine sqv ?_))
 exact Z3b):P:=h
theorem Z1j {P:Prop} (h:P:=by
 have HOP:=Lib.hid hop
 clear hop
 go_wp2_with ((go_at_call 140;(with_reducible refine (fopen1 bz s (.slice A fl.length cp) va ib _ A2).mono ?_);rintro e w3 ⟨rfl,hb⟩;replace AM:=AM.keep hb;replace hB:=Below.after2 hB (Nat.le_refl _) hb;replace A2:=At.keep A2 hb;replace c71:=((bcell hb).1 _ _ l2).trans c71;replace l2:=Nat.lt_of_lt_of_le l2 hb.size;clear hb;rw [HOP.out]))
 refine bodyPost_ret (results_tmp rfl _ _ _) rfl ⟨⟨_,rfl,?_⟩,hB⟩
 have hm:Fw.meet B 1 0 z=[Fw.mg s 1 1 (-1)]:=by
  simp only [Fw.meet,hs]
 rw [hm]
 exact own_one AM hgm):P:=h
theorem Z1k {P:Prop} (h:P:=by
 have HOP:=Lib.hid hop
 clear hop
 go_wp2_with ((go_at_call 140;(with_reducible refine (fopen0 bz s (.slice A fl.length cp) va ib _ A2).mono ?_);rintro e w3 ⟨rfl,hb⟩;replace AM:=AM.keep hb;replace hB:=Below.after2 hB (Nat.le_refl _) hb;replace A2:=At.keep A2 hb;replace c71:=((bcell hb).1 _ _ l2).trans c71;replace l2:=Nat.lt_of_lt_of_le l2 hb.size;clear hb;rw [HOP.out]))
 refine bodyPost_ret (results_tmp rfl _ _ _) rfl ⟨⟨_,rfl,?_⟩,hB⟩
 have hm:Fw.meet B 0 0 z=[Fw.mg s 1 0 (-1)]:=by
  simp only [Fw.meet,hs]
 rw [hm]
 exact own_one AM hgm):P:=h
theorem Z1l {P:Prop} (h:P:=by
 intro l i W G hi hG
 (simp only [List.setIfInBounds_toArray,List.set_cons_zero,List.set_cons_succ] at hG)
 gi_wp2
 first | exact hG | simpa using hG):P:=h
theorem Z1m {P:Prop} (h:P:=by
 clear e1
 go_wp2
 go_meet
 case rel=>exact ⟨by rw [E1.out],Below.refl _ _⟩):P:=h
theorem Z1n {P:Prop} (h:P:=by
 refine bodyPost_end (results_none rfl _ _ _) rfl ⟨rfl,⟨?_,?_,?_⟩,?_⟩
 · rw [ins_succ,HX.out]
   exact hA.set _ _ _ _ _ h2.i hp.nb
 · have:=a2.set k (.bool (f k (Re.num t k) == 1))
   rw [mix_set_bool f t HB.out, ← HY.out] at this
   exact this
 · rw [← HY.out]
   exact h2.w.off (Ne.symm hp.ne) _ _
 · refine Out.set ?_ (.inr (.inl rfl)) _ _
   exact Out.trans' (Out.of_below (Below.alloc' (Below.refl _ _) _)) hO2 fun b hb q=>q.elim .inl fun q=>q.elim (fun q=>absurd q (Nat.ne_of_lt hb)) fun q => .inr (.inr q)):P:=h
theorem Z1o {P:Prop} (h:P:=by
 replace hLS:=hLS.after hb
 replace hx:=Out.trans' hx (Out.of_below (M:=fun _=>False) hb) fun _ _ q=>q.elim
 clear hb
 refine ⟨fun _=>hx,?_⟩
 (try simp only [tkp,tka,tkz,tks])
 refine tk1 4 ?_
 refine Drawn.Step.call tkL (funset_any _) ?_
 rintro e x13 ⟨rfl,hb⟩
 replace Ap:=Ap.keep hb
 replace Aq:=Aq.keep hb
 replace hLS:=hLS.after hb
 replace hx:=Out.trans' hx (Out.of_below (M:=fun _=>False) hb) fun _ _ q=>q.elim
 clear hb
 refine ⟨_,rfl,fun _=>hx,?_⟩
 exact Zd):P:=h
theorem Z1p {P:Prop} (h:P:=by
 obtain rfl:k=m:=by omega
 have hI:=hF.items A1
 have key:=xsizes_any (some ⟨b,0,none⟩) it k k (lfts r ex k) wr hI hl
 obtain ⟨lf,hlf⟩:∃ lf,lfts r ex k=lf:=⟨_,rfl⟩
 rw [hlf] at key ⊢
 have HLF:=Lib.hid hlf
 clear hI hF hcs A1 hlf
 go_wp2_with (go_at_call 209;(with_reducible refine key.mono ?_);rintro e w5 ⟨⟨b5,rfl,hb5l,hI5⟩,hb5⟩)
 go_ret
 exact ⟨⟨b5,rfl,Nat.le_trans hB.size hb5l,HLF.out.symm ▸ hI5⟩,hB.trans (hb5.mono hB.size)⟩):P:=h
theorem Z1q {P:Prop} (h:P:=by
 go_enter Tryz.func31,Tryz.ntmps31
 go_wp2_with (first | (go_at_call 59;with_reducible refine qmE (cut_any _ _) ?_) | (go_at_call 30;(with_reducible refine (fixed_any _ _ _ _).mono ?_);rintro e w' ⟨rfl,hb⟩;(try replace hb:=Below.after Z3v hb);obtain ⟨hc,hf⟩:=bcell hb;have hz:=hb.size;(try simp at hz)) | (go_at_call 60;with_reducible refine qmE (part_any _ _ _) ?_))
 all_goals go_ret
 all_goals
  refine ⟨ret_int Hr.out.symm,?_⟩
  exact Z6):P:=h
theorem Z1r {P:Prop} (h:P:=by
 unfold execOp
 simp only [ho,resolve,invoke,builtin,Sem.run_bind,Sem.run_pure,Result.andThen_ok,List.map_toArray,List.map_cons,List.map_nil,hs,hx,hrun]):P:=h
theorem Z1s {P:Prop} (h:P:=by
 replace hx:=Below.after2 hx (Nat.le_refl _) hb
 clear hb
 refine ⟨fun _=>hx,?_⟩
 (try simp only [tkp,tka,tkz,tks])
 refine tk1 2 ?_
 refine Drawn.Step.call Z3r (fbyway_any _ _ _ _ _) ?_
 rintro e w13 ⟨rfl,hb⟩
 replace Ap:=Ap.keep hb
 replace Aq:=Aq.keep hb
 replace hx:=Below.after2 hx (Nat.le_refl _) hb
 clear hb
 refine ⟨_,rfl,fun _=>hx,?_⟩
 exact Zx):P:=h
theorem Z1t {P:Prop} (h:P:=by
 go_enter Tryz.func152,Tryz.ntmps152
 go_wp2_with (first | (go_at_call 176;with_reducible refine qmE (sub_any _ _ _) ?_) | (go_at_call 192;with_reducible refine qmE (div_any _ _ _) ?_))
 go_ret
 exact ⟨ret_int Hr.out.symm,rfl⟩):P:=h
theorem Z1u {P:Prop} (h:P:=by exact hy.of_same (execOp_put oi (fun cs b=>hsel i oi cs b hi) a oj.dst u a3) (wanted_put oi a oj.dst u a3)):P:=h
theorem Z1v {P:Prop} (h:P:=by
 have h1:=splice_in (cs:=cs') (vs:=ldc ly) (q:=q + k * 17 + 5) (j:=0) Z4c (by rw [ldc_size];omega)
 rw [Nat.add_zero] at h1
 rw [hA11.cell,h1, ← hlyid]
 rfl):P:=h
theorem Z1w {P:Prop} (h:P:=by
 go_enter Tryz.func26,Tryz.ntmps26
 go_wp2_with (go_at_call 33;(with_reducible refine key.mono ?_);rintro e w' ⟨rfl,rfl⟩)
 go_ret2
 exact ⟨rfl,L,n,HR.out,by omega,Grow.refl _ _ _ _⟩):P:=h
theorem Z1x {P:Prop} (h:P:=by
 refine ⟨_,rfl,fun _=>K.out _ hb15,?_⟩
 (try simp only [tkp,tka,tkz,tks])
 clear hS0
 have hS0:=K.out _ hb15
 refine tkC 13 ?_
 refine tkC 16 ?_
 refine tkC 17 ?_
 refine tkC 18 ?_
 refine tk1 19 ?_
 refine tkV ?_ (hS:=by first | (intro hlt;exact absurd hlt Z3i) | (intro _;omega))
 refine tkE ?_
 go_wp2
 go_ret
 exact ⟨rfl,HB11.trans (hb15.mono HB11.size)⟩):P:=h
theorem Z1y {P:Prop} (h:P:=by
 refine tkB 20 ?_
 refine tkE ?_
 exact ⟨rfl,Ts,Tv,Tu,_,_,_,_,_,_,_,_,_,_,_,_,_,_,_,_,_,_,rfl,⟨gs,gv,gu⟩,⟨by omega,by omega,by omega⟩,As,Av,Au,hx⟩):P:=h
theorem Z1z {P:Prop} (h:P:=by
 intro q hq
 by_cases hqi:q=i
 · subst hqi
   have hun:=(mem_ready.1 (show q ∈ Region.ready md ops listed by simpa using hr)).1
   have hlt:q<listed.size:=by
    rcases Nat.lt_or_ge q listed.size with h' | h'
    · exact h'
    · simp [Array.getElem?_eq_none h'] at hun
   simp [hlt]
 · rw [getD_set_ne true (Ne.symm hqi)];exact hl q Z3f):P:=h
theorem Z20 {P:Prop} (h:P:=by
 by_cases e:y=kl
 · subst e
   rw [gset_same]
   exact ⟨fun z=>by rw [Maps.atKey_put_same h1.isMap (K.key hkey)];rfl,by rw [Maps.has_put_same h1.isMap (K.key hkey)];rfl⟩
 · rw [gset_off e]
   exact ⟨fun z=>by rw [Maps.atKey_put_other e];exact (h3 y hy).1 z,by rw [Maps.has_put_other e];exact (h3 y hy).2⟩):P:=h
theorem Z21 {P:Prop} (h:P:=by
 go_ret
 exact ⟨rfl,rfl⟩):P:=h
theorem Z22 {P:Prop} (h:P:=by
 have e:((l.take k).mapIdx g).length=k:=by simp;omega
 have e2:(l.take k).length=k:=by simp;omega
 rw [List.set_append,if_neg Z3f,e,Nat.sub_self,List.drop_eq_getElem_cons hk,List.set_cons_zero,List.take_succ_eq_append_getElem hk,List.mapIdx_concat,e2,List.append_assoc]
 rfl):P:=h
theorem Z23 {P:Prop} (h:P:=by
 (try simp only [tkp,tka,tkz,tks])
 refine tk1 7 ?_
 refine Drawn.Step.call tkL (keyd _ hx) ?_
 rintro e w13 ⟨rfl,hb⟩
 replace Ap:=Ap.keep hb
 replace hx:=Below.after2 hx (Nat.le_refl _) hb
 clear hb
 refine ⟨_,rfl,fun _=>hx,?_⟩
 (try simp only [tkp,tka,tkz,tks])
 refine tkB 8 ?_
 exact Zz):P:=h
theorem Z24 {P:Prop} (h:P:=by
 go_enter Tryz.func175,Tryz.ntmps175
 go_wp2_with (first | (go_at_call 205;refine (toldE_any hA h hp hx HO.out HY.out).mono ?_;rintro e w1 ⟨rfl,h1',hO⟩;have cx1:=(h1'.a.cell o).trans HGO.out) | (go_at_call 196;refine (hold_any h1'.w).mono ?_;rintro e w2 ⟨rfl,rfl⟩))
 exact Ze):P:=h
theorem Z25 {P:Prop} (h:P:=by
 go_enter Tryz.func174,Tryz.ntmps174
 go_wp2_with (first | (go_at_call 204;refine (toldK_any hA h hp hx HO.out HY.out).mono ?_;rintro e w1 ⟨rfl,h1',hO⟩;have cx1:=(h1'.a.cell o).trans HGO.out) | (go_at_call 196;refine (hold_any h1'.w).mono ?_;rintro e w2 ⟨rfl,rfl⟩))
 exact Ze):P:=h
theorem Z26 {P:Prop} (h:P:=by
 go_enter Tryz.func172,Tryz.ntmps172
 go_wp2_with (first | (go_at_call 203;refine (toldA_any hA h hp hx HO.out HY.out).mono ?_;rintro e w1 ⟨rfl,h1',hO⟩;have cx1:=(h1'.a.cell o).trans HGO.out) | (go_at_call 196;refine (hold_any h1'.w).mono ?_;rintro e w2 ⟨rfl,rfl⟩))
 exact Ze):P:=h
theorem Z27 {P:Prop} (h:P:=by
 go_enter Tryz.func171,Tryz.ntmps171
 go_wp2_with (first | (go_at_call 202;refine (toldJ_any hA h hp hx HO.out HY.out).mono ?_;rintro e w1 ⟨rfl,h1',hO⟩;have cx1:=(h1'.a.cell o).trans HGO.out) | (go_at_call 196;refine (hold_any h1'.w).mono ?_;rintro e w2 ⟨rfl,rfl⟩))
 exact Ze):P:=h
theorem Z28 {P:Prop} (h:P:=by
 go_enter Tryz.func170,Tryz.ntmps170
 go_wp2_with (first | (go_at_call 200;refine (toldi_any hA h hp hx HO.out HY.out).mono ?_;rintro e w1 ⟨rfl,h1',hO⟩;have cx1:=(h1'.a.cell o).trans HGO.out) | (go_at_call 196;refine (hold_any h1'.w).mono ?_;rintro e w2 ⟨rfl,rfl⟩))
 exact Ze):P:=h
theorem Z29 {P:Prop} (h:P:=by
 go_enter Tryz.func166,Tryz.ntmps166
 go_wp2_with (first | (go_at_call 198;refine (toldO_any hA h hp hx HO.out HY.out).mono ?_;rintro e w1 ⟨rfl,h1',hO⟩;have cx1:=(h1'.a.cell o).trans HGO.out) | (go_at_call 196;refine (hold_any h1'.w).mono ?_;rintro e w2 ⟨rfl,rfl⟩))
 exact Ze):P:=h
theorem Z2a {P:Prop} (h:P:=by
 go_enter Tryz.func165,Tryz.ntmps165
 go_wp2_with (first | (go_at_call 197;refine (toldP_any hA h hp hx HO.out HY.out).mono ?_;rintro e w1 ⟨rfl,h1',hO⟩;have cx1:=(h1'.a.cell o).trans HGO.out) | (go_at_call 196;refine (hold_any h1'.w).mono ?_;rintro e w2 ⟨rfl,rfl⟩))
 exact Ze):P:=h
theorem Z2b {P:Prop} (h:P:=by
 go_enter Tryz.func164,Tryz.ntmps164
 go_wp2_with (first | (go_at_call 195;refine (toldD_any hA h hp hx HO.out HY.out).mono ?_;rintro e w1 ⟨rfl,h1',hO⟩;have cx1:=(h1'.a.cell o).trans HGO.out) | (go_at_call 196;refine (hold_any h1'.w).mono ?_;rintro e w2 ⟨rfl,rfl⟩))
 exact Ze):P:=h
theorem Z2c {P:Prop} (h:P:=by
 show ks.length - (intOf (.int .i64 (wrap64 ((k:Int) + 1)))).toNat<ks.length - (intOf (.int .i64 (k:Int))).toNat
 rw [hwk];exact meas_k HLT.out):P:=h
theorem Z2d {P:Prop} (h:P:=by
 go_wp2_with (first | (refine wpList_load_style Z3n _ rfl rfl HX1 ?_) | (go_at_call 13;(with_reducible refine (kT _).mono ?_);rintro e w2 ⟨rfl,hb2⟩;have d1:=d1 _ hb2;have lb1:=Nat.lt_of_lt_of_le lb1 hb2.size))
 go_ret
 exact ⟨rfl,HB1.trans (hb2.mono HB1.size)⟩):P:=h
theorem Z2e {P:Prop} (h:P:=by
 go_wp2
 go_roundw
 case rel=>exact ⟨k + 1,by omega,by go_num,Lib.hid (HS.out.trans HV.out),trivial⟩
 case measure=>simp [intOf];omega):P:=h
theorem Z2f {P:Prop} (h:P:=by
 have k:=fitems hK z i0 i1 hz (by rw [HFL.out];exact fun k hk=>(HDN.out k hk).1) (by rw [HFL.out,HM.out];omega) w3 hR3
 rw [HFL.out,HM.out, ← HX0.out] at k
 exact k.mono fun e w' ⟨⟨R,cs,h1,h2,h3,h4,h5⟩,h6⟩=>⟨⟨R,0,cs,h1,h2,h3,h4⟩,h6⟩):P:=h
theorem Z2g {P:Prop} (h:P:=by
 go_wp2_with (go_at_call 144;(with_reducible refine key2.mono ?_);rintro e' w4 ⟨⟨b,rfl,gb,hT⟩,hb4⟩)
 go_ret
 exact ⟨⟨b,rfl,Nat.le_trans hsz gb,by rw [← HANS.out];exact jints_of_made _ _ Z3y hT⟩,HB1.out.trans (hb4.mono hsz)⟩):P:=h
theorem Z2h {P:Prop} (h:P:=by rcases (by omega:j=0∨j=1∨j=2∨j=3∨j=4∨j=5∨j=6) with rfl | rfl | rfl | rfl | rfl | rfl | rfl <;> rfl):P:=h
theorem Z2i {P:Prop} (h:P:=by
 rw [← hW]
 exact Out.set (M:=fun b=>b=w.heap.size + 1) (Out.set (M:=fun b=>b=w.heap.size + 1) (Out.refl _ _) rfl 0 _) rfl 1 _):P:=h
theorem Z2j {P:Prop} (h:P:=by
 have hlen:os.length=t:=by rw [← hd,List.length_drop,hm];omega
 refine ⟨fun q hq=>hl q Z3f,fun w hS => ?_⟩
 have:=tail_any (P:=P) (Q:=Q) os i listed a w hd (by rw [hlen];simpa only [textOk] using hk) (h w hS)
 rw [hlen] at this;exact this):P:=h
theorem Z2k {P:Prop} (h:P:=by
 clear hW c4_0 c4_1 z4_0 z4_1
 obtain ⟨l4,c4_0,c4_1⟩:=At.two A1
 refine bodyPost_ret (v:= .agg #[.int .i64 _,.int .i64 _]) (by simp [results,Tryz.results147,go_sem, *];first | done | exact ⟨rfl,rfl⟩ | rfl) rfl ⟨by rw [← E.out],hB6⟩):P:=h
theorem Z2l {P:Prop} (h:P:=by
 go_wp2
 go_ret
 exact ⟨ret_bool (by rw [HV.out]),by rw [HBOX.out];exact HBW.out⟩):P:=h
theorem Z2m {P:Prop} (h:P:=by
 rcases hb with e | e | ⟨y,yd,hy,e⟩
 · exact .inl e
 · exact .inr (.inl e)
 · by_cases e2:y=z
   · subst e2;exact .inr (.inr ⟨y,nd,hz,e⟩)
   · rw [Tr.set_other _ _ e2] at hy;exact .inr (.inr ⟨y,yd,hy,e⟩)):P:=h
theorem Z2n {P:Prop} (h:P:=by simp only [List.map_append,List.sum_append,List.map_cons,List.map_nil,List.sum_cons,List.sum_nil,Nat.add_zero]):P:=h
theorem Z2o {P:Prop} (h:P:=by
 have hmf:∀ (fn:Fn) (first cap:Array Value) (w:World),(Instr.makeFunc fn first cap).run Tryz.prog w = .ok (.func fn first cap) w:=fun _ _ _ _=>rfl
 have e1:decide (0<left)=false:=by simp;omega
 exact Zj):P:=h
theorem Z2p {P:Prop} (h:P:=by
 go_wp2_with (first | (go_at_call 63;with_reducible refine qmE (tall_any (by first | assumption | exact HR.out)) ?_))
 exact Z21):P:=h
theorem Z2q {P:Prop} (h:P:=by
 try simp only [Exit.jump]
 refine bodyPost_ret (v:= .slice (some ⟨b,0,none⟩) n n) (by simp [results,Tryz.results209,go_sem, *];first | done | exact ⟨rfl,rfl⟩ | rfl) rfl ⟨⟨b,rfl,by omega,hIb⟩,hB⟩):P:=h
theorem Z2r {P:Prop} (h:P:=by
 exfalso
 obtain ⟨hun,oj,ho,_⟩:=mem_ready.1 hj
 by_cases hjm:j<m
 · have:=H.1 j hjm
   rw [getD_set_ne true (Ne.symm hji),hun] at this
   cases this
 · exact tailT_not ht hcl hr hj ho Z3f him (Ne.symm hji)):P:=h
theorem Z2s {P:Prop} (h:P:=by
 go_enter Tryz.func153,Tryz.ntmps153
 go_wp2
 go_ret
 refine ⟨rfl,?_⟩
 exact Z6):P:=h
theorem Z2t {P:Prop} (h:P:=by
 by_cases e:y=z
 · subst e;rw [Tr.set_same] at hy;cases hy
   simp only [if_true]
   exact hb.out hbm hO
 · rw [Tr.set_other _ _ e] at hy
   simp only [if_neg e]
   exact (h.box y yd hy).out (fun q=>h.bl_mb hy q) hO):P:=h
theorem Z2u {P:Prop} (h:P:=by
 rw [e1,Tr.set_other _ _ h1]
 have e2:=Tr.add_at (t:=T0) (x:=1) (u:=0) (i:=0) (p:=⟨-1,[],Re.zero⟩) rfl rfl z
 show Tr.addT T0 1 0 0 z=none
 rw [e2,if_neg h1,if_neg h0]
 unfold T0
 rw [if_neg h0]):P:=h
theorem Z2v {P:Prop} (h:P:=by
 have h1:=splice_out (cs:=cs') (vs:=ldc ly) (q:=q + k * 17 + 5) (k:=q + k * 17 + 12) Z4c (.inr (by rw [ldc_size];omega))
 rw [hA11.cell,h1, ← hA10.cell]
 exact hbx10):P:=h
theorem Z2w {P:Prop} (h:P:=by
 unfold wpList
 rw [if_pos hw]
 refine .inl ?_
 unfold Oper.wp
 rw [hrun]
 exact h):P:=h
theorem Z2x {P:Prop} (h:P:=by rw [Array.setIfInBounds_comm _ _ hji, ← Act.put_comm a v u a2];exact hn):P:=h
theorem Z2y {P:Prop} (h:P:=by rcases (by omega:j=0∨j=1∨j=2∨j=3∨j=4) with rfl | rfl | rfl | rfl | rfl <;> rfl):P:=h
theorem Z2z {P:Prop} (h:P:=by
 go_wp2_with (go_at_call 33;(with_reducible refine key.mono ?_);rintro e w' ⟨rfl,rfl⟩)
 exact Z21):P:=h
theorem Z30 {P:Prop} (h:P:=by
 have E:Hid (Fw.wr (q0 + m0)=ans):=Lib.hid (by rw [← HANS.out,hg0];simp)
 clear HANS hg0
 go_wp2
 go_ret
 exact ⟨ret_int (by rw [← E.out];(try simp only [wr64,wri]);(try rfl)),hB⟩):P:=h
theorem Z31 {P:Prop} (h:P:=by
 by_cases e:y=z
 · subst e;rw [Tr.set_same] at hy;cases hy
   exact (h.row y nd hz).out (h.sl_nbl hz hz) hO
 · rw [Tr.set_other _ _ e] at hy
   exact (h.row y yd hy).out (h.sl_nbl hy hz) hO):P:=h
theorem Z32 {P:Prop} (h:P:=by unfold bxc;rw [Array.setIfInBounds_append_right Z4g,cells_size];rfl):P:=h
theorem Z33 {P:Prop} (h:P:=by
 replace hx:=Below.after2 hx (Nat.le_refl _) hb
 clear hb
 refine ⟨fun _=>hx,?_⟩
 exact Z0):P:=h
theorem Z34 {P:Prop} (h:P:=by
 obtain rfl:k=m:=by omega
 go_wp2
 go_ret
 exact ⟨⟨b,rfl,Nat.le_of_eq hsz,A1⟩,hB⟩):P:=h
theorem Z35 {P:Prop} (h:P:=by
 show Value.int .i64 (wrap64 ((k:Int) + 1)) = .int .i64 ((k + 1:Nat):Int)
 rw [hwk];rfl):P:=h
theorem Z36 {P:Prop} (h:P:=by
 go_enter Tryz.func91,Tryz.ntmps91
 go_wp2_with (at_builtin;refine wpList_append_run Z3n _ _ 52 rfl rfl rfl HRUN.out ?_)
 go_ret
 exact ⟨v',rfl,hQ.out,hO.out,HL.out⟩):P:=h
theorem Z37 {P:Prop} (h:P:=by
 replace hLS:=hLS.after hb
 replace hx:=Out.trans' hx (Out.of_below (M:=fun _=>False) hb) fun _ _ q=>q.elim
 clear hb
 refine ⟨fun _=>hx,?_⟩
 exact Zd):P:=h
theorem Z38 {P:Prop} (h:P:=by
 replace hLS:=hLS.after hb
 replace hx:=Out.trans' hx (Out.of_below (M:=fun _=>False) hb) fun _ _ q=>q.elim
 clear hb
 refine ⟨fun _=>hx,?_⟩
 exact Z2):P:=h
theorem Z39 {P:Prop} (h:P:=by
 by_cases e:y=z
 · subst e;rw [Tr.set_same,hz];rfl
 · rw [Tr.set_other _ _ e]):P:=h
theorem Z3a {P:Prop} (h:P:=by
 by_cases e:y=z
 · subst e;simp [Tr.set_same,hz]
 · rw [Tr.set_other _ _ e]):P:=h
theorem Z3b {P:Prop} (h:P:=by
 refine Drawn.seq_end ?_;intro w2 hS
 go_wp2
 go_ret
 exact ⟨ret_int (by (try simp only [wr64,wri]);rfl),Below.after2 hB (Nat.le_refl _) hS⟩):P:=h
theorem Z3c {P:Prop} (h:P:=by
 rw [hz1,Int.toNat_natCast] at hrun
 exact ⟨_,hrun,size_madeCells _ _⟩):P:=h
theorem Z3d {P:Prop} (h:P:=by rw [Tr.set_other _ _ e] at hy;exact h.small y yd hy):P:=h
theorem Z3e {P:Prop} (h:P:=by
 have E1:=Lib.hid e1
 exact Z1m):P:=h
theorem Z3f {P:Prop} (h:P:=by omega):P:=h
theorem Z3g {P:Prop} (h:P:=by first | exact hB | exact Below.alloc' hB _ | exact Below.alloc' (Below.alloc' hB _) _):P:=h
theorem Z3h {P:Prop} (h:P:=by first | exact A1 | exact At.alloc A1 _ | exact At.alloc (At.alloc A1 _) _):P:=h
theorem Z3i {P:Prop} (h:P:=by decide):P:=h
theorem Z3j {P:Prop} (h:P:=by first | exact A2 | exact At.alloc A2 _ | exact At.alloc (At.alloc A2 _) _):P:=h
theorem Z3k {P:Prop} (h:P:=by first | exact A0 | exact At.alloc A0 _ | exact At.alloc (At.alloc A0 _) _):P:=h
theorem Z3l {P:Prop} (h:P:=by first | assumption | (with_reducible exact At.new _ _)):P:=h
theorem Z3m {P:Prop} (h:P:=by first | exact A3 | exact At.alloc A3 _ | exact At.alloc (At.alloc A3 _) _):P:=h
theorem Z3n {P:Prop} (h:P:=by rfl):P:=h
theorem Z3o {P:Prop} (h:P:=by intro w2 hS;obtain ⟨hc,hf⟩:=bcell hS;go_simp;first | done | with_reducible rfl | exact ⟨rfl,rfl⟩):P:=h
theorem Z3p {P:Prop} (h:P:=by simp;omega):P:=h
theorem Z3q {P:Prop} (h:P:=by kernel_rfl):P:=h
theorem Z3r {P:Prop} (h:P:=by go_simp;first | done | with_reducible rfl | exact ⟨⟨rfl,rfl,rfl,rfl⟩,rfl⟩):P:=h
theorem Z3s {P:Prop} (h:P:=by first | done | rfl | simp):P:=h
theorem Z3t {P:Prop} (h:P:=by simp):P:=h
theorem Z3u {P:Prop} (h:P:=by intro q hq hn;unfold fld;(repeat' split) <;> first | rfl | omega):P:=h
theorem Z3v {P:Prop} (h:P:=by assumption):P:=h
theorem Z3w {P:Prop} (h:P:=by rw [cells_int _ hk hb,mix_ge f t (Nat.le_refl k)]):P:=h
theorem Z3x {P:Prop} (h:P:=by go_simp;first | done | with_reducible rfl | exact ⟨⟨⟨rfl,rfl,rfl,rfl,rfl,rfl⟩,rfl⟩,rfl⟩):P:=h
theorem Z3y {P:Prop} (h:P:=by unfold maxLen;omega):P:=h
theorem Z3z {P:Prop} (h:P:=by first | exact hB0.size | exact Nat.le_refl _):P:=h
theorem Z40 {P:Prop} (h:P:=by simp only [maxLen];omega):P:=h
theorem Z41 {P:Prop} (h:P:=by first | exact A4 | exact At.alloc A4 _ | exact At.alloc (At.alloc A4 _) _):P:=h
theorem Z42 {P:Prop} (h:P:=by rw [hz2];omega):P:=h
theorem Z43 {P:Prop} (h:P:=by rw [ins_len];exact hk):P:=h
theorem Z44 {P:Prop} (h:P:=by first | (simp;done) | (simp;omega)):P:=h
theorem Z45 {P:Prop} (h:P:=by simp [Value.oneCell']):P:=h
theorem Z46 {P:Prop} (h:P:=by simp [results,Tryz.results72,go_sem, *];first | done | exact ⟨rfl,rfl⟩ | rfl):P:=h
theorem Z47 {P:Prop} (h:P:=by rw [wf_iff];omega):P:=h
theorem Z48 {P:Prop} (h:P:=by rw [HL.out];omega):P:=h
theorem Z49 {P:Prop} (h:P:=by first | assumption | exact BxAt.keep Z3v hS):P:=h
theorem Z4a {P:Prop} (h:P:=by go_simp;first | done | with_reducible rfl | exact ⟨rfl,rfl⟩):P:=h
theorem Z4b {P:Prop} (h:P:=by simp only [List.map_toArray,List.map_cons,List.map_nil];rfl):P:=h
theorem Z4c {P:Prop} (h:P:=by rw [ldc_size];exact HFI.out):P:=h
theorem Z4d {P:Prop} (h:P:=by rw [← HANS.out,HG.out,hg1];simp):P:=h
theorem Z4e {P:Prop} (h:P:=by ((rw [← hW]) <;> exact At.alloc (At.new' _ Z3s) _)):P:=h
theorem Z4f {P:Prop} (h:P:=by with_reducible exact At.new _ _):P:=h
theorem Z4g {P:Prop} (h:P:=by rw [cells_size];omega):P:=h
end Go.Proofs.YteggipnplbkijaaGreat
