/- Boxes laid by the program: what its functions do, part 15. -/
import Derived.Test.YteggipnplbkijaaGreatWK
import Derived.Test.YteggipnplbkijaaGreatW01
import Derived.Test.YteggipnplbkijaaGreatW14
set_option linter.unusedVariables false
set_option linter.unusedSimpArgs false
set_option linter.unusedSectionVars false
set_option maxRecDepth 100000
namespace Go.Proofs.YteggipnplbkijaaGreat.Fix
open Go.ChangeShapes Go.WideShapes Go.ChangeAt Go.RowKit
theorem At.seven {W:World} {b:Nat} {x0 x1 x2 x3 x4 x5 x6:Value} {T:TypeId} (h:At W b (.cells #[x0,x1,x2,x3,x4,x5,x6] T)):b<W.heap.size∧W.cell? ⟨b,0,none⟩=some x0∧W.cell? ⟨b,1,none⟩=some x1∧W.cell? ⟨b,2,none⟩=some x2∧W.cell? ⟨b,3,none⟩=some x3∧W.cell? ⟨b,4,none⟩=some x4∧W.cell? ⟨b,5,none⟩=some x5∧W.cell? ⟨b,6,none⟩=some x6:=⟨h.lt,h.cell 0,h.cell 1,h.cell 2,h.cell 3,h.cell 4,h.cell 5,h.cell 6⟩
structure Lyt where
 lb:Nat
 bm:Nat
 km:Nat
 pm:Nat
 rm:Nat
 ww:Int
 wh:Int
 bl:Int→Nat
 vf:Int→Value
 va:Int→Value
structure RO (W:World) (Y:Lyt) (B:Int→Fw.Bx) (D:Int→Prop) (KM:World→Nat→Prop):Prop where
 lay:At W Y.lb (.cells #[.int .i64 Y.ww,.int .i64 Y.wh,.map (some Y.bm),.map (some Y.km),.map (some Y.pm),.map (some Y.rm)] 100)
 boxes:∃ n g,GM 3 W Y.bm n g∧∀ z,D z→g (.int .i64 z)=some (.pointer (some ⟨Y.bl z,0,none⟩))
 box:∀ z,D z→BxAt W (Y.bl z) (B z).sty (Y.vf z) (Y.va z) (B z).ib∧KS W (Y.vf z) (B z).fl∧KS W (Y.va z) (B z).ap
 kinds:KM W Y.km
 wf:∀ z,D z→Wf z
 pmo:∃ es clock,At W Y.pm (.map es clock)
 pmb:Y.pm≠Y.bm
 pmk:Y.pm≠Y.km
 pmr:Y.pm≠Y.rm
theorem Out.cell {M:Nat→Prop} {W W':World} (h:Out M W W') {b:Nat} (o:Nat) (hb:b<W.heap.size) (hm:¬ M b):W'.cell? ⟨b,o,none⟩=W.cell? ⟨b,o,none⟩:=by
 have e:=h.2 b hb hm
 unfold World.cell?
 rw [e]
theorem field_content (v:Value) (h:Int) (W:World):(Instr.field 144 (.agg #[v,.int .i64 h]) 1).run Tryz.prog W = .ok (.int .i64 h) W:=by kernel_rfl
theorem outcell {q:Nat} {W W':World} (h:Out (fun b=>b=q) W W'):∀ b o,b<W.heap.size→b≠q→W'.cell? ⟨b,o,none⟩=W.cell? ⟨b,o,none⟩:=fun b o hb hn=>Out.cell h o hb hn
theorem outcell2 {q r:Nat} {W W':World} (h:Out (fun b=>b=q∨b=r) W W'):∀ b o,b<W.heap.size→b≠q→b≠r→W'.cell? ⟨b,o,none⟩=W.cell? ⟨b,o,none⟩:=fun b o hb hn hm=>Out.cell h o hb (by rintro (e | e);exact hn e;exact hm e)
section
variable {W W':World} {Y:Lyt} {B:Int→Fw.Bx} {D:Int→Prop} {KM:World→Nat→Prop}
theorem RO.keep (hK:∀ (X X':World) (b:Nat),KM X b→Below X.heap.size X X'→KM X' b) (h:RO W Y B D KM) (hb:Below W.heap.size W W'):RO W' Y B D KM where
 lay:=h.lay.keep hb
 boxes:=by obtain ⟨n,g,h1,h2⟩:=h.boxes;exact ⟨n,g,h1.keep hb,h2⟩
 box:=fun z hz=>by obtain ⟨h1,h2,h3⟩:=h.box z hz;exact ⟨h1.keep hb,h2.after hb,h3.after hb⟩
 kinds:=hK _ _ _ h.kinds hb
 wf:=h.wf
 pmo:=by obtain ⟨es,ck,q⟩:=h.pmo;exact ⟨es,ck,q.keep hb⟩
 pmb:=h.pmb
 pmk:=h.pmk
 pmr:=h.pmr
theorem RO.look (h:RO W Y B D KM) {z:Int} (hz:D z):(Instr.lookup 96 (.map (some Y.bm)) (.int .i64 z) false).run Tryz.prog W = .ok (.pointer (some ⟨Y.bl z,0,none⟩)) W:=by
 obtain ⟨n,g,h1,h2⟩:=h.boxes
 rw [h1.look keyLaw Tryz.underlying96 (z:= .pointer none) Z3q (key_int (h.wf z hz)),h2 z hz]
 rfl
end
section
variable {Y:Lyt} {B:Int→Fw.Bx} {D:Int→Prop} {KM:World→Nat→Prop} {Iv Iv2:(Nat→Prop)→World→Prop}
set_option maxHeartbeats 8000000 in
theorem flay_of (hK:∀ (X X':World) (b:Nat),KM X b→Below X.heap.size X X'→KM X' b) (hI:∀ {P M:Nat→Prop} {X X':World},Iv P X→Out M X X'→(∀ b,P b→¬ M b)→Iv P X') (hI2:∀ {P M:Nat→Prop} {X X':World},Iv2 P X→Out M X X'→(∀ b,P b→¬ M b)→Iv2 P X') (h12:∀ {P:Nat→Prop} {X:World},Iv P X→Iv2 P X) (P:Nat→Prop)
  (z r0 r1 t0 t1:Int) (hz:D z) (w:World) (hR:RO w Y B D KM) (hw:Iv P w) (hP:∀ b,P b→b<w.heap.size) (cn:Int→Int→Int→List Fw.Ld × Int)
  (hin:∀ X i0,RO X Y B D KM→Iv P X→i0=Fw.wth (B z).sty 0 r0 r0 t0→Calls Tryz.prog 72 #[.pointer (some ⟨Y.lb,0,none⟩),.agg #[.int .i64 z,.int .i64 i0,.int .i64 (-1)]] X fun e X'=>(∃ v,e = .returned (.agg #[v,.int .i64 (cn z i0 (-1)).2]))∧(∃ P',Iv2 P' X'∧∀ b,P' b→P b∨X.heap.size≤b)∧Out (fun b=>b=Y.pm) X X') :
  Calls Tryz.prog 45 #[.pointer (some ⟨Y.lb,0,none⟩),.int .i64 z,.agg #[.int .i64 r0,.int .i64 r1],.agg #[.int .i64 t0,.int .i64 t1]] w fun e w'=>e = .returned (.agg (ldc (Fw.lay1 B cn z r0 r1 t0 t1)))∧(∃ P',Iv2 P' w'∧∀ b,P' b→P b∨w.heap.size≤b)∧Out (fun b=>b=Y.pm) w w':=by
 obtain ⟨es0,ck0,hpm⟩:=hR.pmo
 have hpl:=hpm.lt
 have hbx:=(hR.box z hz).1
 have hblt:=hbx.lt
 have hbpm:Y.bl z≠Y.pm:=fun q=>by
  have:=At.uniq hbx (q ▸ hpm)
  cases this
 have hlw:=hR.lay.lt
 have hRw:=Lib.hid hR
 have hbig:=hR.keep hK (Below.alloc' (Below.alloc' (Below.alloc' (Below.refl w.heap.size w) (.cells #[.int .i64 r0,.int .i64 r1] 88)) (.cells #[.int .i64 t0,.int .i64 t1] 88)) (.cells #[.int .i64 0,.int .i64 0,.int .i64 0,.int .i64 0,.int .i64 0,.int .i64 0,.int .i64 0] 94))
 have hl1:=hbig.look hz
 have hly:=hbig.lay
 clear hR
 obtain ⟨ans,HANS⟩:∃ x,Hid (Fw.lay1 B cn z r0 r1 t0 t1=x):=⟨_,Lib.hid rfl⟩
 rw [HANS.out]
 generalize hs:(B z).sty=s at *
 generalize Y.vf z=vf at *
 generalize Y.va z=va at *
 generalize hib:(B z).ib=ib at *
 generalize hbz:Y.bl z=bz at *
 go_enter Tryz.func45,Tryz.ntmps45
 go_upto_region 1 with (fail)
 have A0:At (((w.alloc (.cells #[.int .i64 r0,.int .i64 r1] 88)).alloc (.cells #[.int .i64 t0,.int .i64 t1] 88)).alloc (.cells #[.int .i64 0,.int .i64 0,.int .i64 0,.int .i64 0,.int .i64 0,.int .i64 0,.int .i64 0] 94)) w.heap.size (.cells #[.int .i64 r0,.int .i64 r1] 88):=At.alloc (At.alloc (At.new _ _) _) _
 have A1:At (((w.alloc (.cells #[.int .i64 r0,.int .i64 r1] 88)).alloc (.cells #[.int .i64 t0,.int .i64 t1] 88)).alloc (.cells #[.int .i64 0,.int .i64 0,.int .i64 0,.int .i64 0,.int .i64 0,.int .i64 0,.int .i64 0] 94)) (w.heap.size + 1) (.cells #[.int .i64 t0,.int .i64 t1] 88):=At.alloc (At.new' _ Z3s) _
 have A3:At (((w.alloc (.cells #[.int .i64 r0,.int .i64 r1] 88)).alloc (.cells #[.int .i64 t0,.int .i64 t1] 88)).alloc (.cells #[.int .i64 0,.int .i64 0,.int .i64 0,.int .i64 0,.int .i64 0,.int .i64 0,.int .i64 0] 94)) (w.heap.size + 1 + 1) (.cells #[.int .i64 0,.int .i64 0,.int .i64 0,.int .i64 0,.int .i64 0,.int .i64 0,.int .i64 0] 94):=At.new' _ Z3s
 have A2:=hbx.alloc (.cells #[.int .i64 r0,.int .i64 r1] 88) |>.alloc (.cells #[.int .i64 t0,.int .i64 t1] 88) |>.alloc (.cells #[.int .i64 0,.int .i64 0,.int .i64 0,.int .i64 0,.int .i64 0,.int .i64 0,.int .i64 0] 94)
 have hB:Below w.heap.size w (((w.alloc (.cells #[.int .i64 r0,.int .i64 r1] 88)).alloc (.cells #[.int .i64 t0,.int .i64 t1] 88)).alloc (.cells #[.int .i64 0,.int .i64 0,.int .i64 0,.int .i64 0,.int .i64 0,.int .i64 0,.int .i64 0] 94)):=Below.alloc' (Below.alloc' (Below.alloc' (Below.refl _ _) _) _) _
 generalize ((w.alloc (.cells #[.int .i64 r0,.int .i64 r1] 88)).alloc (.cells #[.int .i64 t0,.int .i64 t1] 88)).alloc (.cells #[.int .i64 0,.int .i64 0,.int .i64 0,.int .i64 0,.int .i64 0,.int .i64 0,.int .i64 0] 94)=W0 at *
 have llb:=hly.lt
 have l3':=A3.lt
 have ly2:W0.cell? ⟨Y.lb,2,none⟩=some (.map (some Y.bm)):=hly.cell 2
 go_upto_region 3 with (fail)
 generalize hW:World.alloc _ _=W1
 have A4:At W1 W0.heap.size (.cells #[.int .i64 z,.int .i64 0,.int .i64 0,.int .i64 0,.int .i64 0,.int .i64 0,.int .i64 0] 94):=hW ▸ At.new _ _
 replace A0:At W1 _ _:=hW ▸ At.alloc A0 _
 replace A1:At W1 _ _:=hW ▸ At.alloc A1 _
 replace A2:At W1 _ _:=hW ▸ At.alloc A2 _
 replace A3:At W1 _ _:=hW ▸ At.alloc A3 _
 replace hB:Below w.heap.size w W1:=hW ▸ Below.alloc' hB _
 clear hW hl1 hly ly2 llb hbig
 generalize W0.heap.size=bx at *
 obtain ⟨l0,c0_0,c0_1⟩:=At.two A0
 obtain ⟨l1,c1_0,c1_1⟩:=At.two A1
 obtain ⟨l2,c2_0,c2_1,c2_2,c2_3,c2_4,c2_5,c2_6,c2_7⟩:=At.bx0 A2
 obtain ⟨l3,c3_0,c3_1,c3_2,c3_3,c3_4,c3_5,c3_6⟩:=At.seven A3
 have z3_0:=A3.thaw 0
 have z3_1:=A3.thaw 1
 have z3_2:=A3.thaw 2
 have z3_3:=A3.thaw 3
 have z3_4:=A3.thaw 4
 have z3_5:=A3.thaw 5
 have z3_6:=A3.thaw 6
 obtain ⟨l4,c4_0,c4_1,c4_2,c4_3,c4_4,c4_5,c4_6⟩:=At.seven A4
 have z4_0:=A4.thaw 0
 have z4_1:=A4.thaw 1
 have z4_2:=A4.thaw 2
 have z4_3:=A4.thaw 3
 have z4_4:=A4.thaw 4
 have z4_5:=A4.thaw 5
 have z4_6:=A4.thaw 6
 go_wp2
 refine wp_loop_rounds 3 ?_
 rw [rounds_succ]
 go_upto_region 6 with (fail)
 go_upto_region 7 with (first | (go_at_call 74;(with_reducible refine (fwth0 _ _ _ _ _ _ _ _ _ _ (by first | exact A2 | exact At.keep A2 hS)).mono ?_);rintro e w' ⟨rfl,hb⟩;(clear l0 c0_0 c0_1 l1 c1_0 c1_1 l2 c2_0 c2_1 c2_2 c2_3 c2_4 c2_5 c2_6 c2_7 l3 c3_0 c3_1 c3_2 c3_3 c3_4 c3_5 c3_6 z3_0 z3_1 z3_2 z3_3 z3_4 z3_5 z3_6 l4 c4_0 c4_1 c4_2 c4_3 c4_4 c4_5 c4_6 z4_0 z4_1 z4_2 z4_3 z4_4 z4_5 z4_6);(replace hB:=Below.after2 Z3g (Nat.le_refl _) hb);replace A0:=At.keep Z3k hb;replace A1:=At.keep Z3h hb;replace A2:=At.keep Z3j hb;replace A3:=At.keep Z3m hb;replace A4:=At.keep Z41 hb;clear hb;obtain ⟨l0,c0_0,c0_1⟩:=At.two A0;obtain ⟨l1,c1_0,c1_1⟩:=At.two A1;obtain ⟨l2,c2_0,c2_1,c2_2,c2_3,c2_4,c2_5,c2_6,c2_7⟩:=At.bx0 A2;obtain ⟨l3,c3_0,c3_1,c3_2,c3_3,c3_4,c3_5,c3_6⟩:=At.seven A3;have z3_0:=A3.thaw 0;have z3_1:=A3.thaw 1;have z3_2:=A3.thaw 2;have z3_3:=A3.thaw 3;have z3_4:=A3.thaw 4;have z3_5:=A3.thaw 5;have z3_6:=A3.thaw 6;obtain ⟨l4,c4_0,c4_1,c4_2,c4_3,c4_4,c4_5,c4_6⟩:=At.seven A4;have z4_0:=A4.thaw 0;have z4_1:=A4.thaw 1;have z4_2:=A4.thaw 2;have z4_3:=A4.thaw 3;have z4_4:=A4.thaw 4;have z4_5:=A4.thaw 5;have z4_6:=A4.thaw 6))
 generalize hW:World.setCell _ _ _=W2
 clear l0 c0_0 c0_1 l1 c1_0 c1_1 l2 c2_0 c2_1 c2_2 c2_3 c2_4 c2_5 c2_6 c2_7 l3 c3_0 c3_1 c3_2 c3_3 c3_4 c3_5 c3_6 z3_0 z3_1 z3_2 z3_3 z3_4 z3_5 z3_6 l4 c4_0 c4_1 c4_2 c4_3 c4_4 c4_5 c4_6 z4_0 z4_1 z4_2 z4_3 z4_4 z4_5 z4_6
 replace A4:At W2 bx (.cells #[.int .i64 z,.int .i64 (Fw.wth s 0 r0 r0 t0),.int .i64 0,.int .i64 0,.int .i64 0,.int .i64 0,.int .i64 0] 94):=hW ▸ At.set (A4) 1 _
 replace A0:At W2 _ _:=hW ▸ At.off (A0) Z3f _ _
 replace A1:At W2 _ _:=hW ▸ At.off (A1) Z3f _ _
 replace A2:At W2 _ _:=hW ▸ At.off (A2) Z3f _ _
 replace A3:At W2 _ _:=hW ▸ At.off (A3) Z3f _ _
 replace hB:Below w.heap.size w W2:=hW ▸ Below.setCell (hB) Z3p _
 clear hW
 obtain ⟨l0,c0_0,c0_1⟩:=At.two A0
 obtain ⟨l1,c1_0,c1_1⟩:=At.two A1
 obtain ⟨l2,c2_0,c2_1,c2_2,c2_3,c2_4,c2_5,c2_6,c2_7⟩:=At.bx0 A2
 obtain ⟨l3,c3_0,c3_1,c3_2,c3_3,c3_4,c3_5,c3_6⟩:=At.seven A3
 have z3_0:=A3.thaw 0
 have z3_1:=A3.thaw 1
 have z3_2:=A3.thaw 2
 have z3_3:=A3.thaw 3
 have z3_4:=A3.thaw 4
 have z3_5:=A3.thaw 5
 have z3_6:=A3.thaw 6
 obtain ⟨l4,c4_0,c4_1,c4_2,c4_3,c4_4,c4_5,c4_6⟩:=At.seven A4
 have z4_0:=A4.thaw 0
 have z4_1:=A4.thaw 1
 have z4_2:=A4.thaw 2
 have z4_3:=A4.thaw 3
 have z4_4:=A4.thaw 4
 have z4_5:=A4.thaw 5
 have z4_6:=A4.thaw 6
 obtain ⟨l2,c2_0,c2_1,c2_2,c2_3,c2_4,c2_5,c2_6,c2_7⟩:=At.bx1 A2
 go_wp2
 rw [rounds_succ]
 go_upto_region 6 with (fail)
 go_upto_region 7 with (first | (go_at_call 74;(with_reducible refine (fwth1 _ _ _ _ _ _ _ _ _ _ (by first | exact A2 | exact At.keep A2 hS)).mono ?_);rintro e w' ⟨rfl,hb⟩;(clear l0 c0_0 c0_1 l1 c1_0 c1_1 l2 c2_0 c2_1 c2_2 c2_3 c2_4 c2_5 c2_6 c2_7 l3 c3_0 c3_1 c3_2 c3_3 c3_4 c3_5 c3_6 z3_0 z3_1 z3_2 z3_3 z3_4 z3_5 z3_6 l4 c4_0 c4_1 c4_2 c4_3 c4_4 c4_5 c4_6 z4_0 z4_1 z4_2 z4_3 z4_4 z4_5 z4_6);(replace hB:=Below.after2 Z3g (Nat.le_refl _) hb);replace A0:=At.keep Z3k hb;replace A1:=At.keep Z3h hb;replace A2:=At.keep Z3j hb;replace A3:=At.keep Z3m hb;replace A4:=At.keep Z41 hb;clear hb;obtain ⟨l0,c0_0,c0_1⟩:=At.two A0;obtain ⟨l1,c1_0,c1_1⟩:=At.two A1;obtain ⟨l2,c2_0,c2_1,c2_2,c2_3,c2_4,c2_5,c2_6,c2_7⟩:=At.bx1 A2;obtain ⟨l3,c3_0,c3_1,c3_2,c3_3,c3_4,c3_5,c3_6⟩:=At.seven A3;have z3_0:=A3.thaw 0;have z3_1:=A3.thaw 1;have z3_2:=A3.thaw 2;have z3_3:=A3.thaw 3;have z3_4:=A3.thaw 4;have z3_5:=A3.thaw 5;have z3_6:=A3.thaw 6;obtain ⟨l4,c4_0,c4_1,c4_2,c4_3,c4_4,c4_5,c4_6⟩:=At.seven A4;have z4_0:=A4.thaw 0;have z4_1:=A4.thaw 1;have z4_2:=A4.thaw 2;have z4_3:=A4.thaw 3;have z4_4:=A4.thaw 4;have z4_5:=A4.thaw 5;have z4_6:=A4.thaw 6))
 generalize hW:World.setCell _ _ _=W3
 clear l0 c0_0 c0_1 l1 c1_0 c1_1 l2 c2_0 c2_1 c2_2 c2_3 c2_4 c2_5 c2_6 c2_7 l3 c3_0 c3_1 c3_2 c3_3 c3_4 c3_5 c3_6 z3_0 z3_1 z3_2 z3_3 z3_4 z3_5 z3_6 l4 c4_0 c4_1 c4_2 c4_3 c4_4 c4_5 c4_6 z4_0 z4_1 z4_2 z4_3 z4_4 z4_5 z4_6
 replace A4:At W3 bx (.cells #[.int .i64 z,.int .i64 (Fw.wth s 0 r0 r0 t0),.int .i64 (Fw.wth s 1 r0 r1 t1),.int .i64 0,.int .i64 0,.int .i64 0,.int .i64 0] 94):=hW ▸ At.set (A4) 2 _
 replace A0:At W3 _ _:=hW ▸ At.off (A0) Z3f _ _
 replace A1:At W3 _ _:=hW ▸ At.off (A1) Z3f _ _
 replace A2:At W3 _ _:=hW ▸ At.off (A2) Z3f _ _
 replace A3:At W3 _ _:=hW ▸ At.off (A3) Z3f _ _
 replace hB:Below w.heap.size w W3:=hW ▸ Below.setCell (hB) Z3p _
 clear hW
 obtain ⟨l0,c0_0,c0_1⟩:=At.two A0
 obtain ⟨l1,c1_0,c1_1⟩:=At.two A1
 obtain ⟨l2,c2_0,c2_1,c2_2,c2_3,c2_4,c2_5,c2_6,c2_7⟩:=At.bx1 A2
 obtain ⟨l3,c3_0,c3_1,c3_2,c3_3,c3_4,c3_5,c3_6⟩:=At.seven A3
 have z3_0:=A3.thaw 0
 have z3_1:=A3.thaw 1
 have z3_2:=A3.thaw 2
 have z3_3:=A3.thaw 3
 have z3_4:=A3.thaw 4
 have z3_5:=A3.thaw 5
 have z3_6:=A3.thaw 6
 obtain ⟨l4,c4_0,c4_1,c4_2,c4_3,c4_4,c4_5,c4_6⟩:=At.seven A4
 have z4_0:=A4.thaw 0
 have z4_1:=A4.thaw 1
 have z4_2:=A4.thaw 2
 have z4_3:=A4.thaw 3
 have z4_4:=A4.thaw 4
 have z4_5:=A4.thaw 5
 have z4_6:=A4.thaw 6
 obtain ⟨i0,HI0⟩:∃ x,Hid (Fw.wth s 0 r0 r0 t0=x):=⟨_,Lib.hid rfl⟩
 obtain ⟨i1,HI1⟩:∃ x,Hid (Fw.wth s 1 r0 r1 t1=x):=⟨_,Lib.hid rfl⟩
 rw [HI0.out,HI1.out] at A4
 clear l4 c4_0 c4_1 c4_2 c4_3 c4_4 c4_5 c4_6 z4_0 z4_1 z4_2 z4_3 z4_4 z4_5 z4_6
 obtain ⟨l4,c4_0,c4_1,c4_2,c4_3,c4_4,c4_5,c4_6⟩:=At.seven A4
 have z4_0:=A4.thaw 0
 have z4_1:=A4.thaw 1
 have z4_2:=A4.thaw 2
 have z4_3:=A4.thaw 3
 have z4_4:=A4.thaw 4
 have z4_5:=A4.thaw 5
 have z4_6:=A4.thaw 6
 go_wp2
 rw [rounds_succ]
 go_upto_region 8 with (fail)
 go_upto_region 9 with (fail)
 generalize hW:World.setCell _ _ _=W4
 clear l0 c0_0 c0_1 l1 c1_0 c1_1 l2 c2_0 c2_1 c2_2 c2_3 c2_4 c2_5 c2_6 c2_7 l3 c3_0 c3_1 c3_2 c3_3 c3_4 c3_5 c3_6 z3_0 z3_1 z3_2 z3_3 z3_4 z3_5 z3_6 l4 c4_0 c4_1 c4_2 c4_3 c4_4 c4_5 c4_6 z4_0 z4_1 z4_2 z4_3 z4_4 z4_5 z4_6
 replace A4:At W4 bx (.cells #[.int .i64 z,.int .i64 i0,.int .i64 i1,.int .i64 i0,.int .i64 i1,.int .i64 0,.int .i64 0] 94):=hW ▸ At.set (At.set (A4) 3 _) 4 _
 replace A0:At W4 _ _:=hW ▸ At.off (At.off (A0) Z3f _ _) Z3f _ _
 replace A1:At W4 _ _:=hW ▸ At.off (At.off (A1) Z3f _ _) Z3f _ _
 replace A2:At W4 _ _:=hW ▸ At.off (At.off (A2) Z3f _ _) Z3f _ _
 replace A3:At W4 _ _:=hW ▸ At.off (At.off (A3) Z3f _ _) Z3f _ _
 replace hB:Below w.heap.size w W4:=hW ▸ Below.setCell (Below.setCell (hB) Z3p _) Z3p _
 clear hW
 obtain ⟨l0,c0_0,c0_1⟩:=At.two A0
 obtain ⟨l1,c1_0,c1_1⟩:=At.two A1
 obtain ⟨l2,c2_0,c2_1,c2_2,c2_3,c2_4,c2_5,c2_6,c2_7⟩:=At.bx1 A2
 obtain ⟨l3,c3_0,c3_1,c3_2,c3_3,c3_4,c3_5,c3_6⟩:=At.seven A3
 have z3_0:=A3.thaw 0
 have z3_1:=A3.thaw 1
 have z3_2:=A3.thaw 2
 have z3_3:=A3.thaw 3
 have z3_4:=A3.thaw 4
 have z3_5:=A3.thaw 5
 have z3_6:=A3.thaw 6
 obtain ⟨l4,c4_0,c4_1,c4_2,c4_3,c4_4,c4_5,c4_6⟩:=At.seven A4
 have z4_0:=A4.thaw 0
 have z4_1:=A4.thaw 1
 have z4_2:=A4.thaw 2
 have z4_3:=A4.thaw 3
 have z4_4:=A4.thaw 4
 have z4_5:=A4.thaw 5
 have z4_6:=A4.thaw 6
 have lp0:w.heap.size≠Y.pm:=by omega
 have lp1:w.heap.size + 1≠Y.pm:=by omega
 have lp3:w.heap.size + 1 + 1≠Y.pm:=by omega
 have lp4:bx≠Y.pm:=by omega
 by_cases hu:i1 = -1
 · have HU:=Lib.hid hu
   subst hu
   go_upto_region 10 with (fail)
   have hR4:=hRw.out.keep hK (Below.drew hB)
   have hI4:=hI (M:=fun _=>False) hw (Out.of_below (Below.drew hB)) fun _ _ q=>q
   have hcall:=hin _ i0 hR4 hI4 HI0.out.symm
   have hO4:Out (fun b=>b=Y.pm) W4 W4.drew:=(Out.refl _ _).drew
   have lbz:bz≠Y.pm:=hbpm
   have lbx:bz≠bx:=by omega
   have lx0:w.heap.size≠bx:=by omega
   have lk4:bx<W4.heap.size:=l4
   have lk3:w.heap.size + 1 + 1<W4.heap.size:=l3
   have mkS:∀ X,Out (fun b=>b=Y.pm) W4 X→Out (fun b=>b=Y.pm∨b=bx) W4 X∧X.cell? ⟨bx,0,none⟩=some (.int .i64 z)∧X.cell? ⟨bx,1,none⟩=some (.int .i64 i0)∧X.cell? ⟨bx,2,none⟩=some (.int .i64 (-1)):=fun X h=>⟨h.mono fun b _ q => .inl q,(outcell h _ _ l4 lp4).trans c4_0,(outcell h _ _ l4 lp4).trans c4_1,(outcell h _ _ l4 lp4).trans c4_2⟩
   have MKS:=Lib.hid mkS
   clear mkS
   clear c4_0 c4_1 c4_2
   refine tkX (S:=fun X=>Out (fun b=>b=Y.pm∨b=bx) W4 X∧X.cell? ⟨bx,0,none⟩=some (.int .i64 z)∧X.cell? ⟨bx,1,none⟩=some (.int .i64 i0)∧X.cell? ⟨bx,2,none⟩=some (.int .i64 (-1))) 16 ?_ ?_
   · exact MKS.out _ hO4
   intro hS5
   refine tkQ 0 ?_
   refine tkQ 1 ?_
   refine tkQ 2 ?_
   refine tkQ 3 ?_
   refine tkQ 4 ?_
   refine tkQ 5 ?_
   refine tkQ 6 ?_
   refine tkQ 7 ?_
   refine tkQ 10 ?_
   refine tkQ 11 ?_
   refine tkQ 13 ?_
   refine tk1 8 ?_
   refine Drawn.Step.call tkL hcall ?_
   rintro e w5 ⟨⟨v,rfl⟩,⟨P5,hI5,hP5⟩,hO5⟩
   refine ⟨_,rfl,fun _=>MKS.out _ (hO4.trans hO5),?_⟩
   replace hO4:=hO4.trans hO5
   replace hS5:=MKS.out _ hO4
   clear hcall hO5
   have hfc:=field_content v (cn z i0 (-1)).2
   (try simp only [tkp,tka,tkz,tks])
   refine tkQ 9 ?_
   refine tk1 12 ?_
   refine Drawn.Step.call (by go_simp;first | done | with_reducible rfl | exact ⟨⟨rfl,rfl,rfl,rfl,rfl,rfl⟩,rfl,rfl⟩ | exact ⟨⟨⟨rfl,rfl,rfl,rfl,rfl,rfl⟩,rfl,rfl⟩,rfl⟩) (flim_any _ _ _ _ _ _ _ _ _) ?_
   rintro e w6 ⟨rfl,hb6⟩
   refine ⟨_,rfl,fun _=>MKS.out _ (hO4.trans (Out.of_below hb6)),?_⟩
   replace hO4:=hO4.trans (Out.of_below hb6)
   replace hS5:=MKS.out _ hO4
   replace hI5:=hI2 (M:=fun _=>False) hI5 (Out.of_below hb6) fun _ _ q=>q
   clear hb6
   (try simp only [tkp,tka,tkz,tks])
   refine tkQ 14 ?_
   refine tk1 15 ?_
   have A5:=A4.out lp4 hO4
   have d4:w6.cell? ⟨bx,4,none⟩=some (.int .i64 (-1)):=A5.cell 4
   have e4:=A5.thaw 4
   refine Drawn.Step.skip tkL ?_
   refine ⟨fun _=>⟨Out.set (hO4.mono fun b _ q => .inl q) (.inr rfl) 4 _,(A5.set 4 _).cell 0,(A5.set 4 _).cell 1,(A5.set 4 _).cell 2⟩,?_⟩
   (try simp only [Act.put])
   refine tkE ?_
   have hQ:Out (fun b=>b=bx∨b=w.heap.size + 1 + 1) w6 w6:=Out.refl _ _
   replace A0:=A0.out lp0 hO4
   replace A1:=A1.out lp1 hO4
   replace A2:=At.out A2 lbz hO4
   replace A3:=A3.out lp3 hO4
   replace A4:=A5
   clear A5 d4 e4 hS5
   obtain ⟨hh,hhh⟩:∃ x,Fw.lim s 1 (cn z i0 (-1)).2 r1=x:=⟨_,rfl⟩
   have hlm:Fx.limit (cn z i0 (-1)).2 (s.c 9) (s.c 10) (s.c 13) (s.c 14) r1=hh:=hhh
   rw [hlm]
   clear hlm
   have HHH:=Lib.hid hhh
   clear hhh
   have hs64:W4.heap.size≤w6.heap.size:=hO4.size
   clear l0 c0_0 c0_1 l1 c1_0 c1_1 l2 c2_0 c2_1 c2_2 c2_3 c2_4 c2_5 c2_6 c2_7 l3 c3_0 c3_1 c3_2 c3_3 c3_4 c3_5 c3_6 z3_0 z3_1 z3_2 z3_3 z3_4 z3_5 z3_6 l4 c4_3 c4_4 c4_5 c4_6 z4_0 z4_1 z4_2 z4_3 z4_4 z4_5 z4_6
   generalize hW:World.setCell _ _ _=W5
   replace A4:At W5 bx (.cells #[.int .i64 z,.int .i64 i0,.int .i64 (-1),.int .i64 i0,.int .i64 hh,.int .i64 0,.int .i64 0] 94):=hW ▸ At.set (A4) 4 _
   replace A0:At W5 _ _:=hW ▸ At.off (A0) Z3f _ _
   replace A1:At W5 _ _:=hW ▸ At.off (A1) Z3f _ _
   replace A2:At W5 _ _:=hW ▸ At.off (A2) Z3f _ _
   replace A3:At W5 _ _:=hW ▸ At.off (A3) Z3f _ _
   replace hQ:Out _ _ W5:=hW ▸ Out.set (hQ) (.inl rfl) 4 _
   clear hW
   obtain ⟨l0,c0_0,c0_1⟩:=At.two A0
   obtain ⟨l1,c1_0,c1_1⟩:=At.two A1
   obtain ⟨l2,c2_0,c2_1,c2_2,c2_3,c2_4,c2_5,c2_6,c2_7⟩:=At.bx0 A2
   obtain ⟨l3,c3_0,c3_1,c3_2,c3_3,c3_4,c3_5,c3_6⟩:=At.seven A3
   have z3_0:=A3.thaw 0
   have z3_1:=A3.thaw 1
   have z3_2:=A3.thaw 2
   have z3_3:=A3.thaw 3
   have z3_4:=A3.thaw 4
   have z3_5:=A3.thaw 5
   have z3_6:=A3.thaw 6
   obtain ⟨l4,c4_0,c4_1,c4_2,c4_3,c4_4,c4_5,c4_6⟩:=At.seven A4
   have z4_0:=A4.thaw 0
   have z4_1:=A4.thaw 1
   have z4_2:=A4.thaw 2
   have z4_3:=A4.thaw 3
   have z4_4:=A4.thaw 4
   have z4_5:=A4.thaw 5
   have z4_6:=A4.thaw 6
   go_wp2
   refine wp_loop_rounds 3 ?_
   rw [rounds_succ]
   go_upto_region 14 with (fail)
   refine sqtT 14 1 ?_
   (repeat (first | refine sqk ?_ | refine sqc ?_ (hc:=by intro w2 hS;first | with_reducible exact qaB hS (fall_any _ _ _)) | refine sqv ?_))
   refine Drawn.seq_tail ?_;intro w2 hS
   clear l0 c0_0 c0_1 l1 c1_0 c1_1 l2 c2_0 c2_1 c2_2 c2_3 c2_4 c2_5 c2_6 c2_7 l3 c3_0 c3_1 c3_2 c3_3 c3_4 c3_5 c3_6 z3_0 z3_1 z3_2 z3_3 z3_4 z3_5 z3_6 l4 c4_0 c4_1 c4_2 c4_3 c4_4 c4_5 c4_6 z4_0 z4_1 z4_2 z4_3 z4_4 z4_5 z4_6
   replace hQ:=hQ.trans (Out.of_below hS)
   replace A0:=At.keep A0 hS
   replace A1:=At.keep A1 hS
   replace A2:=At.keep A2 hS
   replace A3:=At.keep A3 hS
   replace A4:=At.keep A4 hS
   clear hS
   obtain ⟨l0,c0_0,c0_1⟩:=At.two A0
   obtain ⟨l1,c1_0,c1_1⟩:=At.two A1
   obtain ⟨l2,c2_0,c2_1,c2_2,c2_3,c2_4,c2_5,c2_6,c2_7⟩:=At.bx0 A2
   obtain ⟨l3,c3_0,c3_1,c3_2,c3_3,c3_4,c3_5,c3_6⟩:=At.seven A3
   have z3_0:=A3.thaw 0
   have z3_1:=A3.thaw 1
   have z3_2:=A3.thaw 2
   have z3_3:=A3.thaw 3
   have z3_4:=A3.thaw 4
   have z3_5:=A3.thaw 5
   have z3_6:=A3.thaw 6
   obtain ⟨l4,c4_0,c4_1,c4_2,c4_3,c4_4,c4_5,c4_6⟩:=At.seven A4
   have z4_0:=A4.thaw 0
   have z4_1:=A4.thaw 1
   have z4_2:=A4.thaw 2
   have z4_3:=A4.thaw 3
   have z4_4:=A4.thaw 4
   have z4_5:=A4.thaw 5
   have z4_6:=A4.thaw 6
   refine tkT ?_;intro K hK;go_simp;refine hK _ _ (Drawn.text_nil ?_);clear hK K
   generalize hW:World.setCell _ _ _=W6
   clear l0 c0_0 c0_1 l1 c1_0 c1_1 l2 c2_0 c2_1 c2_2 c2_3 c2_4 c2_5 c2_6 c2_7 l3 c3_0 c3_1 c3_2 c3_3 c3_4 c3_5 c3_6 z3_0 z3_1 z3_2 z3_3 z3_4 z3_5 z3_6 l4 c4_0 c4_1 c4_2 c4_3 c4_4 c4_5 c4_6 z4_0 z4_1 z4_2 z4_3 z4_4 z4_5 z4_6
   replace A4:At W6 bx (.cells #[.int .i64 z,.int .i64 i0,.int .i64 (-1),.int .i64 (IntKind.i64.wrap (i0 + Fw.wr (Fw.ed s 3 + Fw.ed s 1))),.int .i64 hh,.int .i64 0,.int .i64 0] 94):=hW ▸ At.set (A4) 3 _
   replace A0:At W6 _ _:=hW ▸ At.off (A0) Z3f _ _
   replace A1:At W6 _ _:=hW ▸ At.off (A1) Z3f _ _
   replace A2:At W6 _ _:=hW ▸ At.off (A2) Z3f _ _
   replace A3:At W6 _ _:=hW ▸ At.off (A3) Z3f _ _
   replace hQ:Out _ _ W6:=hW ▸ Out.set (hQ) (.inl rfl) 3 _
   clear hW
   obtain ⟨l0,c0_0,c0_1⟩:=At.two A0
   obtain ⟨l1,c1_0,c1_1⟩:=At.two A1
   obtain ⟨l2,c2_0,c2_1,c2_2,c2_3,c2_4,c2_5,c2_6,c2_7⟩:=At.bx0 A2
   obtain ⟨l3,c3_0,c3_1,c3_2,c3_3,c3_4,c3_5,c3_6⟩:=At.seven A3
   have z3_0:=A3.thaw 0
   have z3_1:=A3.thaw 1
   have z3_2:=A3.thaw 2
   have z3_3:=A3.thaw 3
   have z3_4:=A3.thaw 4
   have z3_5:=A3.thaw 5
   have z3_6:=A3.thaw 6
   obtain ⟨l4,c4_0,c4_1,c4_2,c4_3,c4_4,c4_5,c4_6⟩:=At.seven A4
   have z4_0:=A4.thaw 0
   have z4_1:=A4.thaw 1
   have z4_2:=A4.thaw 2
   have z4_3:=A4.thaw 3
   have z4_4:=A4.thaw 4
   have z4_5:=A4.thaw 5
   have z4_6:=A4.thaw 6
   obtain ⟨l2,c2_0,c2_1,c2_2,c2_3,c2_4,c2_5,c2_6,c2_7⟩:=At.bx1 A2
   go_wp2
   rw [rounds_succ]
   go_upto_region 14 with (fail)
   refine sqtT 14 1 ?_
   (repeat (first | refine sqk ?_ | refine sqc ?_ (hc:=by intro w2 hS;first | with_reducible exact qaB hS (fall_any _ _ _)) | refine sqv ?_))
   refine Drawn.seq_tail ?_;intro w2 hS
   clear l0 c0_0 c0_1 l1 c1_0 c1_1 l2 c2_0 c2_1 c2_2 c2_3 c2_4 c2_5 c2_6 c2_7 l3 c3_0 c3_1 c3_2 c3_3 c3_4 c3_5 c3_6 z3_0 z3_1 z3_2 z3_3 z3_4 z3_5 z3_6 l4 c4_0 c4_1 c4_2 c4_3 c4_4 c4_5 c4_6 z4_0 z4_1 z4_2 z4_3 z4_4 z4_5 z4_6
   replace hQ:=hQ.trans (Out.of_below hS)
   replace A0:=At.keep A0 hS
   replace A1:=At.keep A1 hS
   replace A2:=At.keep A2 hS
   replace A3:=At.keep A3 hS
   replace A4:=At.keep A4 hS
   clear hS
   obtain ⟨l0,c0_0,c0_1⟩:=At.two A0
   obtain ⟨l1,c1_0,c1_1⟩:=At.two A1
   obtain ⟨l2,c2_0,c2_1,c2_2,c2_3,c2_4,c2_5,c2_6,c2_7⟩:=At.bx1 A2
   obtain ⟨l3,c3_0,c3_1,c3_2,c3_3,c3_4,c3_5,c3_6⟩:=At.seven A3
   have z3_0:=A3.thaw 0
   have z3_1:=A3.thaw 1
   have z3_2:=A3.thaw 2
   have z3_3:=A3.thaw 3
   have z3_4:=A3.thaw 4
   have z3_5:=A3.thaw 5
   have z3_6:=A3.thaw 6
   obtain ⟨l4,c4_0,c4_1,c4_2,c4_3,c4_4,c4_5,c4_6⟩:=At.seven A4
   have z4_0:=A4.thaw 0
   have z4_1:=A4.thaw 1
   have z4_2:=A4.thaw 2
   have z4_3:=A4.thaw 3
   have z4_4:=A4.thaw 4
   have z4_5:=A4.thaw 5
   have z4_6:=A4.thaw 6
   refine tkT ?_;intro K hK;go_simp;refine hK _ _ (Drawn.text_nil ?_);clear hK K
   generalize hW:World.setCell _ _ _=W7
   clear l0 c0_0 c0_1 l1 c1_0 c1_1 l2 c2_0 c2_1 c2_2 c2_3 c2_4 c2_5 c2_6 c2_7 l3 c3_0 c3_1 c3_2 c3_3 c3_4 c3_5 c3_6 z3_0 z3_1 z3_2 z3_3 z3_4 z3_5 z3_6 l4 c4_0 c4_1 c4_2 c4_3 c4_4 c4_5 c4_6 z4_0 z4_1 z4_2 z4_3 z4_4 z4_5 z4_6
   replace A4:At W7 bx (.cells #[.int .i64 z,.int .i64 i0,.int .i64 (-1),.int .i64 (IntKind.i64.wrap (i0 + Fw.wr (Fw.ed s 3 + Fw.ed s 1))),.int .i64 (IntKind.i64.wrap (hh + Fw.wr (Fw.ed s 0 + Fw.ed s 2))),.int .i64 0,.int .i64 0] 94):=hW ▸ At.set (A4) 4 _
   replace A0:At W7 _ _:=hW ▸ At.off (A0) Z3f _ _
   replace A1:At W7 _ _:=hW ▸ At.off (A1) Z3f _ _
   replace A2:At W7 _ _:=hW ▸ At.off (A2) Z3f _ _
   replace A3:At W7 _ _:=hW ▸ At.off (A3) Z3f _ _
   replace hQ:Out _ _ W7:=hW ▸ Out.set (hQ) (.inl rfl) 4 _
   clear hW
   obtain ⟨l0,c0_0,c0_1⟩:=At.two A0
   obtain ⟨l1,c1_0,c1_1⟩:=At.two A1
   obtain ⟨l2,c2_0,c2_1,c2_2,c2_3,c2_4,c2_5,c2_6,c2_7⟩:=At.bx1 A2
   obtain ⟨l3,c3_0,c3_1,c3_2,c3_3,c3_4,c3_5,c3_6⟩:=At.seven A3
   have z3_0:=A3.thaw 0
   have z3_1:=A3.thaw 1
   have z3_2:=A3.thaw 2
   have z3_3:=A3.thaw 3
   have z3_4:=A3.thaw 4
   have z3_5:=A3.thaw 5
   have z3_6:=A3.thaw 6
   obtain ⟨l4,c4_0,c4_1,c4_2,c4_3,c4_4,c4_5,c4_6⟩:=At.seven A4
   have z4_0:=A4.thaw 0
   have z4_1:=A4.thaw 1
   have z4_2:=A4.thaw 2
   have z4_3:=A4.thaw 3
   have z4_4:=A4.thaw 4
   have z4_5:=A4.thaw 5
   have z4_6:=A4.thaw 6
   go_wp2
   rw [rounds_succ]
   go_wp2
   have hans:ans=⟨z,i0, -1,Fw.wr (i0 + Fw.eds s 0),Fw.wr (hh + Fw.eds s 1),0,0⟩:=by
    rw [← HANS.out];unfold Fw.lay1;simp only [hs,HI0.out,HI1.out,HHH.out,if_true]
   subst hans
   simp only [wr64]
   generalize hW:World.setCell _ _ _=W8
   clear l0 c0_0 c0_1 l1 c1_0 c1_1 l2 c2_0 c2_1 c2_2 c2_3 c2_4 c2_5 c2_6 c2_7 l4 c4_0 c4_1 c4_2 c4_3 c4_4 c4_5 c4_6 z4_0 z4_1 z4_2 z4_3 z4_4 z4_5 z4_6 l3 c3_0 c3_1 c3_2 c3_3 c3_4 c3_5 c3_6 z3_0 z3_1 z3_2 z3_3 z3_4 z3_5 z3_6
   replace A3:At W8 (w.heap.size + 1 + 1) (.cells #[.int .i64 z,.int .i64 i0,.int .i64 (-1),.int .i64 (Fw.wr (i0 + Fw.eds s 0)),.int .i64 (Fw.wr (hh + Fw.eds s 1)),.int .i64 0,.int .i64 0] 94):=hW ▸ At.set (At.set (At.set (At.set (At.set (At.set (At.set (A3) 0 _) 1 _) 2 _) 3 _) 4 _) 5 _) 6 _
   replace A0:At W8 _ _:=hW ▸ At.off (At.off (At.off (At.off (At.off (At.off (At.off (A0) Z3f _ _) Z3f _ _) Z3f _ _) Z3f _ _) Z3f _ _) Z3f _ _) Z3f _ _
   replace A1:At W8 _ _:=hW ▸ At.off (At.off (At.off (At.off (At.off (At.off (At.off (A1) Z3f _ _) Z3f _ _) Z3f _ _) Z3f _ _) Z3f _ _) Z3f _ _) Z3f _ _
   replace A2:At W8 _ _:=hW ▸ At.off (At.off (At.off (At.off (At.off (At.off (At.off (A2) Z3f _ _) Z3f _ _) Z3f _ _) Z3f _ _) Z3f _ _) Z3f _ _) Z3f _ _
   replace A4:At W8 _ _:=hW ▸ At.off (At.off (At.off (At.off (At.off (At.off (At.off (A4) Z3f _ _) Z3f _ _) Z3f _ _) Z3f _ _) Z3f _ _) Z3f _ _) Z3f _ _
   replace hQ:Out _ _ W8:=hW ▸ Out.set (Out.set (Out.set (Out.set (Out.set (Out.set (Out.set (hQ) (.inr rfl) 0 _) (.inr rfl) 1 _) (.inr rfl) 2 _) (.inr rfl) 3 _) (.inr rfl) 4 _) (.inr rfl) 5 _) (.inr rfl) 6 _
   clear hW
   obtain ⟨l0,c0_0,c0_1⟩:=At.two A0
   obtain ⟨l1,c1_0,c1_1⟩:=At.two A1
   obtain ⟨l2,c2_0,c2_1,c2_2,c2_3,c2_4,c2_5,c2_6,c2_7⟩:=At.bx1 A2
   obtain ⟨l4,c4_0,c4_1,c4_2,c4_3,c4_4,c4_5,c4_6⟩:=At.seven A4
   have z4_0:=A4.thaw 0
   have z4_1:=A4.thaw 1
   have z4_2:=A4.thaw 2
   have z4_3:=A4.thaw 3
   have z4_4:=A4.thaw 4
   have z4_5:=A4.thaw 5
   have z4_6:=A4.thaw 6
   obtain ⟨l3,c3_0,c3_1,c3_2,c3_3,c3_4,c3_5,c3_6⟩:=At.seven A3
   have z3_0:=A3.thaw 0
   have z3_1:=A3.thaw 1
   have z3_2:=A3.thaw 2
   have z3_3:=A3.thaw 3
   have z3_4:=A3.thaw 4
   have z3_5:=A3.thaw 5
   have z3_6:=A3.thaw 6
   refine bodyPost_ret (v:= .agg #[.int .i64 _,.int .i64 _,.int .i64 _,.int .i64 _,.int .i64 _,.int .i64 _,.int .i64 _]) (by simp [results,Tryz.results45,go_sem,c3_0,c3_1,c3_2,c3_3,c3_4,c3_5,c3_6];first | done | exact ⟨rfl,rfl,rfl,rfl,rfl,rfl,rfl⟩ | rfl) rfl ⟨rfl,⟨P5,hI2 hI5 hQ (fun b q => ?_),fun b q => ?_⟩,?_⟩
   · rintro (rfl | rfl)
     · rcases hP5 _ q with q | q
       · exact absurd (hP _ q) Z3f
       · simp only [World.size_drew] at q;omega
     · rcases hP5 _ q with q | q
       · exact absurd (hP _ q) Z3f
       · simp only [World.size_drew] at q;omega
   · rcases hP5 _ q with q | q
     · exact .inl q
     · exact .inr (by simp only [World.size_drew] at q;exact Nat.le_trans hB.size q)
   · exact Out.trans' ((Out.of_below hB).trans hO4) hQ fun b hb q=>by rcases q with rfl | rfl <;> omega
 · have hne:(i1 == -1)=false:=by simpa using hu
   have HNE:=Lib.hid hu
   clear hu
   obtain ⟨hh,hhh⟩:∃ x,i1=x:=⟨_,rfl⟩
   go_upto_region 11 with (fail)
   replace A4:At W4 bx (.cells #[.int .i64 z,.int .i64 i0,.int .i64 i1,.int .i64 i0,.int .i64 hh,.int .i64 0,.int .i64 0] 94):=hhh ▸ A4
   obtain ⟨l4,c4_0,c4_1,c4_2,c4_3,c4_4,c4_5,c4_6⟩:=At.seven A4
   obtain ⟨l2,c2_0,c2_1,c2_2,c2_3,c2_4,c2_5,c2_6,c2_7⟩:=At.bx0 A2
   have g0:=hB.size
   go_wp2
   refine wp_loop_rounds 3 ?_
   rw [rounds_succ]
   go_upto_region 14 with (fail)
   refine sqtT 14 1 ?_
   (repeat (first | refine sqk ?_ | refine sqc ?_ (hc:=by intro w2 hS;first | with_reducible exact qaB hS (fall_any _ _ _)) | refine sqv ?_))
   refine Drawn.seq_tail ?_;intro w2 hS
   (clear l0 c0_0 c0_1 l1 c1_0 c1_1 l2 c2_0 c2_1 c2_2 c2_3 c2_4 c2_5 c2_6 c2_7 l3 c3_0 c3_1 c3_2 c3_3 c3_4 c3_5 c3_6 z3_0 z3_1 z3_2 z3_3 z3_4 z3_5 z3_6 l4 c4_0 c4_1 c4_2 c4_3 c4_4 c4_5 c4_6 z4_0 z4_1 z4_2 z4_3 z4_4 z4_5 z4_6);(replace hB:=Below.after2 Z3g (Nat.le_refl _) hS);replace A0:=At.keep Z3k hS;replace A1:=At.keep Z3h hS;replace A2:=At.keep Z3j hS;replace A3:=At.keep Z3m hS;replace A4:=At.keep Z41 hS;clear hS;obtain ⟨l0,c0_0,c0_1⟩:=At.two A0;obtain ⟨l1,c1_0,c1_1⟩:=At.two A1;obtain ⟨l2,c2_0,c2_1,c2_2,c2_3,c2_4,c2_5,c2_6,c2_7⟩:=At.bx0 A2;obtain ⟨l3,c3_0,c3_1,c3_2,c3_3,c3_4,c3_5,c3_6⟩:=At.seven A3;have z3_0:=A3.thaw 0;have z3_1:=A3.thaw 1;have z3_2:=A3.thaw 2;have z3_3:=A3.thaw 3;have z3_4:=A3.thaw 4;have z3_5:=A3.thaw 5;have z3_6:=A3.thaw 6;obtain ⟨l4,c4_0,c4_1,c4_2,c4_3,c4_4,c4_5,c4_6⟩:=At.seven A4;have z4_0:=A4.thaw 0;have z4_1:=A4.thaw 1;have z4_2:=A4.thaw 2;have z4_3:=A4.thaw 3;have z4_4:=A4.thaw 4;have z4_5:=A4.thaw 5;have z4_6:=A4.thaw 6
   refine tkT ?_;intro K hK;go_simp;refine hK _ _ (Drawn.text_nil ?_);clear hK K
   generalize hW:World.setCell _ _ _=W6
   clear l0 c0_0 c0_1 l1 c1_0 c1_1 l2 c2_0 c2_1 c2_2 c2_3 c2_4 c2_5 c2_6 c2_7 l3 c3_0 c3_1 c3_2 c3_3 c3_4 c3_5 c3_6 z3_0 z3_1 z3_2 z3_3 z3_4 z3_5 z3_6 l4 c4_0 c4_1 c4_2 c4_3 c4_4 c4_5 c4_6 z4_0 z4_1 z4_2 z4_3 z4_4 z4_5 z4_6
   replace A4:At W6 bx (.cells #[.int .i64 z,.int .i64 i0,.int .i64 i1,.int .i64 (IntKind.i64.wrap (i0 + Fw.wr (Fw.ed s 3 + Fw.ed s 1))),.int .i64 hh,.int .i64 0,.int .i64 0] 94):=hW ▸ At.set (A4) 3 _
   replace A0:At W6 _ _:=hW ▸ At.off (A0) Z3f _ _
   replace A1:At W6 _ _:=hW ▸ At.off (A1) Z3f _ _
   replace A2:At W6 _ _:=hW ▸ At.off (A2) Z3f _ _
   replace A3:At W6 _ _:=hW ▸ At.off (A3) Z3f _ _
   replace hB:Below w.heap.size w W6:=hW ▸ Below.setCell (hB) Z3p _
   clear hW
   obtain ⟨l0,c0_0,c0_1⟩:=At.two A0
   obtain ⟨l1,c1_0,c1_1⟩:=At.two A1
   obtain ⟨l2,c2_0,c2_1,c2_2,c2_3,c2_4,c2_5,c2_6,c2_7⟩:=At.bx0 A2
   obtain ⟨l3,c3_0,c3_1,c3_2,c3_3,c3_4,c3_5,c3_6⟩:=At.seven A3
   have z3_0:=A3.thaw 0
   have z3_1:=A3.thaw 1
   have z3_2:=A3.thaw 2
   have z3_3:=A3.thaw 3
   have z3_4:=A3.thaw 4
   have z3_5:=A3.thaw 5
   have z3_6:=A3.thaw 6
   obtain ⟨l4,c4_0,c4_1,c4_2,c4_3,c4_4,c4_5,c4_6⟩:=At.seven A4
   have z4_0:=A4.thaw 0
   have z4_1:=A4.thaw 1
   have z4_2:=A4.thaw 2
   have z4_3:=A4.thaw 3
   have z4_4:=A4.thaw 4
   have z4_5:=A4.thaw 5
   have z4_6:=A4.thaw 6
   obtain ⟨l2,c2_0,c2_1,c2_2,c2_3,c2_4,c2_5,c2_6,c2_7⟩:=At.bx1 A2
   go_wp2
   rw [rounds_succ]
   go_upto_region 14 with (fail)
   refine sqtT 14 1 ?_
   (repeat (first | refine sqk ?_ | refine sqc ?_ (hc:=by intro w2 hS;first | with_reducible exact qaB hS (fall_any _ _ _)) | refine sqv ?_))
   refine Drawn.seq_tail ?_;intro w2 hS
   (clear l0 c0_0 c0_1 l1 c1_0 c1_1 l2 c2_0 c2_1 c2_2 c2_3 c2_4 c2_5 c2_6 c2_7 l3 c3_0 c3_1 c3_2 c3_3 c3_4 c3_5 c3_6 z3_0 z3_1 z3_2 z3_3 z3_4 z3_5 z3_6 l4 c4_0 c4_1 c4_2 c4_3 c4_4 c4_5 c4_6 z4_0 z4_1 z4_2 z4_3 z4_4 z4_5 z4_6);(replace hB:=Below.after2 Z3g (Nat.le_refl _) hS);replace A0:=At.keep Z3k hS;replace A1:=At.keep Z3h hS;replace A2:=At.keep Z3j hS;replace A3:=At.keep Z3m hS;replace A4:=At.keep Z41 hS;clear hS;obtain ⟨l0,c0_0,c0_1⟩:=At.two A0;obtain ⟨l1,c1_0,c1_1⟩:=At.two A1;obtain ⟨l2,c2_0,c2_1,c2_2,c2_3,c2_4,c2_5,c2_6,c2_7⟩:=At.bx1 A2;obtain ⟨l3,c3_0,c3_1,c3_2,c3_3,c3_4,c3_5,c3_6⟩:=At.seven A3;have z3_0:=A3.thaw 0;have z3_1:=A3.thaw 1;have z3_2:=A3.thaw 2;have z3_3:=A3.thaw 3;have z3_4:=A3.thaw 4;have z3_5:=A3.thaw 5;have z3_6:=A3.thaw 6;obtain ⟨l4,c4_0,c4_1,c4_2,c4_3,c4_4,c4_5,c4_6⟩:=At.seven A4;have z4_0:=A4.thaw 0;have z4_1:=A4.thaw 1;have z4_2:=A4.thaw 2;have z4_3:=A4.thaw 3;have z4_4:=A4.thaw 4;have z4_5:=A4.thaw 5;have z4_6:=A4.thaw 6
   refine tkT ?_;intro K hK;go_simp;refine hK _ _ (Drawn.text_nil ?_);clear hK K
   generalize hW:World.setCell _ _ _=W7
   clear l0 c0_0 c0_1 l1 c1_0 c1_1 l2 c2_0 c2_1 c2_2 c2_3 c2_4 c2_5 c2_6 c2_7 l3 c3_0 c3_1 c3_2 c3_3 c3_4 c3_5 c3_6 z3_0 z3_1 z3_2 z3_3 z3_4 z3_5 z3_6 l4 c4_0 c4_1 c4_2 c4_3 c4_4 c4_5 c4_6 z4_0 z4_1 z4_2 z4_3 z4_4 z4_5 z4_6
   replace A4:At W7 bx (.cells #[.int .i64 z,.int .i64 i0,.int .i64 i1,.int .i64 (IntKind.i64.wrap (i0 + Fw.wr (Fw.ed s 3 + Fw.ed s 1))),.int .i64 (IntKind.i64.wrap (hh + Fw.wr (Fw.ed s 0 + Fw.ed s 2))),.int .i64 0,.int .i64 0] 94):=hW ▸ At.set (A4) 4 _
   replace A0:At W7 _ _:=hW ▸ At.off (A0) Z3f _ _
   replace A1:At W7 _ _:=hW ▸ At.off (A1) Z3f _ _
   replace A2:At W7 _ _:=hW ▸ At.off (A2) Z3f _ _
   replace A3:At W7 _ _:=hW ▸ At.off (A3) Z3f _ _
   replace hB:Below w.heap.size w W7:=hW ▸ Below.setCell (hB) Z3p _
   clear hW
   obtain ⟨l0,c0_0,c0_1⟩:=At.two A0
   obtain ⟨l1,c1_0,c1_1⟩:=At.two A1
   obtain ⟨l2,c2_0,c2_1,c2_2,c2_3,c2_4,c2_5,c2_6,c2_7⟩:=At.bx1 A2
   obtain ⟨l3,c3_0,c3_1,c3_2,c3_3,c3_4,c3_5,c3_6⟩:=At.seven A3
   have z3_0:=A3.thaw 0
   have z3_1:=A3.thaw 1
   have z3_2:=A3.thaw 2
   have z3_3:=A3.thaw 3
   have z3_4:=A3.thaw 4
   have z3_5:=A3.thaw 5
   have z3_6:=A3.thaw 6
   obtain ⟨l4,c4_0,c4_1,c4_2,c4_3,c4_4,c4_5,c4_6⟩:=At.seven A4
   have z4_0:=A4.thaw 0
   have z4_1:=A4.thaw 1
   have z4_2:=A4.thaw 2
   have z4_3:=A4.thaw 3
   have z4_4:=A4.thaw 4
   have z4_5:=A4.thaw 5
   have z4_6:=A4.thaw 6
   go_wp2
   rw [rounds_succ]
   go_wp2
   have hans:ans=⟨z,i0,hh,Fw.wr (i0 + Fw.eds s 0),Fw.wr (hh + Fw.eds s 1),0,0⟩:=by
    rw [← HANS.out];unfold Fw.lay1;simp only [hs,HI0.out,HI1.out,hhh,if_neg (show ¬ hh = -1 from hhh ▸ HNE.out)]
   subst hans
   simp only [wr64]
   generalize hW:World.setCell _ _ _=W8
   clear l0 c0_0 c0_1 l1 c1_0 c1_1 l2 c2_0 c2_1 c2_2 c2_3 c2_4 c2_5 c2_6 c2_7 l4 c4_0 c4_1 c4_2 c4_3 c4_4 c4_5 c4_6 z4_0 z4_1 z4_2 z4_3 z4_4 z4_5 z4_6 l3 c3_0 c3_1 c3_2 c3_3 c3_4 c3_5 c3_6 z3_0 z3_1 z3_2 z3_3 z3_4 z3_5 z3_6
   replace A3:At W8 (w.heap.size + 1 + 1) (.cells #[.int .i64 z,.int .i64 i0,.int .i64 hh,.int .i64 (Fw.wr (i0 + Fw.eds s 0)),.int .i64 (Fw.wr (hh + Fw.eds s 1)),.int .i64 0,.int .i64 0] 94):=hW ▸ At.set (At.set (At.set (At.set (At.set (At.set (At.set (A3) 0 _) 1 _) 2 _) 3 _) 4 _) 5 _) 6 _
   replace A0:At W8 _ _:=hW ▸ At.off (At.off (At.off (At.off (At.off (At.off (At.off (A0) Z3f _ _) Z3f _ _) Z3f _ _) Z3f _ _) Z3f _ _) Z3f _ _) Z3f _ _
   replace A1:At W8 _ _:=hW ▸ At.off (At.off (At.off (At.off (At.off (At.off (At.off (A1) Z3f _ _) Z3f _ _) Z3f _ _) Z3f _ _) Z3f _ _) Z3f _ _) Z3f _ _
   replace A2:At W8 _ _:=hW ▸ At.off (At.off (At.off (At.off (At.off (At.off (At.off (A2) Z3f _ _) Z3f _ _) Z3f _ _) Z3f _ _) Z3f _ _) Z3f _ _) Z3f _ _
   replace A4:At W8 _ _:=hW ▸ At.off (At.off (At.off (At.off (At.off (At.off (At.off (A4) Z3f _ _) Z3f _ _) Z3f _ _) Z3f _ _) Z3f _ _) Z3f _ _) Z3f _ _
   replace hB:Below w.heap.size w W8:=hW ▸ Below.setCell (Below.setCell (Below.setCell (Below.setCell (Below.setCell (Below.setCell (Below.setCell (hB) Z3p _) Z3p _) Z3p _) Z3p _) Z3p _) Z3p _) Z3p _
   clear hW
   obtain ⟨l0,c0_0,c0_1⟩:=At.two A0
   obtain ⟨l1,c1_0,c1_1⟩:=At.two A1
   obtain ⟨l2,c2_0,c2_1,c2_2,c2_3,c2_4,c2_5,c2_6,c2_7⟩:=At.bx1 A2
   obtain ⟨l4,c4_0,c4_1,c4_2,c4_3,c4_4,c4_5,c4_6⟩:=At.seven A4
   have z4_0:=A4.thaw 0
   have z4_1:=A4.thaw 1
   have z4_2:=A4.thaw 2
   have z4_3:=A4.thaw 3
   have z4_4:=A4.thaw 4
   have z4_5:=A4.thaw 5
   have z4_6:=A4.thaw 6
   obtain ⟨l3,c3_0,c3_1,c3_2,c3_3,c3_4,c3_5,c3_6⟩:=At.seven A3
   have z3_0:=A3.thaw 0
   have z3_1:=A3.thaw 1
   have z3_2:=A3.thaw 2
   have z3_3:=A3.thaw 3
   have z3_4:=A3.thaw 4
   have z3_5:=A3.thaw 5
   have z3_6:=A3.thaw 6
   refine bodyPost_ret (v:= .agg #[.int .i64 _,.int .i64 _,.int .i64 _,.int .i64 _,.int .i64 _,.int .i64 _,.int .i64 _]) (by simp [results,Tryz.results45,go_sem,c3_0,c3_1,c3_2,c3_3,c3_4,c3_5,c3_6];first | done | exact ⟨rfl,rfl,rfl,rfl,rfl,rfl,rfl⟩ | rfl) rfl ⟨rfl,⟨P,h12 (hI (M:=fun _=>False) hw (Out.of_below hB) fun _ _ q=>q),fun b q => .inl q⟩,Out.of_below hB⟩
end
end Go.Proofs.YteggipnplbkijaaGreat.Fix
