/- Boxes laid by the program: what its functions do, part 22. -/
import Derived.Test.YteggipnplbkijaaGreatWK
import Derived.Test.YteggipnplbkijaaGreatW18
import Derived.Test.YteggipnplbkijaaGreatW19
import Derived.Test.YteggipnplbkijaaGreatW21
set_option linter.unusedVariables false
set_option linter.unusedSimpArgs false
set_option linter.unusedSectionVars false
set_option maxRecDepth 100000
namespace Go.Proofs.YteggipnplbkijaaGreat.Fix
open Go.ChangeShapes Go.WideShapes Go.ChangeAt Go.RowKit
theorem agg_ex (W:World):(isAgg 136).run Tryz.prog W = .ok true W:=by kernel_rfl
theorem siz_ex (W:World):(sizeOf 136).run Tryz.prog W = .ok 6 W:=by kernel_rfl
theorem reads_ext0 {ops:Array Oper} {S:World→Prop} {o:Oper} {a:Act} (p:Operand) {b:Nat} {s:Re.St} {fl ap:Value} {ib:Bool} (hw:Region.wanted o (yielded ops a.tmps)=true) (ho:o.op = .load 136 p) (hp:a.eval p = .pointer (some ⟨b,55,none⟩)) (h:∀ X,S X→BxAt X b s fl ap ib):Drawn.Reads Tryz.prog ops S o (.agg #[.int .i64 (s.c 3),.int .i64 (s.c 4),.int .i64 (s.c 7),.int .i64 (s.c 8),.int .i64 (s.c 11),.int .i64 (s.c 12)]) a :=
 .inl ⟨hw,fun X hX=>exec_load_at agg_ex siz_ex p ho hp rfl fun j hj=>by
  obtain ⟨l2,c0,c1,c2,c3,c4,c5,_⟩:=At.bx0 (h X hX)
  match j,hj with
  | 0,_=>exact c0
  | 1,_=>exact c1
  | 2,_=>exact c2
  | 3,_=>exact c3
  | 4,_=>exact c4
  | 5,_=>exact c5⟩
theorem reads_ext1 {ops:Array Oper} {S:World→Prop} {o:Oper} {a:Act} (p:Operand) {b:Nat} {s:Re.St} {fl ap:Value} {ib:Bool} (hw:Region.wanted o (yielded ops a.tmps)=true) (ho:o.op = .load 136 p) (hp:a.eval p = .pointer (some ⟨b,61,none⟩)) (h:∀ X,S X→BxAt X b s fl ap ib):Drawn.Reads Tryz.prog ops S o (.agg #[.int .i64 (s.c 5),.int .i64 (s.c 6),.int .i64 (s.c 9),.int .i64 (s.c 10),.int .i64 (s.c 13),.int .i64 (s.c 14)]) a :=
 .inl ⟨hw,fun X hX=>exec_load_at agg_ex siz_ex p ho hp rfl fun j hj=>by
  obtain ⟨l2,c0,c1,c2,c3,c4,c5,_⟩:=At.bx1 (h X hX)
  match j,hj with
  | 0,_=>exact c0
  | 1,_=>exact c1
  | 2,_=>exact c2
  | 3,_=>exact c3
  | 4,_=>exact c4
  | 5,_=>exact c5⟩
section
variable {Y:Lyt} {B:Int→Fw.Bx} {D:Int→Prop} {KM:World→Nat→Prop}
set_option maxHeartbeats 8000000 in
theorem fcolset (hK:∀ (X X':World) (b:Nat),KM X b→Below X.heap.size X X'→KM X' b) (z k i0 i1:Int) (hz:D z) (hk:D k) (bk:Nat) (hbk:bk=Y.bl k) (w:World) (hR:RO w Y B D KM) :
  Calls Tryz.prog 147 #[.pointer (some ⟨Y.lb,0,none⟩),.agg #[.int .i64 z,.int .i64 i0,.int .i64 i1],.pointer (some ⟨bk,0,none⟩)] w fun e w'=>e = .returned (.agg #[.int .i64 (Fw.colSet B z i0 k),.int .i64 (-1)])∧Below w.heap.size w w':=by
 obtain ⟨ans,hans⟩:∃ a,Fw.colSet B z i0 k=a:=⟨_,rfl⟩
 rw [hans]
 unfold Fw.colSet Fw.fxd at hans
 obtain ⟨sk,hsk⟩:∃ s,(B k).sty=s:=⟨_,rfl⟩
 obtain ⟨sz,hsz⟩:∃ s,(B z).sty=s:=⟨_,rfl⟩
 rw [hsk,hsz] at hans
 simp only [Nat.mul_zero,Nat.add_zero] at hans
 have HANS:=Lib.hid hans
 have HBK:=Lib.hid hbk
 have HSK:=Lib.hid hsk
 have HSZ:=Lib.hid hsz
 clear hans hbk hsk hsz
 go_enter Tryz.func147,Tryz.ntmps147
 go_upto_region 1 with (fail)
 generalize hW:World.alloc _ _=W0
 have A0:At W0 w.heap.size (.cells #[.int .i64 z,.int .i64 i0,.int .i64 i1] 92):=hW ▸ At.alloc (At.new _ _) _
 have A1:At W0 (w.heap.size + 1) (.cells #[.int .i64 0,.int .i64 0] 88):=hW ▸ At.new' _ Z3t
 have hB0:Below w.heap.size w W0:=hW ▸ Below.alloc' (Below.alloc' (Below.refl _ _) _) _
 clear hW
 go_upto_region 2 with (go_at_call 46;(with_reducible refine (funset_any _).mono ?_);rintro e' w4 ⟨rfl,hb4⟩)
 generalize hW:World.alloc _ _=W1
 have A2:At W1 w4.heap.size (.cells #[.int .i64 (-1),.int .i64 (-1)] 88):=hW ▸ At.new _ _
 have hb5:Below W0.heap.size W0 W1:=hW ▸ (hb4.trans (Below.mono (Below.alloc' (Below.refl _ _) _) hb4.size))
 clear hW
 have gS:W0.heap.size≤w4.heap.size:=hb4.size
 generalize w4.heap.size=T at *
 clear hb4
 have l1':=A1.lt
 have hnT:w.heap.size + 1≠T:=by omega
 have hnT2:w.heap.size≠T:=by omega
 have hgT:w.heap.size≤T:=by omega
 replace A0:=A0.keep hb5
 replace A1:=A1.keep hb5
 have hB1:Below w.heap.size w W1:=Below.after2 hB0 (Nat.le_refl _) hb5
 have hR1:=hR.keep hK hB1
 have hbx:=(hR1.box k hk).1
 rw [← HBK.out,HSK.out] at hbx
 have hbz:=(hR1.box z hz).1
 obtain ⟨bz,hbz0⟩:∃ b,Y.bl z=b:=⟨_,rfl⟩
 rw [hbz0,HSZ.out] at hbz
 have hlk:=fun X (h:Below W1.heap.size W1 X)=>(hR1.keep hK h).look hz
 simp only [hbz0] at hlk
 have c44:W1.cell? ⟨bz,44,none⟩=some (.int .i64 (sz.c 44)):=BxAt.int hbz 44 Z3f rfl
 have lbz:=BxAt.lt hbz
 have hlay:=hR1.lay
 generalize Y.vf k=vf at hbx
 generalize Y.va k=va at hbx
 generalize (B k).ib=ib at hbx
 have HBX:=Lib.hid hbx
 obtain ⟨l2,c2_0,c2_1,c2_2,c2_3,c2_4,c2_5,c2_6,c2_7⟩:=At.bx0 hbx
 obtain ⟨lY,cY0,cY1,cY2,cY3,cY4,cY5⟩:=At.six hlay
 obtain ⟨l0,c0_0,c0_1,c0_2⟩:=At.three A0
 clear hbx hbz hlay hR1 hR hB0 hbz0 hb5
 have hSd:Below W1.heap.size W1 W1.drew:=Below.drew (Below.refl _ _)
 cases hfx:Fx.fixd (sk.c 3) i0 with
 | true =>
   have E:Hid (-1=ans):=Lib.hid (by rw [← HANS.out,hfx];simp)
   have HFX:=Lib.hid hfx
   clear hfx HANS
   refine tkX (S:=fun X=>Below W1.heap.size W1 X) 24 ?_ ?_
   · exact hSd
   intro hx
   clear hSd
   refine tkB 0 ?_
   refine tkB 1 ?_
   refine tkB 2 ?_
   refine tkB 3 ?_
   refine tkR 4 rfl (reads_ext0 (.tmp 12) Z3n rfl rfl (fun X h=>HBX.out.keep h)) ?_
   refine tkB 5 ?_
   refine tkB 6 ?_
   refine tkB 7 ?_
   refine tk1 8 ?_
   refine Drawn.Step.call Z3x (ffix_any _ _ _ _ _ _ _ _) ?_
   rintro e' w6 ⟨rfl,hb⟩
   rw [HFX.out]
   replace hx:=Below.after2 hx (Nat.le_refl _) hb
   clear hb
   refine ⟨_,rfl,fun _=>hx,?_⟩
   (try simp only [tkp,tka,tkz,tks])
   refine tkB 9 ?_
   refine tkB 10 ?_
   refine tkB 11 ?_
   refine tkB 12 ?_
   refine tkB 13 ?_
   refine tkB 14 ?_
   refine tkB 15 ?_
   refine tkB 16 ?_
   refine tkB 17 ?_
   exact Zy
 | false =>
   have HFX:=Lib.hid hfx
   by_cases h44:sz.c 44=0
   · have E:Hid (-1=ans):=Lib.hid (by rw [← HANS.out,hfx,h44];simp)
     clear hfx HANS
     refine tkX (S:=fun X=>Below W1.heap.size W1 X) 24 ?_ ?_
     · exact hSd
     intro hx
     clear hSd
     refine tkB 0 ?_
     refine tkB 1 ?_
     refine tkB 2 ?_
     refine tkB 3 ?_
     refine tkR 4 rfl (reads_ext0 (.tmp 12) Z3n rfl rfl (fun X h=>HBX.out.keep h)) ?_
     refine tkB 5 ?_
     refine tkB 6 ?_
     refine tkB 7 ?_
     refine tk1 8 ?_
     refine Drawn.Step.call Z3x (ffix_any _ _ _ _ _ _ _ _) ?_
     rintro e' w6 ⟨rfl,hb⟩
     rw [HFX.out]
     replace hx:=Below.after2 hx (Nat.le_refl _) hb
     clear hb
     refine ⟨_,rfl,fun _=>hx,?_⟩
     (try simp only [tkp,tka,tkz,tks])
     refine tkB 9 ?_
     refine tkB 10 ?_
     refine tkB 11 ?_
     refine tkB 12 ?_
     refine tkB 13 ?_
     refine tkB 14 ?_
     refine tkB 15 ?_
     refine tkB 16 ?_
     refine tkR 17 rfl (reads_lookup Z3n rfl rfl rfl (fun X h=>hlk X h)) ?_
     exact Zy
   · have E:Hid (Fw.byc sk i0=ans):=Lib.hid (by rw [← HANS.out,hfx,if_pos ⟨rfl,h44⟩])
     clear hfx HANS
     refine tkX (S:=fun X=>Below W1.heap.size W1 X) 24 ?_ ?_
     · exact hSd
     intro hx
     clear hSd
     refine tkB 0 ?_
     refine tkB 1 ?_
     refine tkB 2 ?_
     refine tkB 3 ?_
     refine tkR 4 rfl (reads_ext0 (.tmp 12) Z3n rfl rfl (fun X h=>HBX.out.keep h)) ?_
     refine tkB 5 ?_
     refine tkB 6 ?_
     refine tkB 7 ?_
     refine tk1 8 ?_
     refine Drawn.Step.call Z3x (ffix_any _ _ _ _ _ _ _ _) ?_
     rintro e' w6 ⟨rfl,hb⟩
     rw [HFX.out]
     replace hx:=Below.after2 hx (Nat.le_refl _) hb
     clear hb
     refine ⟨_,rfl,fun _=>hx,?_⟩
     (try simp only [tkp,tka,tkz,tks])
     refine tkB 9 ?_
     refine tkB 10 ?_
     refine tkB 11 ?_
     refine tkB 12 ?_
     refine tkB 13 ?_
     refine tkB 14 ?_
     refine tkB 15 ?_
     refine tkB 16 ?_
     refine tkR 17 rfl (reads_lookup Z3n rfl rfl rfl (fun X h=>hlk X h)) ?_
     refine tkB 18 ?_
     refine tkB 19 ?_
     refine tkB 20 ?_
     refine tkB 21 ?_
     refine tkB 22 ?_
     refine tkB 23 ?_
     refine tkE ?_
     replace A0:=A0.keep hx
     replace A1:=A1.keep hx
     replace A2:=A2.keep hx
     have hBx:Below w.heap.size w _:=Below.after2 hB1 (Nat.le_refl _) hx
     clear l0 c0_0 c0_1 c0_2 lY cY0 cY1 cY2 cY3 cY4 cY5 l2 c2_0 c2_1 c2_2 c2_3 c2_4 c2_5 c2_6 c2_7 c44 lbz hlk
     have HBX6:=Lib.hid (HBX.out.keep hx)
     obtain ⟨l0,c0_0,c0_1,c0_2⟩:=At.three A0
     go_upto_region 4 with (go_at_call 111;(with_reducible refine (fbyc_any bk sk vf va ib i0 i1 _ HBX6.out).mono ?_);rintro e' w7 ⟨rfl,hb⟩;replace A1:=A1.keep hb;replace A2:=A2.keep hb;obtain ⟨l3,c3_0,c3_1⟩:=At.two A2;have zT:=A2.thaw 0)
     generalize hW:World.setCell _ _ _=W8
     replace A2:At W8 T (.cells #[.int .i64 (Fw.byc sk i0),.int .i64 (-1)] 88):=hW ▸ At.set A2 0 _
     replace A1:At W8 (w.heap.size + 1) (.cells #[.int .i64 0,.int .i64 0] 88):=hW ▸ At.off A1 hnT _ _
     have hB9:Below w.heap.size w W8:=by
      rw [← hW]
      exact Below.setCell (Below.after2 hBx (Nat.le_refl _) hb) hgT _
     clear hW zT l3 c3_0 c3_1 l0 c0_0 c0_1 c0_2 hb
     obtain ⟨l3,c3_0,c3_1⟩:=At.two A2
     obtain ⟨l4,c4_0,c4_1⟩:=At.two A1
     have z4_0:=A1.thaw 0
     have z4_1:=A1.thaw 1
     have lw:w.heap.size + 1<w.heap.size + 1 + 1:=by omega
     go_wp2
     generalize hW:World.setCell _ _ _=W6
     replace A1:At W6 (w.heap.size + 1) (.cells #[.int .i64 (Fw.byc sk i0),.int .i64 (-1)] 88):=hW ▸ At.set (At.set A1 0 _) 1 _
     have hB6:Below w.heap.size w W6:=by
      rw [← hW]
      exact Below.setCell (Below.setCell hB9 (Nat.le_succ _) _) (Nat.le_succ _) _
     exact Z2k
end
def ldcs (l:List Fw.Ld):List Value:=l.flatMap fun x=>(ldc x).toList
theorem ldcs_snoc (l:List Fw.Ld) (x:Fw.Ld):ldcs (l ++ [x])=ldcs l ++ (ldc x).toList:=by simp [ldcs]
theorem ldcs_get (l:List Fw.Ld):∀ i (h:i<l.length) j,j<7→(ldcs l)[i * 7 + j]? = (ldc l[i])[j]? := by
 induction l with
 | nil=>intro i h;simp at h
 | cons x l ih =>
   intro i h j hj
   have e:ldcs (x :: l)=(ldc x).toList ++ ldcs l:=rfl
   rw [e]
   cases i with
   | zero =>
     rw [List.getElem?_append_left (by simp [ldc];omega),Array.getElem?_toList]
     simp
   | succ i =>
     rw [List.getElem?_append_right (by simp [ldc];omega)]
     have e2:(i + 1) * 7 + j - (ldc x).toList.length=i * 7 + j:=by simp [ldc];omega
     rw [e2,ih i (by simpa using h) j hj]
     rfl
theorem append_ld {W:World} {base:Nat} {v:Value} {l:List Fw.Ld} (x:Fw.Ld) (hown:W.ownsRow base 94 7 v l.length (ldcs l)) (hbase:base≤W.heap.size) (hk:l.length≤10000) :
  ∃ g c w',(Builtin.append_ #[142,142] 142 #[v,.slice (some ⟨W.heap.size,0,none⟩) 1 1]).run Tryz.prog (W.alloc (.cells (ldc x) 94)) = .ok (.slice (some ⟨g,0,none⟩) (l.length + 1) c) w'∧w'.ownsRow base 94 7 (.slice (some ⟨g,0,none⟩) (l.length + 1) c) (l ++ [x]).length (ldcs (l ++ [x]))∧Out (fun b=>v.ownBlock=some b) (W.alloc (.cells (ldc x) 94)) w':=by
 obtain ⟨i0,hi0,hz0,hz1,hz2⟩:=info_parts infoLd
 have hA:=At.new W (.cells (ldc x) 94)
 obtain ⟨v',w',hr,ho,hg,_,_⟩:=run_append_own_at (P:=Tryz.prog) (w:=W.alloc (.cells (ldc x) 94)) base 142 142 94 i0 _ 7 56 Tryz.underlying142 hi0 hz0 hz1 hz2 rfl Z3i v l.length _ (hown.alloc _) ⟨W.heap.size,0,none⟩ 1 1 (ldc x).toList rfl
  (by intro j u hj
      rw [addr_add,Nat.zero_add,hA.cell, ← hj,Array.getElem?_toList])
  (ldc_one x) Z40 Z3f Z3p
 obtain ⟨g,c,rfl⟩:=ownsRow_succ ho
 refine ⟨g,c,w',hr,?_,Out.grown hg fun b h=>h⟩
 rw [ldcs_snoc,List.length_append]
 exact ho
theorem ldcs_row {w:World} {base:Nat} {v:Value} {l:List Fw.Ld} (h:w.ownsRow base 94 7 v l.length (ldcs l)) (hl:l≠[]):∃ R cap cs,v = .slice (some ⟨R,0,none⟩) l.length cap∧v.ownBlock=some R∧base≤R∧At w R (.cells cs 94)∧RowC cs l:=by
 rcases h.2 with ⟨rfl,h0⟩ | ⟨g,cap,cur,rfl,hb,hgb,hnc,hcm,hsz,htk⟩
 · exact absurd (List.length_eq_zero_iff.1 h0) hl
 · refine ⟨g,cap,cur,rfl,rfl,hb,hgb,?_,fun i hi j hj => ?_⟩
   · rw [hsz];exact Nat.mul_le_mul_right 7 hnc
   · have e:=ldcs_get l i hi j hj
     rw [← htk,List.getElem?_take,if_pos Z3f,Array.getElem?_toList] at e
     exact e
theorem wpList_built_ld {ops:Array Oper} {rest:List Oper} {o:Oper} {a:Act} {Q:Exit→Act→World→Prop} {w:World} (hw:Region.wanted o (yielded ops a.tmps)=true) (x:Operand) (ho:o.op = .buildSlice 142 1 #[(0,x)]) {y:Fw.Ld} (hx:a.eval x = .agg (ldc y))
  (h:wpList Tryz.prog ops Q rest (a.put o.dst (.slice (some ⟨w.heap.size,0,none⟩) 1 1)) (w.alloc (.cells (ldc y) 94))):wpList Tryz.prog ops Q (o :: rest) a w:=by
 have hrun:(execOp a.eval o).run Tryz.prog w = .ok (.value (.slice (some ⟨w.heap.size,0,none⟩) 1 1)) (w.alloc (.cells (ldc y) 94)):=by
  unfold execOp
  simp only [ho]
  generalize a.eval=ev at *
  unfold ldc at hx ⊢
  go_simp
 exact Z2w
theorem lfts_congr {r:Int} {e e':Nat→Int} {n:Nat} (h:∀ i,i<n→e i=e' i):lfts r e n=lfts r e' n:=by
 induction n with
 | zero=>rfl
 | succ n ih=>simp only [lfts];rw [ih fun i hi=>h i Z3f,h n Z3f]
theorem lfts_fold (h:Int→Int) (r:Int) (l:List Int):l.foldl (fun a k=>Fw.wr (a - h k)) r=lfts r (fun i=>h (l.getD i 0)) l.length:=by
 have key:∀ n,n≤l.length→(l.take n).foldl (fun a k=>Fw.wr (a - h k)) r=lfts r (fun i=>h (l.getD i 0)) n:=by
  intro n
  induction n with
  | zero=>intro _;rfl
  | succ n ih =>
    intro hn
    have hn':n<l.length:=hn
    rw [List.take_succ_eq_append_getElem hn',List.foldl_append,ih Z3f]
    simp [lfts,List.getD,List.getElem?_eq_getElem hn']
 have:=key l.length (Nat.le_refl _)
 rwa [List.take_length] at this
def colIt (B:Int→Fw.Bx) (f:Nat) (z i0 i1 k:Int):Fe.It:=Fw.asI (B k).sty 1 (Fw.wr ((Fw.lay B f k i0 i1 (Fw.colSet B z i0 k) (-1)).s1 - Fw.eds (B k).sty 1)) i1
def clA (B:Int→Fw.Bx) (f:Nat) (z i0 i1:Int) (x:Im):Im:={ x with it:=colIt B f z i0 i1 x.ld.id,ld:=Fw.lay B f x.ld.id i0 i1 (Fw.colSet B z i0 x.ld.id) (-1) }
def clB (B:Int→Fw.Bx) (f:Nat) (z i0 i1:Int) (sz:List Int) (i:Nat) (x:Im):Im:={ x with ld:=Fw.lay B f x.ld.id i0 i1 (Fw.colSet B z i0 x.ld.id) (Fw.wr (sz.getD i 0 + Fw.eds (B x.ld.id).sty 1)) }
def clE (al i0:Int) (st:List Int) (i:Nat) (x:Im):Fw.Ld:={ x.ld with a0:=Fw.wr (Ju.across al (outr0 x) i0 + x.m0),a1:=Fw.wr (st.getD i 0 + x.m2) }
def clS (B:Int→Fw.Bx) (f:Nat) (z i0 i1:Int) (fl:List Int):List Int:=colSz (fun i=>colIt B f z i0 i1 (fl.getD i 0)) (fun i=>Fw.kex B i0 1 (fl.getD i 0)) fl.length i1 ((B z).sty.c 46)
theorem colSz_model (B:Int→Fw.Bx) (i0 r gap:Int) (it:Int→Fe.It) (fl:List Int):colSz (fun i=>it (fl.getD i 0)) (fun i=>Fw.kex B i0 1 (fl.getD i 0)) fl.length r gap=if r ≠ -1∧fl.length≤64 then Fw.flexed B i0 r gap 1 it fl else fl.map fun k=>Fe.clamp (it k) (it k).b:=by
 unfold colSz Fw.flexed Fw.left
 split
 · rw [lfts_fold];rfl
 · unfold Ju.row
   exact List.ext_getElem Z3t fun i h1 h2=>by
    have h3:i<fl.length:=by simpa using h2
    simp [List.getD,List.getElem?_eq_getElem h3]
theorem mcolumn_items (Y:Lyt) (B:Int→Fw.Bx) (f:Nat) (z i0 i1:Int) (fl:List Int) (hfl:(B z).fl=fl) (sz:List Int) (hsz:clS B f z i0 i1 fl=sz) (zs:List Im) (hzs:((newIms Y B i0 fl).map (clA B f z i0 i1)).mapIdx (clB B f z i0 i1 sz)=zs) (high:Int) (hh:Li.long ((B z).sty.c 46) (outs1 zs)=high) :
  Fw.mcolumn B (Fw.lay B f) z i0 i1=(zs.mapIdx (clE ((B z).sty.c 44) i0 (Ju.row (Ju.starts ((B z).sty.c 43) (if i1 = -1 then high else i1) ((B z).sty.c 46) (outs1 zs)) zs.length)),high):=by
 unfold Fw.mcolumn
 simp only [hfl]
 have e1:=colSz_model B i0 i1 ((B z).sty.c 46) (colIt B f z i0 i1) fl
 have e2:clS B f z i0 i1 fl=_:=e1
 rw [hsz] at e2
 have e3:(if i1 ≠ -1∧fl.length≤64 then Fw.flexed B i0 i1 ((B z).sty.c 46) 1 (fun k=>Fw.asI (B k).sty 1 (Fw.wr ((Fw.lay B f k i0 i1 (Fw.colSet B z i0 k) (-1)).s1 - Fw.eds (B k).sty 1)) i1) fl else fl.map fun k=>Fe.clamp ((fun k=>Fw.asI (B k).sty 1 (Fw.wr ((Fw.lay B f k i0 i1 (Fw.colSet B z i0 k) (-1)).s1 - Fw.eds (B k).sty 1)) i1) k) ((fun k=>Fw.asI (B k).sty 1 (Fw.wr ((Fw.lay B f k i0 i1 (Fw.colSet B z i0 k) (-1)).s1 - Fw.eds (B k).sty 1)) i1) k).b)=sz:=e2.symm
 simp only [] at e3 ⊢
 rw [e3]
 have hlen:zs.length=fl.length:=by rw [← hzs];simp [newIms]
 have hget:∀ i (h:i<zs.length) (h':i<fl.length),zs[i]=clB B f z i0 i1 sz i (clA B f z i0 i1 (newIm Y B i0 fl[i])):=fun i h h'=>by
  subst hzs;simp [newIms]
 have hlong:(fl.mapIdx fun i k=>Fw.lay B f k i0 i1 (Fw.colSet B z i0 k) (Fw.wr (sz.getD i 0 + Fw.eds (B k).sty 1))).map (Fw.kout B i0 1)=outs1 zs:=by
  unfold outs1
  exact List.ext_getElem (by simp [hlen]) fun i h1 h2=>by
   have h3:i<fl.length:=by simpa using h1
   have h4:i<zs.length:=by rw [hlen];exact h3
   simp only [List.getElem_map,List.getElem_mapIdx]
   rw [hget i h4 h3]
   rfl
 rw [hlong,hh]
 congr 1
 exact List.ext_getElem (by simp [hlen]) fun i h1 h2=>by
  have h3:i<fl.length:=by simpa using h1
  have h4:i<zs.length:=by rw [hlen];exact h3
  simp only [List.getElem_mapIdx]
  rw [hget i h4 h3]
  unfold clE
  rw [Ju.row_get _ h4]
  rfl
theorem csum_ids {B:Int→Fw.Bx} {f:Nat} {l l':List Im} (h:l.map (·.ld.id)=l'.map (·.ld.id)) (k:Nat):csum B f l k=csum B f l' k:=by
 unfold csum
 have e:∀ m:List Im,(m.take k).map (fun x=>Fw.cst B f x.ld.id)=((m.map (·.ld.id)).take k).map (Fw.cst B f):=fun m=>by rw [← List.map_take,List.map_map];rfl
 rw [e,e,h]
section
variable {Y:Lyt} {B:Int→Fw.Bx} {F:Int→Nat} {D:Int→Prop} {f:Nat}
theorem iok_new {i0 k:Int} (hd:D k) (hf:F k=f):IOK Y B D F f i0 (newIm Y B i0 k):=⟨hd,hf,rfl,rfl,rfl,rfl,rfl⟩
theorem iok_clA {z i0 i1:Int} {x:Im} (h:IOK Y B D F f i0 x):IOK Y B D F f i0 (clA B f z i0 i1 x):=⟨h.d,h.f,h.bx,h.m0,h.m1,h.m2,h.m3⟩
theorem iok_clB {z i0 i1:Int} {sz:List Int} {x:Im} (i:Nat) (h:IOK Y B D F f i0 x):IOK Y B D F f i0 (clB B f z i0 i1 sz i x):=⟨h.d,h.f,h.bx,h.m0,h.m1,h.m2,h.m3⟩
end
end Go.Proofs.YteggipnplbkijaaGreat.Fix
namespace Go.Proofs.YteggipnplbkijaaGreat.Fe
theorem ag_pl {S T:Nat→St} {n:Nat} (h:∀ i,i<n→S i=T i):∀ k,k≤n→pl S k=pl T k:=by
 intro k
 induction k with
 | zero=>intro _;rfl
 | succ k ih=>intro hk;simp only [pl];rw [ih Z3f,h k Z3f]
theorem ag_ws {S T:Nat→St} {n:Nat} (gr:Bool) (h:∀ i,i<n→S i=T i):∀ k,k≤n→ws gr S k=ws gr T k:=by
 intro k
 induction k with
 | zero=>intro _;rfl
 | succ k ih=>intro hk;simp only [ws];rw [ih Z3f,h k Z3f]
theorem ag_left {S T:Nat→St} {n:Nat} (room:Int) (h:∀ i,i<n→S i=T i):∀ k,k≤n→left room S k=left room T k:=by
 intro k
 induction k with
 | zero=>intro _;rfl
 | succ k ih=>intro hk;simp only [left];rw [ih Z3f,h k Z3f]
theorem ag_made {S T:Nat→St} {n:Nat} (h:∀ i,i<n→S i=T i):∀ k,k≤n→made S k=made T k:=by
 intro k
 induction k with
 | zero=>intro _;rfl
 | succ k ih=>intro hk;simp only [made];rw [ih Z3f,h k Z3f]
theorem ag_sumz {l l':Nat→It} {n:Nat} (h:∀ i,i<n→l i=l' i):∀ k,k≤n→sumz l k=sumz l' k:=by
 intro k
 induction k with
 | zero=>intro _;rfl
 | succ k ih=>intro hk;simp only [sumz];rw [ih Z3f,h k Z3f]
theorem ag_round {S T:Nat→St} {n:Nat} (gr:Bool) (room:Int) (h:∀ i,i<n→S i=T i):∀ i,i<n→round gr room n S i=round gr room n T i:=by
 have h1:∀ i,i<n→shared gr room n S i=shared gr room n T i:=by
  intro i hi
  unfold shared sharedBy parts free want
  rw [ag_left room h n (Nat.le_refl _),ag_ws gr h n (Nat.le_refl _),ag_pl h i Z3f,h i hi]
 intro i hi
 unfold round froze
 rw [ag_made h1 n (Nat.le_refl _),h1 i hi]
theorem ag_rounds {S T:Nat→St} {n:Nat} (gr:Bool) (room:Int) (h:∀ i,i<n→S i=T i) (k:Nat):∀ i,i<n→rounds gr room n S k i=rounds gr room n T k i:=by
 induction k with
 | zero=>exact h
 | succ k ih=>exact ag_round gr room ih
theorem ag_fin {l l':Nat→It} {n:Nat} (room:Int) (h:∀ i,i<n→l i=l' i):∀ i,i<n→fin l n room i=fin l' n room i:=by
 have hg:gro l n room=gro l' n room:=by unfold gro;rw [ag_sumz h n (Nat.le_refl _)]
 intro i hi
 unfold fin
 rw [hg]
 exact ag_rounds _ _ (fun i hi=>by unfold begun;rw [h i hi]) n i hi
end Go.Proofs.YteggipnplbkijaaGreat.Fe
namespace Go.Proofs.YteggipnplbkijaaGreat.Fix
open Go.ChangeShapes Go.WideShapes Go.ChangeAt Go.RowKit
theorem sizesOf_congr {l l':Nat→Fe.It} {n:Nat} (x:Int) (h:∀ i,i<n→l i=l' i):sizesOf l n x=sizesOf l' n x:=by
 unfold sizesOf
 exact List.map_congr_left fun i hi=>by rw [Fe.ag_fin _ h i (by simpa using hi)]
def rwI (Y:Lyt) (B:Int→Fw.Bx) (i0 k:Int):Im:={ newIm Y B i0 k with it:=Fw.rowIt B i0 k }
theorem lnS_model (Y:Lyt) (B:Int→Fw.Bx) (i0 gap:Int) (ks:List Int):lnS B i0 gap (ks.map (rwI Y B i0))=Fw.flexed B i0 i0 gap 0 (Fw.rowIt B i0) ks:=by
 unfold lnS Fw.flexed Fw.left
 rw [lfts_fold,List.length_map]
 have hg:∀ i,i<ks.length→(ks.map (rwI Y B i0)).getD i default=rwI Y B i0 (ks.getD i 0):=fun i h=>by simp [List.getD,List.getElem?_eq_getElem h]
 rw [lfts_congr (e':=fun i=>Fw.kex B i0 0 (ks.getD i 0)) fun i h=>by rw [hg i h];rfl]
 exact sizesOf_congr _ fun i h=>by rw [hg i h];rfl
theorem rowLine_items (Y:Lyt) (B:Int→Fw.Bx) (f:Nat) (z i0 i1 high:Int) (ks:List Int) (s:Re.St) (hs:(B z).sty=s) (xs1 xs2:List Im) (deep:Int) (h1:lnLaid B f s i0 i1 high (ks.map (rwI Y B i0))=xs1) (h2:lnDeep high xs1=deep) (h3:lnHigh B f s i0 i1 deep xs1=xs2) :
  Fw.rowLine B (Fw.lay B f) z i0 i1 high ks=((lnBegun s i0 deep xs2).map (·.ld),deep):=by
 unfold Fw.rowLine
 simp only [hs]
 unfold lnLaid at h1
 rw [lnS_model] at h1
 obtain ⟨sz,hsz⟩:∃ l,Fw.flexed B i0 i0 (s.c 46) 0 (Fw.rowIt B i0) ks=l:=⟨_,rfl⟩
 rw [hsz] at h1 ⊢
 have l1:xs1.length=ks.length:=by rw [← h1];simp
 have g1:∀ i (h:i<xs1.length) (h':i<ks.length),xs1[i]=lnF B f i0 i1 sz i (rwI Y B i0 ks[i]):=fun i h h'=>by subst h1;simp
 have e1:(ks.mapIdx fun i k=>Fw.lay B f k i0 i1 (Fw.wr (sz.getD i 0 + Fw.eds (B k).sty 0)) (-1))=xs1.map (·.ld):=List.ext_getElem (by simp [l1]) fun i a b=>by
  have a':i<ks.length:=by simpa using a
  simp only [List.getElem_mapIdx,List.getElem_map]
  rw [g1 i (by rw [l1];exact a') a']
  rfl
 rw [e1]
 have m1:∀ x ∈ xs1,x.m0=Fw.mg (B x.ld.id).sty 0 0 i0∧x.m1=Fw.mg (B x.ld.id).sty 0 1 i0∧x.m2=Fw.mg (B x.ld.id).sty 1 0 i0∧x.m3=Fw.mg (B x.ld.id).sty 1 1 i0:=fun x hx=>by
  obtain ⟨i,hi,rfl⟩:=List.getElem_of_mem hx
  rw [g1 i hi Z3f]
  exact ⟨rfl,rfl,rfl,rfl⟩
 have o1:∀ x:Im,(x.m0=Fw.mg (B x.ld.id).sty 0 0 i0∧x.m1=Fw.mg (B x.ld.id).sty 0 1 i0∧x.m2=Fw.mg (B x.ld.id).sty 1 0 i0∧x.m3=Fw.mg (B x.ld.id).sty 1 1 i0)→outr0 x=Fw.kout B i0 0 x.ld∧outr1 x=Fw.kout B i0 1 x.ld∧ext1 x (B x.ld.id).sty=Fw.kex B i0 1 x.ld.id:=fun x ⟨q0,q1,q2,q3⟩=>by
  unfold outr0 outr1 ext1 Fw.kout Fw.kex Fw.mgs
  rw [q0,q1,q2,q3]
  exact ⟨rfl,rfl,rfl⟩
 have e2:(if high = -1 then ((xs1.map (·.ld)).map (Fw.kout B i0 1)).foldl max 0 else high)=deep:=by
  rw [← h2]
  unfold lnDeep outs1
  congr 2
  rw [List.map_map]
  exact List.map_congr_left fun x hx=>((o1 x (m1 x hx)).2.1).symm
 rw [e2]
 have e3:(if s.c 44=0 then (xs1.map (·.ld)).map (fun x=>if Fw.fxd (B x.id).sty 1 i1=true then x else Fw.lay B f x.id i0 i1 x.s0 (Fw.wr (Fw.lim (B x.id).sty 1 (max (Fw.wr (deep - Fw.kex B i0 1 x.id)) 0) i1 + Fw.eds (B x.id).sty 1))) else xs1.map (·.ld))=xs2.map (·.ld):=by
  rw [← h3]
  unfold lnHigh
  split
  · rw [List.map_map,List.map_map]
    refine List.map_congr_left fun x hx => ?_
    simp only [Function.comp]
    unfold strF
    have q:=(o1 x (m1 x hx)).2.2
    by_cases hfx:Fx.fixd ((B x.ld.id).sty.c 5) i1=true
    · rw [if_pos hfx,if_pos (show Fw.fxd (B x.ld.id).sty 1 i1=true from hfx)]
    · rw [if_neg hfx,if_neg (show ¬ Fw.fxd (B x.ld.id).sty 1 i1=true from hfx),q]
      rfl
  · rfl
 rw [e3]
 have m2:∀ x ∈ xs2,x.m0=Fw.mg (B x.ld.id).sty 0 0 i0∧x.m1=Fw.mg (B x.ld.id).sty 0 1 i0∧x.m2=Fw.mg (B x.ld.id).sty 1 0 i0∧x.m3=Fw.mg (B x.ld.id).sty 1 1 i0:=fun x hx=>by
  rw [← h3] at hx
  unfold lnHigh at hx
  split at hx
  · obtain ⟨y,hy,rfl⟩:=List.mem_map.1 hx
    have:=m1 y hy
    unfold strF
    split
    · exact this
    · exact this
  · exact m1 x hx
 have e4:(xs2.map (·.ld)).map (Fw.kout B i0 0)=outs0 xs2:=by
  unfold outs0
  rw [List.map_map]
  exact List.map_congr_left fun x hx=>((o1 x (m2 x hx)).1).symm
 rw [e4]
 congr 1
 unfold lnBegun
 exact List.ext_getElem Z3t fun i a b=>by
  have a':i<xs2.length:=by simpa using a
  simp only [List.getElem_mapIdx,List.getElem_map]
  have q:=m2 xs2[i] (List.getElem_mem _)
  have o:=o1 _ q
  unfold lnB
  simp only []
  rw [Ju.row_get _ a',o.2.1,q.1,q.2.2.1]
theorem rowLines_step {B:Int→Fw.Bx} {lay:Int→Int→Int→Int→Int→Fw.Ld} {z i0 i1 high:Int} {fl:List Int} {fst:Bool} {y:Int} {p:Nat × Nat} {ps:List (Nat × Nat)} {out:List Fw.Ld} {tot:List Fw.Ld × Int} (h:tot=(out ++ (Fw.rowLines B lay z i0 i1 high fl fst y (p :: ps)).1,(Fw.rowLines B lay z i0 i1 high fl fst y (p :: ps)).2))
  {y1:Int} (hy:(if fst=true then y else Fw.wr (y + (B z).sty.c 46))=y1) {l:List Fw.Ld} {d:Int} (hl:Fw.rowLine B lay z i0 i1 high ((fl.drop p.1).take (p.2 - p.1))=(l,d)) :
  tot=((out ++ l.map (fun x=>{ x with a1:=Fw.wr (x.a1 + y1) })) ++ (Fw.rowLines B lay z i0 i1 high fl false (Fw.wr (y1 + d)) ps).1,(Fw.rowLines B lay z i0 i1 high fl false (Fw.wr (y1 + d)) ps).2):=by
 rw [h]
 simp only [Fw.rowLines,hy,hl,List.append_assoc]
theorem rowLines_nil {B:Int→Fw.Bx} {lay:Int→Int→Int→Int→Int→Fw.Ld} {z i0 i1 high:Int} {fl:List Int} {fst:Bool} {y:Int}:Fw.rowLines B lay z i0 i1 high fl fst y []=([],y):=rfl
theorem ISub.front {cs:Array Value} {q n:Nat} {l:List Im} (h:ISub cs q l) (hn:n≤l.length):ISub cs q (l.take n):=by
 refine ⟨by have:=h.1;rw [List.length_take];omega,fun i hi j hj => ?_⟩
 have hi2:i<l.length:=by rw [List.length_take] at hi;omega
 rw [List.getElem_take]
 exact h.2 i hi2 j hj
theorem ISub.rest {cs cs':Array Value} {q n:Nat} {l:List Im} (h:ISub cs q l) (hs:ISame q n cs cs') (hn:n≤l.length):ISub cs' (q + n * 17) (l.drop n):=by
 refine ⟨by have:=h.1;have:=hs.1;rw [List.length_drop];omega,fun i hi j hj => ?_⟩
 have hi2:n + i<l.length:=by rw [List.length_drop] at hi;omega
 rw [List.getElem_drop,hs.2 _ (.inr Z3f),show q + n * 17 + i * 17 + j=q + (n + i) * 17 + j by omega]
 exact h.2 (n + i) hi2 j hj
theorem append_ld2 {W:World} {base:Nat} {v:Value} {l:List Fw.Ld} (x:Fw.Ld) (hown:W.ownsRow base 94 7 v l.length (ldcs l)) (hbase:base≤W.heap.size) (hk:l.length≤10000) :
  ∃ g c w',(Builtin.append_ #[142,142] 142 #[v,.slice (some ⟨W.heap.size,0,none⟩) 1 1]).run Tryz.prog (W.alloc (.cells (ldc x) 94)) = .ok (.slice (some ⟨g,0,none⟩) (l.length + 1) c) w'∧w'.ownsRow base 94 7 (.slice (some ⟨g,0,none⟩) (l.length + 1) c) (l ++ [x]).length (ldcs (l ++ [x]))∧Out (fun b=>v.ownBlock=some b) (W.alloc (.cells (ldc x) 94)) w'∧(v.ownBlock=some g∨W.heap.size≤g):=by
 obtain ⟨i0,hi0,hz0,hz1,hz2⟩:=info_parts infoLd
 have hA:=At.new W (.cells (ldc x) 94)
 obtain ⟨v',w',hr,ho,hg,_,hblk⟩:=run_append_own_at (P:=Tryz.prog) (w:=W.alloc (.cells (ldc x) 94)) base 142 142 94 i0 _ 7 56 Tryz.underlying142 hi0 hz0 hz1 hz2 rfl Z3i v l.length _ (hown.alloc _) ⟨W.heap.size,0,none⟩ 1 1 (ldc x).toList rfl
  (by intro j u hj
      rw [addr_add,Nat.zero_add,hA.cell, ← hj,Array.getElem?_toList])
  (ldc_one x) Z40 Z3f Z3p
 obtain ⟨g,c,rfl⟩:=ownsRow_succ ho
 refine ⟨g,c,w',hr,?_,Out.grown hg fun b h=>h,?_⟩
 · rw [ldcs_snoc,List.length_append]
   exact ho
 · rcases hblk with h | h
   · exact .inl h.symm
   · right
     have e:g=W.heap.size + 1:=by simpa [Value.ownBlock] using h
     omega
end Go.Proofs.YteggipnplbkijaaGreat.Fix
namespace Go.Proofs.YteggipnplbkijaaGreat.Drawn
open Go Fix
section
variable {P:Program} {ops:Array Oper} {Q:Exit→Act→World→Prop} {md:Region.Mode} {S:World→Prop} {m:Nat}
theorem gen_3 {i j k:Nat} {o o2 o3:Oper} {fuel:Nat} {listed:Array Bool} {a:Act} {w:World} (hr:Region.ready md ops listed=[i,j,k]) (hi0:ops.toList[i]? = some o) (hj0:ops.toList[j]? = some o2) (hk0:ops.toList[k]? = some o3) (hw:Region.wanted o (yielded ops a.tmps)=true) (hw2:Region.wanted o2 (yielded ops a.tmps)=true) (hw3:Region.wanted o3 (yielded ops a.tmps)=true)
  (h:Step P (fun u w'=>(i<m→S w')∧GenAny P md ops Q S m fuel (listed.setIfInBounds i true) (a.put o.dst u) w') ((execOp a.eval o).run P w))
  (h2:Step P (fun u w'=>(j<m→S w')∧GenAny P md ops Q S m fuel (listed.setIfInBounds j true) (a.put o2.dst u) w') ((execOp a.eval o2).run P w))
  (h3:Step P (fun u w'=>(k<m→S w')∧GenAny P md ops Q S m fuel (listed.setIfInBounds k true) (a.put o3.dst u) w') ((execOp a.eval o3).run P w)):GenAny P md ops Q S m (fuel + 1) listed a w :=
 ⟨by rw [hr];simp,fun q hq=>by
  rw [hr] at hq
  rcases (show q=i∨q=j∨q=k by simpa using hq) with rfl | rfl | rfl
  · exact ⟨o,of_list hi0,.inl ⟨hw,h⟩⟩
  · exact ⟨o2,of_list hj0,.inl ⟨hw2,h2⟩⟩
  · exact ⟨o3,of_list hk0,.inl ⟨hw3,h3⟩⟩⟩
theorem gen_four {i j k q:Nat} {o o2 o3 o4:Oper} {fuel:Nat} {listed:Array Bool} {a:Act} {w:World} (hr:Region.ready md ops listed=[i,j,k,q]) (hi0:ops.toList[i]? = some o) (hj0:ops.toList[j]? = some o2) (hk0:ops.toList[k]? = some o3) (hq0:ops.toList[q]? = some o4) (hw:Region.wanted o (yielded ops a.tmps)=true) (hw2:Region.wanted o2 (yielded ops a.tmps)=true) (hw3:Region.wanted o3 (yielded ops a.tmps)=true) (hw4:Region.wanted o4 (yielded ops a.tmps)=true)
  (h:Step P (fun u w'=>(i<m→S w')∧GenAny P md ops Q S m fuel (listed.setIfInBounds i true) (a.put o.dst u) w') ((execOp a.eval o).run P w))
  (h2:Step P (fun u w'=>(j<m→S w')∧GenAny P md ops Q S m fuel (listed.setIfInBounds j true) (a.put o2.dst u) w') ((execOp a.eval o2).run P w))
  (h3:Step P (fun u w'=>(k<m→S w')∧GenAny P md ops Q S m fuel (listed.setIfInBounds k true) (a.put o3.dst u) w') ((execOp a.eval o3).run P w))
  (h4:Step P (fun u w'=>(q<m→S w')∧GenAny P md ops Q S m fuel (listed.setIfInBounds q true) (a.put o4.dst u) w') ((execOp a.eval o4).run P w)):GenAny P md ops Q S m (fuel + 1) listed a w :=
 ⟨by rw [hr];simp,fun p hp=>by
  rw [hr] at hp
  rcases (show p=i∨p=j∨p=k∨p=q by simpa using hp) with rfl | rfl | rfl | rfl
  · exact ⟨o,of_list hi0,.inl ⟨hw,h⟩⟩
  · exact ⟨o2,of_list hj0,.inl ⟨hw2,h2⟩⟩
  · exact ⟨o3,of_list hk0,.inl ⟨hw3,h3⟩⟩
  · exact ⟨o4,of_list hq0,.inl ⟨hw4,h4⟩⟩⟩
end
end Go.Proofs.YteggipnplbkijaaGreat.Drawn
namespace Go.Proofs.YteggipnplbkijaaGreat.Fix
open Go.ChangeShapes Go.WideShapes Go.ChangeAt Go.RowKit
set_option maxHeartbeats 8000000 in
theorem fnewlay_any (ww wh:Int) (w:World):Calls Tryz.prog 42 #[.agg #[.int .i64 ww,.int .i64 wh]] w fun e w'=>(∃ lb bm km pm rm,e = .returned (.pointer (some ⟨lb,0,none⟩))∧(w.heap.size≤lb∧w.heap.size≤bm∧w.heap.size≤km∧w.heap.size≤pm∧w.heap.size≤rm)∧(lb≠bm∧lb≠km∧lb≠pm∧lb≠rm∧bm≠km∧bm≠pm∧bm≠rm∧km≠pm∧km≠rm∧pm≠rm) ∧
  At w' lb (.cells #[.int .i64 ww,.int .i64 wh,.map (some bm),.map (some km),.map (some pm),.map (some rm)] 100)∧GM 3 w' bm 0 (fun _=>none)∧KMp w' km∧GM 92 w' pm 0 (fun _=>none)∧GM 3 w' rm 0 (fun _=>none))∧Below w.heap.size w w':=by
 have hmm:=@run_makeMap Tryz.prog
 go_enter Tryz.func42,Tryz.ntmps42
 go_upto_region 1 with (fail)
 have A0:At (w.alloc (.cells #[.int .i64 ww,.int .i64 wh] 88)) w.heap.size (.cells #[.int .i64 ww,.int .i64 wh] 88):=At.new _ _
 have hB1:Below w.heap.size w (w.alloc (.cells #[.int .i64 ww,.int .i64 wh] 88)):=Below.alloc' (Below.refl _ _) _
 generalize w.alloc (.cells #[.int .i64 ww,.int .i64 wh] 88)=w1 at *
 obtain ⟨l0,c00,c01⟩:=At.two A0
 have hBW:∀ X,Below w1.heap.size w1 X→Below w.heap.size w X:=fun X h=>Below.after2 hB1 (Nat.le_refl _) h
 have hws:=hB1.size
 refine Drawn.wp_behind (fun a0 a W5=>∃ (lb bm km pm rm:Nat) (u3 u4 u5 u6 u7 u8 u9:Value),a={ a0 with tmps:=(((((((a0.tmps.setIfInBounds 3 u3).setIfInBounds 4 u4).setIfInBounds 5 u5).setIfInBounds 6 u6).setIfInBounds 7 u7).setIfInBounds 8 u8).setIfInBounds 9 u9).setIfInBounds 2 (.pointer (some ⟨lb,0,none⟩)) } ∧
  (w1.heap.size≤lb∧w1.heap.size≤bm∧w1.heap.size≤km∧w1.heap.size≤pm∧w1.heap.size≤rm)∧(lb≠bm∧lb≠km∧lb≠pm∧lb≠rm∧bm≠km∧bm≠pm∧bm≠rm∧km≠pm∧km≠rm∧pm≠rm) ∧
  At W5 lb (.cells #[.int .i64 ww,.int .i64 wh,.map (some bm),.map (some km),.map (some pm),.map (some rm)] 100)∧GM 3 W5 bm 0 (fun _=>none)∧KMp W5 km∧GM 92 W5 pm 0 (fun _=>none)∧GM 3 W5 rm 0 (fun _=>none)∧Below w1.heap.size w1 W5) ?_ ?_
 · refine tkX (S:=Below w1.heap.size w1) 8 ?_ ?_
   · exact (Below.refl _ _).drew
   intro hx
   refine tkB 0 ?_
   clear l0 c00 c01 hBW hws hB1 A0
   generalize w1.drew=W0 at *
   refine Drawn.gen_four (i:=1) (j:=2) (k:=3) (q:=4) Z3q rfl rfl rfl rfl Z3n Z3n Z3n Z3n ?_ ?_ ?_ ?_
   · refine Drawn.Step.value (u:= .map (some W0.heap.size)) (w':=W0.alloc (.map #[] 0)) tkL ?_
     obtain ⟨w11,hw9,Gb,hb,hsz9⟩:∃ w9,w9=W0.alloc (.map #[] 0)∧GM 3 w9 W0.heap.size 0 (fun _=>none)∧Below W0.heap.size W0 w9∧W0.heap.size<w9.heap.size:=⟨_,rfl,GM.made _ _,Below.alloc' (Below.refl _ _) _,by simp⟩
     rw [← hw9]
     clear hw9
     obtain ⟨mb,hmb⟩:∃ q,W0.heap.size=q:=⟨_,rfl⟩
     rw [hmb] at Gb
     rw [hmb]
     have gb:W0.heap.size≤mb:=Nat.le_of_eq hmb
     have lb:mb<w11.heap.size:=hmb ▸ hsz9
     clear hmb hsz9
     replace gb:w1.heap.size≤mb:=by have:=hx.size;omega
     replace hx:=Below.after2 hx (Nat.le_refl _) hb
     clear hb
     refine ⟨fun _=>hx,?_⟩
     (try simp only [tkp,tka,tkz,tks])
     refine Drawn.gen_3 (i:=2) (j:=3) (k:=4) Z3q rfl rfl rfl Z3n Z3n Z3n ?_ ?_ ?_
     · refine Drawn.Step.call tkL (fkinds_any _) ?_
       rintro e w12 ⟨⟨mk,rfl,gk,Gk⟩,hb⟩
       have lk:mk<w12.heap.size:=by obtain ⟨_,_,q,_⟩:=Gk;exact q.lt
       have nbk:mb<mk:=by omega
       replace Gb:=Gb.keep hb
       replace lb:mb<w12.heap.size:=by have:=hb.size;omega
       replace gk:w1.heap.size≤mk:=by have:=hx.size;omega
       replace hx:=Below.after2 hx (Nat.le_refl _) hb
       clear hb
       refine ⟨_,rfl,fun _=>hx,?_⟩
       exact Zk
     · refine Drawn.Step.value (u:= .map (some w11.heap.size)) (w':=w11.alloc (.map #[] 0)) tkL ?_
       obtain ⟨w12,hw9,Gp,hb,hsz9⟩:∃ w9,w9=w11.alloc (.map #[] 0)∧GM 92 w9 w11.heap.size 0 (fun _=>none)∧Below w11.heap.size w11 w9∧w11.heap.size<w9.heap.size:=⟨_,rfl,GM.made _ _,Below.alloc' (Below.refl _ _) _,by simp⟩
       rw [← hw9]
       clear hw9
       obtain ⟨mp,hmp⟩:∃ q,w11.heap.size=q:=⟨_,rfl⟩
       rw [hmp] at Gp
       rw [hmp]
       have gp:w11.heap.size≤mp:=Nat.le_of_eq hmp
       have lp:mp<w12.heap.size:=hmp ▸ hsz9
       clear hmp hsz9
       have nbp:mb<mp:=by omega
       replace Gb:=Gb.keep hb
       replace lb:mb<w12.heap.size:=by have:=hb.size;omega
       replace gp:w1.heap.size≤mp:=by have:=hx.size;omega
       exact Zr
     · refine Drawn.Step.value (u:= .map (some w11.heap.size)) (w':=w11.alloc (.map #[] 0)) tkL ?_
       obtain ⟨w12,hw9,Gr,hb,hsz9⟩:∃ w9,w9=w11.alloc (.map #[] 0)∧GM 3 w9 w11.heap.size 0 (fun _=>none)∧Below w11.heap.size w11 w9∧w11.heap.size<w9.heap.size:=⟨_,rfl,GM.made _ _,Below.alloc' (Below.refl _ _) _,by simp⟩
       rw [← hw9]
       clear hw9
       obtain ⟨mr,hmr⟩:∃ q,w11.heap.size=q:=⟨_,rfl⟩
       rw [hmr] at Gr
       rw [hmr]
       have gr:w11.heap.size≤mr:=Nat.le_of_eq hmr
       have lr:mr<w12.heap.size:=hmr ▸ hsz9
       clear hmr hsz9
       have nbr:mb<mr:=by omega
       replace Gb:=Gb.keep hb
       replace lb:mb<w12.heap.size:=by have:=hb.size;omega
       replace gr:w1.heap.size≤mr:=by have:=hx.size;omega
       exact Zq
   · refine Drawn.Step.call tkL (fkinds_any _) ?_
     rintro e w11 ⟨⟨mk,rfl,gk,Gk⟩,hb⟩
     have lk:mk<w11.heap.size:=by obtain ⟨_,_,q,_⟩:=Gk;exact q.lt
     replace gk:w1.heap.size≤mk:=by have:=hx.size;omega
     replace hx:=Below.after2 hx (Nat.le_refl _) hb
     clear hb
     refine ⟨_,rfl,fun _=>hx,?_⟩
     (try simp only [tkp,tka,tkz,tks])
     refine Drawn.gen_3 (i:=1) (j:=3) (k:=4) Z3q rfl rfl rfl Z3n Z3n Z3n ?_ ?_ ?_
     · refine Drawn.Step.value (u:= .map (some w11.heap.size)) (w':=w11.alloc (.map #[] 0)) tkL ?_
       obtain ⟨w12,hw9,Gb,hb,hsz9⟩:∃ w9,w9=w11.alloc (.map #[] 0)∧GM 3 w9 w11.heap.size 0 (fun _=>none)∧Below w11.heap.size w11 w9∧w11.heap.size<w9.heap.size:=⟨_,rfl,GM.made _ _,Below.alloc' (Below.refl _ _) _,by simp⟩
       rw [← hw9]
       clear hw9
       obtain ⟨mb,hmb⟩:∃ q,w11.heap.size=q:=⟨_,rfl⟩
       rw [hmb] at Gb
       rw [hmb]
       have gb:w11.heap.size≤mb:=Nat.le_of_eq hmb
       have lb:mb<w12.heap.size:=hmb ▸ hsz9
       clear hmb hsz9
       have nbk:mk<mb:=by omega
       replace Gk:=KMp.keep _ _ _ Gk hb
       replace lk:mk<w12.heap.size:=by have:=hb.size;omega
       replace gb:w1.heap.size≤mb:=by have:=hx.size;omega
       replace hx:=Below.after2 hx (Nat.le_refl _) hb
       clear hb
       refine ⟨fun _=>hx,?_⟩
       exact Zk
     · refine Drawn.Step.value (u:= .map (some w11.heap.size)) (w':=w11.alloc (.map #[] 0)) tkL ?_
       obtain ⟨w12,hw9,Gp,hb,hsz9⟩:∃ w9,w9=w11.alloc (.map #[] 0)∧GM 92 w9 w11.heap.size 0 (fun _=>none)∧Below w11.heap.size w11 w9∧w11.heap.size<w9.heap.size:=⟨_,rfl,GM.made _ _,Below.alloc' (Below.refl _ _) _,by simp⟩
       rw [← hw9]
       clear hw9
       obtain ⟨mp,hmp⟩:∃ q,w11.heap.size=q:=⟨_,rfl⟩
       rw [hmp] at Gp
       rw [hmp]
       have gp:w11.heap.size≤mp:=Nat.le_of_eq hmp
       have lp:mp<w12.heap.size:=hmp ▸ hsz9
       clear hmp hsz9
       have nkp:mk<mp:=by omega
       replace Gk:=KMp.keep _ _ _ Gk hb
       replace lk:mk<w12.heap.size:=by have:=hb.size;omega
       replace gp:w1.heap.size≤mp:=by have:=hx.size;omega
       replace hx:=Below.after2 hx (Nat.le_refl _) hb
       clear hb
       refine ⟨fun _=>hx,?_⟩
       exact Zm
     · refine Drawn.Step.value (u:= .map (some w11.heap.size)) (w':=w11.alloc (.map #[] 0)) tkL ?_
       obtain ⟨w12,hw9,Gr,hb,hsz9⟩:∃ w9,w9=w11.alloc (.map #[] 0)∧GM 3 w9 w11.heap.size 0 (fun _=>none)∧Below w11.heap.size w11 w9∧w11.heap.size<w9.heap.size:=⟨_,rfl,GM.made _ _,Below.alloc' (Below.refl _ _) _,by simp⟩
       rw [← hw9]
       clear hw9
       obtain ⟨mr,hmr⟩:∃ q,w11.heap.size=q:=⟨_,rfl⟩
       rw [hmr] at Gr
       rw [hmr]
       have gr:w11.heap.size≤mr:=Nat.le_of_eq hmr
       have lr:mr<w12.heap.size:=hmr ▸ hsz9
       clear hmr hsz9
       have nkr:mk<mr:=by omega
       replace Gk:=KMp.keep _ _ _ Gk hb
       replace lk:mk<w12.heap.size:=by have:=hb.size;omega
       replace gr:w1.heap.size≤mr:=by have:=hx.size;omega
       replace hx:=Below.after2 hx (Nat.le_refl _) hb
       clear hb
       refine ⟨fun _=>hx,?_⟩
       exact Zl
   · refine Drawn.Step.value (u:= .map (some W0.heap.size)) (w':=W0.alloc (.map #[] 0)) tkL ?_
     obtain ⟨w11,hw9,Gp,hb,hsz9⟩:∃ w9,w9=W0.alloc (.map #[] 0)∧GM 92 w9 W0.heap.size 0 (fun _=>none)∧Below W0.heap.size W0 w9∧W0.heap.size<w9.heap.size:=⟨_,rfl,GM.made _ _,Below.alloc' (Below.refl _ _) _,by simp⟩
     rw [← hw9]
     clear hw9
     obtain ⟨mp,hmp⟩:∃ q,W0.heap.size=q:=⟨_,rfl⟩
     rw [hmp] at Gp
     rw [hmp]
     have gp:W0.heap.size≤mp:=Nat.le_of_eq hmp
     have lp:mp<w11.heap.size:=hmp ▸ hsz9
     clear hmp hsz9
     replace gp:w1.heap.size≤mp:=by have:=hx.size;omega
     replace hx:=Below.after2 hx (Nat.le_refl _) hb
     clear hb
     refine ⟨fun _=>hx,?_⟩
     (try simp only [tkp,tka,tkz,tks])
     refine Drawn.gen_3 (i:=1) (j:=2) (k:=4) Z3q rfl rfl rfl Z3n Z3n Z3n ?_ ?_ ?_
     · refine Drawn.Step.value (u:= .map (some w11.heap.size)) (w':=w11.alloc (.map #[] 0)) tkL ?_
       obtain ⟨w12,hw9,Gb,hb,hsz9⟩:∃ w9,w9=w11.alloc (.map #[] 0)∧GM 3 w9 w11.heap.size 0 (fun _=>none)∧Below w11.heap.size w11 w9∧w11.heap.size<w9.heap.size:=⟨_,rfl,GM.made _ _,Below.alloc' (Below.refl _ _) _,by simp⟩
       rw [← hw9]
       clear hw9
       obtain ⟨mb,hmb⟩:∃ q,w11.heap.size=q:=⟨_,rfl⟩
       rw [hmb] at Gb
       rw [hmb]
       have gb:w11.heap.size≤mb:=Nat.le_of_eq hmb
       have lb:mb<w12.heap.size:=hmb ▸ hsz9
       clear hmb hsz9
       have nbp:mp<mb:=by omega
       replace Gp:=Gp.keep hb
       replace lp:mp<w12.heap.size:=by have:=hb.size;omega
       replace gb:w1.heap.size≤mb:=by have:=hx.size;omega
       exact Zr
     · refine Drawn.Step.call tkL (fkinds_any _) ?_
       rintro e w12 ⟨⟨mk,rfl,gk,Gk⟩,hb⟩
       have lk:mk<w12.heap.size:=by obtain ⟨_,_,q,_⟩:=Gk;exact q.lt
       have nkp:mp<mk:=by omega
       replace Gp:=Gp.keep hb
       replace lp:mp<w12.heap.size:=by have:=hb.size;omega
       replace gk:w1.heap.size≤mk:=by have:=hx.size;omega
       replace hx:=Below.after2 hx (Nat.le_refl _) hb
       clear hb
       refine ⟨_,rfl,fun _=>hx,?_⟩
       exact Zm
     · refine Drawn.Step.value (u:= .map (some w11.heap.size)) (w':=w11.alloc (.map #[] 0)) tkL ?_
       obtain ⟨w12,hw9,Gr,hb,hsz9⟩:∃ w9,w9=w11.alloc (.map #[] 0)∧GM 3 w9 w11.heap.size 0 (fun _=>none)∧Below w11.heap.size w11 w9∧w11.heap.size<w9.heap.size:=⟨_,rfl,GM.made _ _,Below.alloc' (Below.refl _ _) _,by simp⟩
       rw [← hw9]
       clear hw9
       obtain ⟨mr,hmr⟩:∃ q,w11.heap.size=q:=⟨_,rfl⟩
       rw [hmr] at Gr
       rw [hmr]
       have gr:w11.heap.size≤mr:=Nat.le_of_eq hmr
       have lr:mr<w12.heap.size:=hmr ▸ hsz9
       clear hmr hsz9
       have npr:mp<mr:=by omega
       replace Gp:=Gp.keep hb
       replace lp:mp<w12.heap.size:=by have:=hb.size;omega
       replace gr:w1.heap.size≤mr:=by have:=hx.size;omega
       exact Zs
   · refine Drawn.Step.value (u:= .map (some W0.heap.size)) (w':=W0.alloc (.map #[] 0)) tkL ?_
     obtain ⟨w11,hw9,Gr,hb,hsz9⟩:∃ w9,w9=W0.alloc (.map #[] 0)∧GM 3 w9 W0.heap.size 0 (fun _=>none)∧Below W0.heap.size W0 w9∧W0.heap.size<w9.heap.size:=⟨_,rfl,GM.made _ _,Below.alloc' (Below.refl _ _) _,by simp⟩
     rw [← hw9]
     clear hw9
     obtain ⟨mr,hmr⟩:∃ q,W0.heap.size=q:=⟨_,rfl⟩
     rw [hmr] at Gr
     rw [hmr]
     have gr:W0.heap.size≤mr:=Nat.le_of_eq hmr
     have lr:mr<w11.heap.size:=hmr ▸ hsz9
     clear hmr hsz9
     replace gr:w1.heap.size≤mr:=by have:=hx.size;omega
     replace hx:=Below.after2 hx (Nat.le_refl _) hb
     clear hb
     refine ⟨fun _=>hx,?_⟩
     (try simp only [tkp,tka,tkz,tks])
     refine Drawn.gen_3 (i:=1) (j:=2) (k:=3) Z3q rfl rfl rfl Z3n Z3n Z3n ?_ ?_ ?_
     · refine Drawn.Step.value (u:= .map (some w11.heap.size)) (w':=w11.alloc (.map #[] 0)) tkL ?_
       obtain ⟨w12,hw9,Gb,hb,hsz9⟩:∃ w9,w9=w11.alloc (.map #[] 0)∧GM 3 w9 w11.heap.size 0 (fun _=>none)∧Below w11.heap.size w11 w9∧w11.heap.size<w9.heap.size:=⟨_,rfl,GM.made _ _,Below.alloc' (Below.refl _ _) _,by simp⟩
       rw [← hw9]
       clear hw9
       obtain ⟨mb,hmb⟩:∃ q,w11.heap.size=q:=⟨_,rfl⟩
       rw [hmb] at Gb
       rw [hmb]
       have gb:w11.heap.size≤mb:=Nat.le_of_eq hmb
       have lb:mb<w12.heap.size:=hmb ▸ hsz9
       clear hmb hsz9
       have nbr:mr<mb:=by omega
       replace Gr:=Gr.keep hb
       replace lr:mr<w12.heap.size:=by have:=hb.size;omega
       replace gb:w1.heap.size≤mb:=by have:=hx.size;omega
       exact Zq
     · refine Drawn.Step.call tkL (fkinds_any _) ?_
       rintro e w12 ⟨⟨mk,rfl,gk,Gk⟩,hb⟩
       have lk:mk<w12.heap.size:=by obtain ⟨_,_,q,_⟩:=Gk;exact q.lt
       have nkr:mr<mk:=by omega
       replace Gr:=Gr.keep hb
       replace lr:mr<w12.heap.size:=by have:=hb.size;omega
       replace gk:w1.heap.size≤mk:=by have:=hx.size;omega
       replace hx:=Below.after2 hx (Nat.le_refl _) hb
       clear hb
       refine ⟨_,rfl,fun _=>hx,?_⟩
       exact Zl
     · refine Drawn.Step.value (u:= .map (some w11.heap.size)) (w':=w11.alloc (.map #[] 0)) tkL ?_
       obtain ⟨w12,hw9,Gp,hb,hsz9⟩:∃ w9,w9=w11.alloc (.map #[] 0)∧GM 92 w9 w11.heap.size 0 (fun _=>none)∧Below w11.heap.size w11 w9∧w11.heap.size<w9.heap.size:=⟨_,rfl,GM.made _ _,Below.alloc' (Below.refl _ _) _,by simp⟩
       rw [← hw9]
       clear hw9
       obtain ⟨mp,hmp⟩:∃ q,w11.heap.size=q:=⟨_,rfl⟩
       rw [hmp] at Gp
       rw [hmp]
       have gp:w11.heap.size≤mp:=Nat.le_of_eq hmp
       have lp:mp<w12.heap.size:=hmp ▸ hsz9
       clear hmp hsz9
       have npr:mr<mp:=by omega
       replace Gr:=Gr.keep hb
       replace lr:mr<w12.heap.size:=by have:=hb.size;omega
       replace gp:w1.heap.size≤mp:=by have:=hx.size;omega
       exact Zs
 · rintro a W5 ⟨lb,bm,km,pm,rm,u3,u4,u5,u6,u7,u8,u9,rfl,hge,hne,hA,h1,h2,h3,h4,hB5⟩
   simp only [List.setIfInBounds_toArray,List.set_cons_zero,List.set_cons_succ]
   have HF:=Lib.hid (show (w.heap.size≤lb∧w.heap.size≤bm∧w.heap.size≤km∧w.heap.size≤pm∧w.heap.size≤rm) from ⟨by omega,by omega,by omega,by omega,by omega⟩)
   have HBW:=Lib.hid (hBW W5 hB5)
   go_wp2
   go_ret
   exact ⟨⟨lb,bm,km,pm,rm,rfl,HF.out,hne,hA,h1,h2,h3,h4⟩,HBW.out⟩
end Go.Proofs.YteggipnplbkijaaGreat.Fix
