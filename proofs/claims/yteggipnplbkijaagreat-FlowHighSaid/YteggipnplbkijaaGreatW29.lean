/- Boxes laid by the program: what its functions do, part 29. -/
import Derived.Test.YteggipnplbkijaaGreatWK
import Derived.Test.YteggipnplbkijaaGreatW21
import Derived.Test.YteggipnplbkijaaGreatW22
import Derived.Test.YteggipnplbkijaaGreatW28
set_option linter.unusedVariables false
set_option linter.unusedSimpArgs false
set_option linter.unusedSectionVars false
set_option maxRecDepth 100000
namespace Go.Proofs.YteggipnplbkijaaGreat.Fix
open Go.ChangeShapes Go.WideShapes Go.ChangeAt Go.RowKit
theorem agg_f4 (W:World):(isAgg 30).run Tryz.prog W = .ok true W:=by kernel_rfl
theorem siz_f4 (W:World):(sizeOf 30).run Tryz.prog W = .ok 4 W:=by kernel_rfl
theorem reads_f4 {ops:Array Oper} {S:World→Prop} {o:Oper} {a:Act} (p:Operand) {T i:Nat} {x0 x1 x2 x3:Int} (hw:Region.wanted o (yielded ops a.tmps)=true) (ho:o.op = .load 30 p) (hp:a.eval p = .pointer (some ⟨T,i,none⟩)) (h:∀ X,S X→X.cell? ⟨T,i,none⟩=some (.int .i64 x0)∧X.cell? ⟨T,i + 1,none⟩=some (.int .i64 x1)∧X.cell? ⟨T,i + 2,none⟩=some (.int .i64 x2)∧X.cell? ⟨T,i + 3,none⟩=some (.int .i64 x3)):Drawn.Reads Tryz.prog ops S o (.agg #[.int .i64 x0,.int .i64 x1,.int .i64 x2,.int .i64 x3]) a :=
 .inl ⟨hw,fun X hX=>exec_load_at agg_f4 siz_f4 p ho hp rfl fun j hj=>by
  obtain ⟨c0,c1,c2,c3⟩:=h X hX
  match j,hj with
  | 0,_=>exact c0
  | 1,_=>exact c1
  | 2,_=>exact c2
  | 3,_=>exact c3⟩
def prt (sb s:Re.St) (ww wh s0 s1:Int):Array Value :=
 if sb.c 1=3 then #[.int .i64 0,.int .i64 0,.int .i64 ww,.int .i64 wh,.int .i64 0,.int .i64 0]
 else #[.int .i64 (s.c 38),.int .i64 (s.c 35),.int .i64 (Fw.wr (s0 - Fw.wr (s.c 38 + s.c 36))),.int .i64 (Fw.wr (s1 - Fw.wr (s.c 35 + s.c 37))),.int .i64 (s.c 34),.int .i64 (s.c 31)]
section
variable {Y:Lyt} {B:Int→Fw.Bx} {D:Int→Prop} {KM:World→Nat→Prop}
set_option maxHeartbeats 16000000 in
theorem fport (hK:∀ (X X':World) (b:Nat),KM X b→Below X.heap.size X X'→KM X' b) (k:Int) (up:Fw.Ld) (hz:D up.id) (hk:D k) (bk:Nat) (hbk:bk=Y.bl k) (w:World) (hR:RO w Y B D KM) (sk s:Re.St) (hsk:(B k).sty=sk) (hs:(B up.id).sty=s) :
  Calls Tryz.prog 108 #[.pointer (some ⟨Y.lb,0,none⟩),.pointer (some ⟨bk,0,none⟩),.agg (ldc up)] w fun e w'=>e = .returned (.agg (prt sk s Y.ww Y.wh up.s0 up.s1))∧Below w.heap.size w w':=by
 have HBK:=Lib.hid hbk
 have HSK:=Lib.hid hsk
 have HS:=Lib.hid hs
 clear hbk hsk hs
 obtain ⟨z,j0,j1,s0,s1,a0,a1⟩:=up
 obtain ⟨ww,hww⟩:∃ x,Y.ww=x:=⟨_,rfl⟩
 obtain ⟨wh,hwh⟩:∃ x,Y.wh=x:=⟨_,rfl⟩
 have hR':=hR
 have hlay0:=hR.lay
 rw [hww,hwh] at hlay0 ⊢
 clear hww hwh
 simp only [ldc]
 go_enter Tryz.func108,Tryz.ntmps108
 go_upto_region 1 with (fail)
 generalize hW:World.alloc _ _=W0
 have A0:At W0 w.heap.size (.cells #[.int .i64 z,.int .i64 j0,.int .i64 j1,.int .i64 s0,.int .i64 s1,.int .i64 a0,.int .i64 a1] 94):=hW ▸ At.alloc (At.new _ _) _
 have A1:At W0 (w.heap.size + 1) (.cells #[.int .i64 0,.int .i64 0,.int .i64 0,.int .i64 0,.int .i64 0,.int .i64 0] 168):=hW ▸ At.new' _ Z3t
 have hB0:Below w.heap.size w W0:=hW ▸ Below.alloc' (Below.alloc' (Below.refl _ _) _) _
 clear hW
 have hR0:=hR.keep hK hB0
 have hbx:=(hR0.box k hk).1
 rw [← HBK.out,HSK.out] at hbx
 have c1:W0.cell? ⟨bk,1,none⟩=some (.int .i64 (sk.c 1)):=BxAt.int hbx 1 Z3f rfl
 have lbk:=BxAt.lt hbx
 have hlay:=hlay0.keep hB0
 obtain ⟨lY,cY0,cY1,cY2,cY3,cY4,cY5⟩:=At.six hlay
 obtain ⟨l1,c1_0,c1_1,c1_2,c1_3,c1_4,c1_5⟩:=At.six A1
 have z1_0:=A1.thaw 0
 have z1_1:=A1.thaw 1
 have z1_2:=A1.thaw 2
 have z1_3:=A1.thaw 3
 have z1_4:=A1.thaw 4
 have z1_5:=A1.thaw 5
 by_cases hfx:sk.c 1=3
 · have E:Hid (prt sk s ww wh s0 s1=#[.int .i64 0,.int .i64 0,.int .i64 ww,.int .i64 wh,.int .i64 0,.int .i64 0]):=Lib.hid (by unfold prt;rw [if_pos hfx])
   clear hR0 hbx hlay hR hR' hlay0
   go_wp2
   generalize hW:World.setCell _ _ _=W1
   have A2:At W1 (w.heap.size + 1) (.cells #[.int .i64 0,.int .i64 0,.int .i64 ww,.int .i64 wh,.int .i64 0,.int .i64 0] 168):=hW ▸ At.set (At.set (At.set (At.set (At.set (At.set A1 0 _) 1 _) 2 _) 3 _) 4 _) 5 _
   have hB1:Below w.heap.size w W1:=by
    rw [← hW]
    exact Below.setCell (Below.setCell (Below.setCell (Below.setCell (Below.setCell (Below.setCell hB0 (Nat.le_succ _) _) (Nat.le_succ _) _) (Nat.le_succ _) _) (Nat.le_succ _) _) (Nat.le_succ _) _) (Nat.le_succ _) _
   clear hW l1 c1_0 c1_1 c1_2 c1_3 c1_4 c1_5 z1_0 z1_1 z1_2 z1_3 z1_4 z1_5
   obtain ⟨l1,c1_0,c1_1,c1_2,c1_3,c1_4,c1_5⟩:=At.six A2
   rw [E.out]
   refine bodyPost_ret (v:= .agg #[.int .i64 _,.int .i64 _,.int .i64 _,.int .i64 _,.int .i64 _,.int .i64 _]) (by simp [results,Tryz.results108,go_sem, *];first | done | exact ⟨rfl,rfl⟩ | exact ⟨rfl,rfl,rfl,rfl,rfl,rfl⟩ | rfl) rfl ⟨rfl,hB1⟩
 · have E:Hid (prt sk s ww wh s0 s1=#[.int .i64 (s.c 38),.int .i64 (s.c 35),.int .i64 (Fw.wr (s0 - Fw.wr (s.c 38 + s.c 36))),.int .i64 (Fw.wr (s1 - Fw.wr (s.c 35 + s.c 37))),.int .i64 (s.c 34),.int .i64 (s.c 31)]):=Lib.hid (by unfold prt;rw [if_neg hfx])
   go_upto_region 3 with (fail)
   clear hfx c1 lbk l1 c1_0 c1_1 c1_2 c1_3 c1_4 c1_5 z1_0 z1_1 z1_2 z1_3 z1_4 z1_5 hbx hlay0
   obtain ⟨b0,hb0⟩:∃ b0,Y.bl z=b0:=⟨_,rfl⟩
   have hbz:=(hR0.box z hz).1
   rw [hb0,HS.out] at hbz
   have hSty:=Lib.hid hbz.style
   have lb0:=hbz.lt
   have hlk:=fun X (h:Below W0.heap.size W0 X)=>(hR0.keep hK h).look hz
   simp only [hb0] at hlk
   clear hb0 hR' hbz
   obtain ⟨l0,c0_0,c0_1,c0_2,c0_3,c0_4,c0_5,c0_6⟩:=At.seven A0
   have hSd:Below W0.heap.size W0 W0.drew:=Below.drew (Below.refl _ _)
   refine tkX (S:=fun X=>Below W0.heap.size W0 X) 13 ?_ ?_
   · exact hSd
   intro hx
   clear hSd
   refine tkB 0 ?_
   refine tkB 1 ?_
   refine tkB 2 ?_
   refine tkB 3 ?_
   refine tkB 4 ?_
   refine tkB 5 ?_
   refine tkB 6 ?_
   refine tkR 7 rfl (reads_lookup Z3n rfl rfl rfl (fun X h=>hlk X h)) ?_
   refine tkB 8 ?_
   refine tkB 9 ?_
   refine tkR 10 rfl (reads_load_sty Z3n (.tmp 32) rfl rfl (fun X h=>fun j hj=>(h.cell (p:=⟨b0,0 + j,none⟩) lb0).trans (hSty.out j hj))) ?_
   refine tk1 11 ?_
   refine Drawn.Step.value (exec_alloc_sty rfl) ?_
   obtain ⟨w2,hw2,AS,hb2,gT⟩:∃ w2,w2=W0.drew.alloc (.cells (cells Re.zero) 37)∧At w2 W0.drew.heap.size (.cells (cells Re.zero) 37)∧Below W0.drew.heap.size W0.drew w2∧W0.heap.size≤W0.drew.heap.size:=⟨_,rfl,At.new _ _,Below.alloc' (Below.refl _ _) _,hx.size⟩
   rw [← hw2]
   clear hw2
   replace hx:=Below.after2 hx (Nat.le_refl _) hb2
   generalize W0.drew.heap.size=T at *
   refine ⟨fun _=>hx,?_⟩
   (try simp only [tkp,tka,tkz,tks])
   refine tk1 12 ?_
   refine Drawn.Step.skip (exec_store_sty (.tmp 7) (.tmp 33) rfl rfl rfl AS) ?_
   replace AS:At (w2.setRow T (cells s)) T (.cells (cells s) 37):=At.setRow AS _
   have hx2:Below W0.heap.size W0 (w2.setRow T (cells s)):=setRow_below hx gT _
   generalize w2.setRow T (cells s)=w1 at *
   refine ⟨fun _=>hx2,?_⟩
   (try simp only [tkp,tka,tkz,tks])
   refine tkE ?_
   have hs1:=hx2.size
   replace A0:=A0.keep hx2
   replace A1:=A1.keep hx2
   have hB1:Below w.heap.size w w1:=Below.after2 hB0 (Nat.le_refl _) hx2
   have HR1:True:=trivial
   clear hx hx2 hb2 hlk hSty lb0 l0 c0_0 c0_1 c0_2 c0_3 c0_4 c0_5 c0_6 lY cY0 cY1 cY2 cY3 cY4 cY5 hlay hR0 hR
   have lT:=AS.lt
   have c31:w1.cell? ⟨T,31,none⟩=some (.int .i64 (s.c 31)):=(AS.cell 31).trans (cells_int s Z3f rfl)
   have c32:w1.cell? ⟨T,32,none⟩=some (.int .i64 (s.c 32)):=(AS.cell 32).trans (cells_int s Z3f rfl)
   have c33:w1.cell? ⟨T,33,none⟩=some (.int .i64 (s.c 33)):=(AS.cell 33).trans (cells_int s Z3f rfl)
   have c34:w1.cell? ⟨T,34,none⟩=some (.int .i64 (s.c 34)):=(AS.cell 34).trans (cells_int s Z3f rfl)
   have c35:w1.cell? ⟨T,35,none⟩=some (.int .i64 (s.c 35)):=(AS.cell 35).trans (cells_int s Z3f rfl)
   have c36:w1.cell? ⟨T,36,none⟩=some (.int .i64 (s.c 36)):=(AS.cell 36).trans (cells_int s Z3f rfl)
   have c37:w1.cell? ⟨T,37,none⟩=some (.int .i64 (s.c 37)):=(AS.cell 37).trans (cells_int s Z3f rfl)
   have c38:w1.cell? ⟨T,38,none⟩=some (.int .i64 (s.c 38)):=(AS.cell 38).trans (cells_int s Z3f rfl)
   have HPAD:=Lib.hid (fun X (h:Below w1.heap.size w1 X)=>(⟨(h.cell (p:=⟨T,31,none⟩) lT).trans c31,(h.cell (p:=⟨T,32,none⟩) lT).trans c32,(h.cell (p:=⟨T,33,none⟩) lT).trans c33,(h.cell (p:=⟨T,34,none⟩) lT).trans c34⟩:X.cell? ⟨T,31,none⟩=some (.int .i64 (s.c 31))∧X.cell? ⟨T,31 + 1,none⟩=some (.int .i64 (s.c 32))∧X.cell? ⟨T,31 + 2,none⟩=some (.int .i64 (s.c 33))∧X.cell? ⟨T,31 + 3,none⟩=some (.int .i64 (s.c 34))))
   have HBOR:=Lib.hid (fun X (h:Below w1.heap.size w1 X)=>(⟨(h.cell (p:=⟨T,35,none⟩) lT).trans c35,(h.cell (p:=⟨T,36,none⟩) lT).trans c36,(h.cell (p:=⟨T,37,none⟩) lT).trans c37,(h.cell (p:=⟨T,38,none⟩) lT).trans c38⟩:X.cell? ⟨T,35,none⟩=some (.int .i64 (s.c 35))∧X.cell? ⟨T,35 + 1,none⟩=some (.int .i64 (s.c 36))∧X.cell? ⟨T,35 + 2,none⟩=some (.int .i64 (s.c 37))∧X.cell? ⟨T,35 + 3,none⟩=some (.int .i64 (s.c 38))))
   clear c31 c32 c33 c34 c35 c36 c37 c38 AS
   go_upto_region 4 with (fail)
   refine Drawn.wp_behind (fun a0 a W5=>∃ (Tp Tq:Nat) (u34 u35 u36 u37 u38 u39:Value),a={ a0 with tmps:=(((((((a0.tmps.setIfInBounds 34 u34).setIfInBounds 35 u35).setIfInBounds 36 u36).setIfInBounds 37 u37).setIfInBounds 38 u38).setIfInBounds 39 u39).setIfInBounds 8 (.pointer (some ⟨Tp,0,none⟩))).setIfInBounds 9 (.pointer (some ⟨Tq,0,none⟩)) }∧w1.heap.size≤Tp∧w1.heap.size≤Tq∧Tp≠Tq∧At W5 Tp (.cells #[.int .i64 (s.c 34),.int .i64 (s.c 32),.int .i64 (s.c 31),.int .i64 (s.c 33)] 139)∧At W5 Tq (.cells #[.int .i64 (s.c 38),.int .i64 (s.c 36),.int .i64 (s.c 35),.int .i64 (s.c 37)] 139)∧Below w1.heap.size w1 W5) ?_ ?_
   · have hSd:Below w1.heap.size w1 w1.drew:=Below.drew (Below.refl _ _)
     clear hB1 hB0 A0 A1 E
     refine tkX (S:=fun X=>Below w1.heap.size w1 X) 10 ?_ ?_
     · exact hSd
     intro hx
     clear hSd
     refine tkB 0 ?_
     refine tkR 1 rfl (reads_f4 (.tmp 34) Z3n rfl rfl (fun X h=>HPAD.out X h)) ?_
     refine tkB 3 ?_
     refine tkR 4 rfl (reads_f4 (.tmp 37) Z3n rfl rfl (fun X h=>HBOR.out X h)) ?_
     clear lT HPAD HBOR
     generalize w1.drew=W0 at *
     refine Drawn.gen_3 (i:=2) (j:=6) (k:=7) Z3q rfl rfl rfl Z3n Z3n Z3n ?_ ?_ ?_
     · refine Drawn.Step.call Z3r (fbyway_any _ _ _ _ _) ?_
       rintro e w11 ⟨rfl,hb⟩
       replace hx:=Below.after2 hx (Nat.le_refl _) hb
       clear hb
       refine ⟨_,rfl,fun _=>hx,?_⟩
       (try simp only [tkp,tka,tkz,tks])
       refine Drawn.gen_3 (i:=5) (j:=6) (k:=7) Z3q rfl rfl rfl Z3n Z3n Z3n ?_ ?_ ?_
       · refine Drawn.Step.call Z3r (fbyway_any _ _ _ _ _) ?_
         rintro e w12 ⟨rfl,hb⟩
         replace hx:=Below.after2 hx (Nat.le_refl _) hb
         clear hb
         refine ⟨_,rfl,fun _=>hx,?_⟩
         (try simp only [tkp,tka,tkz,tks])
         refine tk2 6 7 ?_ ?_
         · refine Drawn.Step.value (u:= .pointer (some ⟨w12.heap.size,0,none⟩)) (w':=w12.alloc (.cells #[.int .i64 0,.int .i64 0,.int .i64 0,.int .i64 0] 139)) tkL ?_
           obtain ⟨w13,hw9,Ap,hb⟩:∃ w9,w9=w12.alloc (.cells #[.int .i64 0,.int .i64 0,.int .i64 0,.int .i64 0] 139)∧At w9 w12.heap.size (.cells #[.int .i64 0,.int .i64 0,.int .i64 0,.int .i64 0] 139)∧Below w12.heap.size w12 w9:=⟨_,rfl,At.new _ _,Below.alloc' (Below.refl _ _) _⟩
           rw [← hw9]
           clear hw9
           have gp:=hx.size
           obtain ⟨Tp,hTp⟩:∃ q,w12.heap.size=q:=⟨_,rfl⟩
           rw [hTp] at Ap gp
           rw [hTp]
           have kp:w12.heap.size≤Tp:=Nat.le_of_eq hTp
           clear hTp
           replace hx:=Below.after2 hx (Nat.le_refl _) hb
           clear hb
           refine ⟨fun _=>hx,?_⟩
           exact Z18
         · refine Drawn.Step.value (u:= .pointer (some ⟨w12.heap.size,0,none⟩)) (w':=w12.alloc (.cells #[.int .i64 0,.int .i64 0,.int .i64 0,.int .i64 0] 139)) tkL ?_
           obtain ⟨w13,hw9,Aq,hb⟩:∃ w9,w9=w12.alloc (.cells #[.int .i64 0,.int .i64 0,.int .i64 0,.int .i64 0] 139)∧At w9 w12.heap.size (.cells #[.int .i64 0,.int .i64 0,.int .i64 0,.int .i64 0] 139)∧Below w12.heap.size w12 w9:=⟨_,rfl,At.new _ _,Below.alloc' (Below.refl _ _) _⟩
           rw [← hw9]
           clear hw9
           have gq:=hx.size
           obtain ⟨Tq,hTq⟩:∃ q,w12.heap.size=q:=⟨_,rfl⟩
           rw [hTq] at Aq gq
           rw [hTq]
           have kq:w12.heap.size≤Tq:=Nat.le_of_eq hTq
           clear hTq
           replace hx:=Below.after2 hx (Nat.le_refl _) hb
           clear hb
           refine ⟨fun _=>hx,?_⟩
           exact Z19
       · refine Drawn.Step.value (u:= .pointer (some ⟨w11.heap.size,0,none⟩)) (w':=w11.alloc (.cells #[.int .i64 0,.int .i64 0,.int .i64 0,.int .i64 0] 139)) tkL ?_
         obtain ⟨w12,hw9,Ap,hb⟩:∃ w9,w9=w11.alloc (.cells #[.int .i64 0,.int .i64 0,.int .i64 0,.int .i64 0] 139)∧At w9 w11.heap.size (.cells #[.int .i64 0,.int .i64 0,.int .i64 0,.int .i64 0] 139)∧Below w11.heap.size w11 w9:=⟨_,rfl,At.new _ _,Below.alloc' (Below.refl _ _) _⟩
         rw [← hw9]
         clear hw9
         have gp:=hx.size
         obtain ⟨Tp,hTp⟩:∃ q,w11.heap.size=q:=⟨_,rfl⟩
         rw [hTp] at Ap gp
         rw [hTp]
         have kp:w11.heap.size≤Tp:=Nat.le_of_eq hTp
         clear hTp
         replace hx:=Below.after2 hx (Nat.le_refl _) hb
         clear hb
         refine ⟨fun _=>hx,?_⟩
         exact Zg
       · refine Drawn.Step.value (u:= .pointer (some ⟨w11.heap.size,0,none⟩)) (w':=w11.alloc (.cells #[.int .i64 0,.int .i64 0,.int .i64 0,.int .i64 0] 139)) tkL ?_
         obtain ⟨w12,hw9,Aq,hb⟩:∃ w9,w9=w11.alloc (.cells #[.int .i64 0,.int .i64 0,.int .i64 0,.int .i64 0] 139)∧At w9 w11.heap.size (.cells #[.int .i64 0,.int .i64 0,.int .i64 0,.int .i64 0] 139)∧Below w11.heap.size w11 w9:=⟨_,rfl,At.new _ _,Below.alloc' (Below.refl _ _) _⟩
         rw [← hw9]
         clear hw9
         have gq:=hx.size
         obtain ⟨Tq,hTq⟩:∃ q,w11.heap.size=q:=⟨_,rfl⟩
         rw [hTq] at Aq gq
         rw [hTq]
         have kq:w11.heap.size≤Tq:=Nat.le_of_eq hTq
         clear hTq
         replace hx:=Below.after2 hx (Nat.le_refl _) hb
         clear hb
         refine ⟨fun _=>hx,?_⟩
         exact Zh
     · refine Drawn.Step.value (u:= .pointer (some ⟨W0.heap.size,0,none⟩)) (w':=W0.alloc (.cells #[.int .i64 0,.int .i64 0,.int .i64 0,.int .i64 0] 139)) tkL ?_
       obtain ⟨w11,hw9,Ap,hb⟩:∃ w9,w9=W0.alloc (.cells #[.int .i64 0,.int .i64 0,.int .i64 0,.int .i64 0] 139)∧At w9 W0.heap.size (.cells #[.int .i64 0,.int .i64 0,.int .i64 0,.int .i64 0] 139)∧Below W0.heap.size W0 w9:=⟨_,rfl,At.new _ _,Below.alloc' (Below.refl _ _) _⟩
       rw [← hw9]
       clear hw9
       have gp:=hx.size
       obtain ⟨Tp,hTp⟩:∃ q,W0.heap.size=q:=⟨_,rfl⟩
       rw [hTp] at Ap gp
       rw [hTp]
       have kp:W0.heap.size≤Tp:=Nat.le_of_eq hTp
       clear hTp
       replace hx:=Below.after2 hx (Nat.le_refl _) hb
       clear hb
       refine ⟨fun _=>hx,?_⟩
       (try simp only [tkp,tka,tkz,tks])
       refine tk2 2 7 ?_ ?_
       · refine Drawn.Step.call Z3r (fbyway_any _ _ _ _ _) ?_
         rintro e w12 ⟨rfl,hb⟩
         replace Ap:=Ap.keep hb
         replace hx:=Below.after2 hx (Nat.le_refl _) hb
         clear hb
         refine ⟨_,rfl,fun _=>hx,?_⟩
         exact Zg
       · refine Drawn.Step.value (u:= .pointer (some ⟨w11.heap.size,0,none⟩)) (w':=w11.alloc (.cells #[.int .i64 0,.int .i64 0,.int .i64 0,.int .i64 0] 139)) tkL ?_
         obtain ⟨w12,hw9,Aq,hb⟩:∃ w9,w9=w11.alloc (.cells #[.int .i64 0,.int .i64 0,.int .i64 0,.int .i64 0] 139)∧At w9 w11.heap.size (.cells #[.int .i64 0,.int .i64 0,.int .i64 0,.int .i64 0] 139)∧Below w11.heap.size w11 w9:=⟨_,rfl,At.new _ _,Below.alloc' (Below.refl _ _) _⟩
         rw [← hw9]
         clear hw9
         have gq:=hx.size
         obtain ⟨Tq,hTq⟩:∃ q,w11.heap.size=q:=⟨_,rfl⟩
         rw [hTq] at Aq gq
         rw [hTq]
         have kq:w11.heap.size≤Tq:=Nat.le_of_eq hTq
         clear hTq
         have npq:Tp≠Tq:=by have:=Ap.lt;omega
         replace Ap:=Ap.keep hb
         exact Z1s
     · refine Drawn.Step.value (u:= .pointer (some ⟨W0.heap.size,0,none⟩)) (w':=W0.alloc (.cells #[.int .i64 0,.int .i64 0,.int .i64 0,.int .i64 0] 139)) tkL ?_
       obtain ⟨w11,hw9,Aq,hb⟩:∃ w9,w9=W0.alloc (.cells #[.int .i64 0,.int .i64 0,.int .i64 0,.int .i64 0] 139)∧At w9 W0.heap.size (.cells #[.int .i64 0,.int .i64 0,.int .i64 0,.int .i64 0] 139)∧Below W0.heap.size W0 w9:=⟨_,rfl,At.new _ _,Below.alloc' (Below.refl _ _) _⟩
       rw [← hw9]
       clear hw9
       have gq:=hx.size
       obtain ⟨Tq,hTq⟩:∃ q,W0.heap.size=q:=⟨_,rfl⟩
       rw [hTq] at Aq gq
       rw [hTq]
       have kq:W0.heap.size≤Tq:=Nat.le_of_eq hTq
       clear hTq
       replace hx:=Below.after2 hx (Nat.le_refl _) hb
       clear hb
       refine ⟨fun _=>hx,?_⟩
       (try simp only [tkp,tka,tkz,tks])
       refine tk2 2 6 ?_ ?_
       · refine Drawn.Step.call Z3r (fbyway_any _ _ _ _ _) ?_
         rintro e w12 ⟨rfl,hb⟩
         replace Aq:=Aq.keep hb
         replace hx:=Below.after2 hx (Nat.le_refl _) hb
         clear hb
         refine ⟨_,rfl,fun _=>hx,?_⟩
         exact Zh
       · refine Drawn.Step.value (u:= .pointer (some ⟨w11.heap.size,0,none⟩)) (w':=w11.alloc (.cells #[.int .i64 0,.int .i64 0,.int .i64 0,.int .i64 0] 139)) tkL ?_
         obtain ⟨w12,hw9,Ap,hb⟩:∃ w9,w9=w11.alloc (.cells #[.int .i64 0,.int .i64 0,.int .i64 0,.int .i64 0] 139)∧At w9 w11.heap.size (.cells #[.int .i64 0,.int .i64 0,.int .i64 0,.int .i64 0] 139)∧Below w11.heap.size w11 w9:=⟨_,rfl,At.new _ _,Below.alloc' (Below.refl _ _) _⟩
         rw [← hw9]
         clear hw9
         have gp:=hx.size
         obtain ⟨Tp,hTp⟩:∃ q,w11.heap.size=q:=⟨_,rfl⟩
         rw [hTp] at Ap gp
         rw [hTp]
         have kp:w11.heap.size≤Tp:=Nat.le_of_eq hTp
         clear hTp
         have npq:Tq≠Tp:=by have:=Aq.lt;omega
         replace Aq:=Aq.keep hb
         exact Z1s
   · rintro a W5 ⟨Tp,Tq,u34,u35,u36,u37,u38,u39,rfl,gp,gq,npq,Ap,Aq,hB5⟩
     simp only [List.setIfInBounds_toArray,List.set_cons_zero,List.set_cons_succ]
     have hs5:=hB5.size
     have hB6:Below w.heap.size w W5:=Below.after2 hB1 (Nat.le_refl _) hB5
     replace A0:=A0.keep hB5
     replace A1:=A1.keep hB5
     clear hB5 HPAD HBOR lT
     obtain ⟨r0,hr0⟩:∃ x,IntKind.i64.wrap (s0 - Fw.wr (s.c 38 + s.c 36))=x:=⟨_,rfl⟩
     obtain ⟨r1,hr1⟩:∃ x,IntKind.i64.wrap (s1 - Fw.wr (s.c 35 + s.c 37))=x:=⟨_,rfl⟩
     have E2:Hid (prt sk s ww wh s0 s1=#[.int .i64 (s.c 38),.int .i64 (s.c 35),.int .i64 r0,.int .i64 r1,.int .i64 (s.c 34),.int .i64 (s.c 31)]):=Lib.hid (by rw [E.out, ← wri (s0 - _), ← wri (s1 - _),hr0,hr1])
     clear E
     go_upto_region 6 with (fail)
     generalize hW:World.alloc _ _=W6
     have AP:At W6 W5.heap.size (.cells #[.int .i64 0,.int .i64 0,.int .i64 0,.int .i64 0,.int .i64 0,.int .i64 0] 168):=hW ▸ At.new _ _
     have hb6:Below W5.heap.size W5 W6:=hW ▸ Below.alloc' (Below.refl _ _) _
     clear hW
     have npr:Tp≠W5.heap.size:=Nat.ne_of_lt Ap.lt
     have nqr:Tq≠W5.heap.size:=Nat.ne_of_lt Aq.lt
     have n0r:w.heap.size≠W5.heap.size:=Nat.ne_of_lt A0.lt
     have n1r:w.heap.size + 1≠W5.heap.size:=Nat.ne_of_lt A1.lt
     have gTr:w.heap.size≤W5.heap.size:=Nat.le_of_lt A0.lt
     replace Ap:=Ap.keep hb6
     replace Aq:=Aq.keep hb6
     replace A0:=A0.keep hb6
     replace A1:=A1.keep hb6
     have hBz:=Below.after2 hB6 (Nat.le_refl _) hb6
     clear hb6 hs5 hB6
     generalize W5.heap.size=Tr at *
     go_wp2
     refine wp_loop_rounds 3 ?_
     rw [rounds_succ]
     obtain ⟨lq,cq0,cq1,cq2,cq3⟩:=At.four Aq
     have lr:=AP.lt
     have zr:=AP.thaw 0
     have cr:=AP.cell 0
     simp only [List.getElem?_toArray,List.getElem?_cons_zero,List.getElem?_cons_succ] at cr
     go_upto_region 10 with (fail)
     generalize hW:World.setCell _ _ _=V01
     replace AP:At V01 Tr (.cells #[.int .i64 (s.c 38),.int .i64 0,.int .i64 0,.int .i64 0,.int .i64 0,.int .i64 0] 168):=hW ▸ At.set AP 0 _
     replace Aq:=hW ▸ At.off Aq nqr 0 _
     replace Ap:=hW ▸ At.off Ap npr 0 _
     replace A0:=hW ▸ At.off A0 n0r 0 _
     replace A1:=hW ▸ At.off A1 n1r 0 _
     replace hBz:Below w.heap.size w V01:=by rw [← hW];exact Below.setCell hBz gTr _
     clear hW lq cq0 cq1 cq2 cq3 lr zr cr
     obtain ⟨lq,cq0,cq1,cq2,cq3⟩:=At.four Aq
     obtain ⟨l0,c0_0,c0_1,c0_2,c0_3,c0_4,c0_5,c0_6⟩:=At.seven A0
     have lr:=AP.lt
     have zr:=AP.thaw 2
     have cr:=AP.cell 2
     simp only [List.getElem?_toArray,List.getElem?_cons_zero,List.getElem?_cons_succ] at cr
     refine sqtT 12 1 ?_
     (repeat (first | refine sqk ?_ | refine sqc ?_ (hc:=by intro w2 hS;first | with_reducible exact qaB hS (fall_any _ _ _)) | refine sqv ?_))
     refine Drawn.seq_tail ?_;intro w2 hS
     replace AP:=AP.keep hS
     replace Ap:=Ap.keep hS
     replace Aq:=Aq.keep hS
     replace A0:=A0.keep hS
     replace A1:=A1.keep hS
     replace hBz:=Below.after2 hBz (Nat.le_refl _) hS
     clear hS lq cq0 cq1 cq2 cq3 l0 c0_0 c0_1 c0_2 c0_3 c0_4 c0_5 c0_6 lr zr cr
     have lr:=AP.lt
     have zr:=AP.thaw 2
     have cr:=AP.cell 2
     simp only [List.getElem?_toArray,List.getElem?_cons_zero,List.getElem?_cons_succ] at cr
     refine tkT ?_;intro K hK;go_simp;refine hK _ _ (Drawn.text_nil ?_);clear hK K
     (try rw [hr0])
     generalize hW:World.setCell _ _ _=V02
     replace AP:At V02 Tr (.cells #[.int .i64 (s.c 38),.int .i64 0,.int .i64 r0,.int .i64 0,.int .i64 0,.int .i64 0] 168):=hW ▸ At.set AP 2 _
     replace Aq:=hW ▸ At.off Aq nqr 2 _
     replace Ap:=hW ▸ At.off Ap npr 2 _
     replace A0:=hW ▸ At.off A0 n0r 2 _
     replace A1:=hW ▸ At.off A1 n1r 2 _
     replace hBz:Below w.heap.size w V02:=by rw [← hW];exact Below.setCell hBz gTr _
     clear hW lr zr cr
     obtain ⟨lp,cp0,cp1,cp2,cp3⟩:=At.four Ap
     have lr:=AP.lt
     have zr:=AP.thaw 4
     have cr:=AP.cell 4
     simp only [List.getElem?_toArray,List.getElem?_cons_zero,List.getElem?_cons_succ] at cr
     go_upto_region 12 with (fail)
     generalize hW:World.setCell _ _ _=V03
     replace AP:At V03 Tr (.cells #[.int .i64 (s.c 38),.int .i64 0,.int .i64 r0,.int .i64 0,.int .i64 (s.c 34),.int .i64 0] 168):=hW ▸ At.set AP 4 _
     replace Aq:=hW ▸ At.off Aq nqr 4 _
     replace Ap:=hW ▸ At.off Ap npr 4 _
     replace A0:=hW ▸ At.off A0 n0r 4 _
     replace A1:=hW ▸ At.off A1 n1r 4 _
     replace hBz:Below w.heap.size w V03:=by rw [← hW];exact Below.setCell hBz gTr _
     clear hW lp cp0 cp1 cp2 cp3 lr zr cr
     go_wp2
     rw [rounds_succ]
     obtain ⟨lq,cq0,cq1,cq2,cq3⟩:=At.four Aq
     have lr:=AP.lt
     have zr:=AP.thaw 1
     have cr:=AP.cell 1
     simp only [List.getElem?_toArray,List.getElem?_cons_zero,List.getElem?_cons_succ] at cr
     go_upto_region 10 with (fail)
     generalize hW:World.setCell _ _ _=V11
     replace AP:At V11 Tr (.cells #[.int .i64 (s.c 38),.int .i64 (s.c 35),.int .i64 r0,.int .i64 0,.int .i64 (s.c 34),.int .i64 0] 168):=hW ▸ At.set AP 1 _
     replace Aq:=hW ▸ At.off Aq nqr 1 _
     replace Ap:=hW ▸ At.off Ap npr 1 _
     replace A0:=hW ▸ At.off A0 n0r 1 _
     replace A1:=hW ▸ At.off A1 n1r 1 _
     replace hBz:Below w.heap.size w V11:=by rw [← hW];exact Below.setCell hBz gTr _
     clear hW lq cq0 cq1 cq2 cq3 lr zr cr
     obtain ⟨lq,cq0,cq1,cq2,cq3⟩:=At.four Aq
     obtain ⟨l0,c0_0,c0_1,c0_2,c0_3,c0_4,c0_5,c0_6⟩:=At.seven A0
     have lr:=AP.lt
     have zr:=AP.thaw 3
     have cr:=AP.cell 3
     simp only [List.getElem?_toArray,List.getElem?_cons_zero,List.getElem?_cons_succ] at cr
     refine sqtT 12 1 ?_
     (repeat (first | refine sqk ?_ | refine sqc ?_ (hc:=by intro w2 hS;first | with_reducible exact qaB hS (fall_any _ _ _)) | refine sqv ?_))
     refine Drawn.seq_tail ?_;intro w2 hS
     replace AP:=AP.keep hS
     replace Ap:=Ap.keep hS
     replace Aq:=Aq.keep hS
     replace A0:=A0.keep hS
     replace A1:=A1.keep hS
     replace hBz:=Below.after2 hBz (Nat.le_refl _) hS
     clear hS lq cq0 cq1 cq2 cq3 l0 c0_0 c0_1 c0_2 c0_3 c0_4 c0_5 c0_6 lr zr cr
     have lr:=AP.lt
     have zr:=AP.thaw 3
     have cr:=AP.cell 3
     simp only [List.getElem?_toArray,List.getElem?_cons_zero,List.getElem?_cons_succ] at cr
     refine tkT ?_;intro K hK;go_simp;refine hK _ _ (Drawn.text_nil ?_);clear hK K
     (try rw [hr1])
     generalize hW:World.setCell _ _ _=V12
     replace AP:At V12 Tr (.cells #[.int .i64 (s.c 38),.int .i64 (s.c 35),.int .i64 r0,.int .i64 r1,.int .i64 (s.c 34),.int .i64 0] 168):=hW ▸ At.set AP 3 _
     replace Aq:=hW ▸ At.off Aq nqr 3 _
     replace Ap:=hW ▸ At.off Ap npr 3 _
     replace A0:=hW ▸ At.off A0 n0r 3 _
     replace A1:=hW ▸ At.off A1 n1r 3 _
     replace hBz:Below w.heap.size w V12:=by rw [← hW];exact Below.setCell hBz gTr _
     clear hW lr zr cr
     obtain ⟨lp,cp0,cp1,cp2,cp3⟩:=At.four Ap
     have lr:=AP.lt
     have zr:=AP.thaw 5
     have cr:=AP.cell 5
     simp only [List.getElem?_toArray,List.getElem?_cons_zero,List.getElem?_cons_succ] at cr
     go_upto_region 12 with (fail)
     generalize hW:World.setCell _ _ _=V13
     replace AP:At V13 Tr (.cells #[.int .i64 (s.c 38),.int .i64 (s.c 35),.int .i64 r0,.int .i64 r1,.int .i64 (s.c 34),.int .i64 (s.c 31)] 168):=hW ▸ At.set AP 5 _
     replace Aq:=hW ▸ At.off Aq nqr 5 _
     replace Ap:=hW ▸ At.off Ap npr 5 _
     replace A0:=hW ▸ At.off A0 n0r 5 _
     replace A1:=hW ▸ At.off A1 n1r 5 _
     replace hBz:Below w.heap.size w V13:=by rw [← hW];exact Below.setCell hBz gTr _
     clear hW lp cp0 cp1 cp2 cp3 lr zr cr
     go_wp2
     rw [rounds_succ]
     obtain ⟨lr,cr0,cr1,cr2,cr3,cr4,cr5⟩:=At.six AP
     obtain ⟨l1,c1_0,c1_1,c1_2,c1_3,c1_4,c1_5⟩:=At.six A1
     have z1_0:=A1.thaw 0
     have z1_1:=A1.thaw 1
     have z1_2:=A1.thaw 2
     have z1_3:=A1.thaw 3
     have z1_4:=A1.thaw 4
     have z1_5:=A1.thaw 5
     clear hr0 hr1
     go_wp2
     generalize hW:World.setCell _ _ _=W9
     have A2:At W9 (w.heap.size + 1) (.cells #[.int .i64 (s.c 38),.int .i64 (s.c 35),.int .i64 r0,.int .i64 r1,.int .i64 (s.c 34),.int .i64 (s.c 31)] 168):=hW ▸ At.set (At.set (At.set (At.set (At.set (At.set A1 0 _) 1 _) 2 _) 3 _) 4 _) 5 _
     have hB9:Below w.heap.size w W9:=by
      rw [← hW]
      exact Below.setCell (Below.setCell (Below.setCell (Below.setCell (Below.setCell (Below.setCell hBz (Nat.le_succ _) _) (Nat.le_succ _) _) (Nat.le_succ _) _) (Nat.le_succ _) _) (Nat.le_succ _) _) (Nat.le_succ _) _
     clear hW l1 c1_0 c1_1 c1_2 c1_3 c1_4 c1_5 z1_0 z1_1 z1_2 z1_3 z1_4 z1_5
     obtain ⟨l1,c1_0,c1_1,c1_2,c1_3,c1_4,c1_5⟩:=At.six A2
     rw [E2.out]
     refine bodyPost_ret (v:= .agg #[.int .i64 _,.int .i64 _,.int .i64 _,.int .i64 _,.int .i64 _,.int .i64 _]) (by simp [results,Tryz.results108,go_sem, *];first | done | exact ⟨rfl,rfl⟩ | exact ⟨rfl,rfl,rfl,rfl,rfl,rfl⟩ | rfl) rfl ⟨rfl,hB9⟩
end
end Go.Proofs.YteggipnplbkijaaGreat.Fix
