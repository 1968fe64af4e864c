/- Boxes laid by the program: what its functions do, part 30. -/
import Derived.Test.YteggipnplbkijaaGreatWK
import Derived.Test.YteggipnplbkijaaGreatW22
import Derived.Test.YteggipnplbkijaaGreatW28
import Derived.Test.YteggipnplbkijaaGreatW29
set_option linter.unusedVariables false
set_option linter.unusedSimpArgs false
set_option linter.unusedSectionVars false
set_option maxRecDepth 100000
namespace Go.Proofs.YteggipnplbkijaaGreat.Fix
open Go.ChangeShapes Go.WideShapes Go.ChangeAt Go.RowKit
def apS (sk:Re.St) (r0:Int):Int:=if spn sk 0 r0 r0 = -1∧Fw.fxd sk 0 r0=false then Fw.byc sk r0 else spn sk 0 r0 r0
section
variable {Y:Lyt} {B:Int→Fw.Bx} {F:Int→Nat} {D:Int→Prop} {KM:World→Nat→Prop} {f:Nat} {w0:World} {P0:Nat→Prop}
set_option maxHeartbeats 16000000 in
theorem flapart (hL:LayOK Y B F D KM f) (hK:∀ (X X':World) (b:Nat),KM X b→Below X.heap.size X X'→KM X' b) (hKO:∀ (X X':World) (b:Nat),KM X b→Out (fun q=>q≠b) X X'→KM X' b) (hR0:RO w0 Y B D KM) (hkm:Y.km<w0.heap.size)
  (k:Int) (up:Fw.Ld) (hz:D up.id) (hk:D k) (hf:F k=f) (w:World) (n:Nat) (P:Nat→Prop) (hS:LSt Y B F w0 P0 n P w) (hn:n + Fw.cst B f k<maxLen) (sk s:Re.St) (hsk:(B k).sty=sk) (hs:(B up.id).sty=s) (q0 q1 r0 r1 d0 d1:Int) (hpt:prt sk s Y.ww Y.wh up.s0 up.s1=#[.int .i64 q0,.int .i64 q1,.int .i64 r0,.int .i64 r1,.int .i64 d0,.int .i64 d1]) (ly:Fw.Ld) (hly:Fw.lay B f k r0 r1 (apS sk r0) (spn sk 1 r1 r0)=ly) :
  Calls Tryz.prog 73 #[.pointer (some ⟨Y.lb,0,none⟩),.int .i64 k,.agg (ldc up)] w fun e w'=>e = .returned (.agg (ldc { ly with a0:=Fw.wr (q0 + bgn sk 0 r0 r0 d0 ly.s0),a1:=Fw.wr (q1 + bgn sk 1 r1 r0 d1 ly.s1) })) ∧
   ∃ n' P',n'≤n + Fw.cst B f k∧LSt Y B F w0 P0 n' P' w'∧(∀ b,b<w.heap.size→P' b→P b)∧Out (fun b=>b=Y.pm) w w':=by
 obtain ⟨es0,ck0,hpm0⟩:=(hS.ro hKO hR0 hkm).pmo
 have hpmw:=hpm0.lt
 clear hpm0
 have HSK:=Lib.hid hsk
 have HSW:=Lib.hid hS
 have HR0:=Lib.hid hR0
 have HN:=Lib.hid hn
 have HF:=Lib.hid hf
 have HLY:=Lib.hid hly
 have hRw:=hS.ro hKO hR0 hkm
 obtain ⟨bk,hbk⟩:∃ b,Y.bl k=b:=⟨_,rfl⟩
 have keyP:=fun X (h:Below w.heap.size w X)=>fport hK k up hz hk bk hbk.symm X (hRw.keep hK h) sk s hsk hs
 simp only [hpt] at keyP
 have hlk:=fun X (h:Below w.heap.size w X)=>(hRw.keep hK h).look hk
 simp only [hbk] at hlk
 have hbx:=(hRw.box k hk).1
 rw [hbk,hsk] at hbx
 generalize Y.vf k=vf at hbx
 generalize Y.va k=va at hbx
 generalize (B k).ib=ib at hbx
 have HBX:=Lib.hid hbx
 have hlay0:=hRw.lay
 have HNB:Hid (¬ (bk=Y.pm)):=Lib.hid (fun e=>by
  obtain ⟨es1,ck1,hp1⟩:=hRw.pmo
  rw [e] at hbx
  exact absurd (hbx.symm.trans hp1) Z3t)
 obtain ⟨z,j0,j1,s0,s1,a0,a1⟩:=up
 simp only [ldc] at keyP ⊢
 clear hS hsk hs hR0 hn hf hly hpt hbk hbx hRw hz
 go_enter Tryz.func73,Tryz.ntmps73
 go_upto_region 1 with (fail)
 generalize hW:World.alloc _ _=W0
 have A0:At W0 w.heap.size (.cells #[.int .i64 z,.int .i64 j0,.int .i64 j1,.int .i64 s0,.int .i64 s1,.int .i64 a0,.int .i64 a1] 94):=hW ▸ At.alloc (At.new _ _) _
 have A1:At W0 (w.heap.size + 1) (.cells #[.int .i64 0,.int .i64 0,.int .i64 0,.int .i64 0,.int .i64 0,.int .i64 0,.int .i64 0] 94):=hW ▸ At.new' _ Z3t
 have hB0:Below w.heap.size w W0:=hW ▸ Below.alloc' (Below.alloc' (Below.refl _ _) _) _
 clear hW
 have hlay:=hlay0.keep hB0
 have hlk0:=hlk W0 hB0
 obtain ⟨lY,cY0,cY1,cY2,cY3,cY4,cY5⟩:=At.six hlay
 clear hlay hlay0 hlk
 go_upto_region 2 with (fail)
 clear hlk0 lY cY0 cY1 cY2 cY3 cY4 cY5
 replace keyP:=keyP W0 hB0
 obtain ⟨l0,c0_0,c0_1,c0_2,c0_3,c0_4,c0_5,c0_6⟩:=At.seven A0
 go_upto_region 3 with (go_at_call 108;(with_reducible refine keyP.mono ?_);rintro e' w4 ⟨rfl,hb4⟩)
 generalize hW:World.alloc _ _=w1
 have AP:At w1 w4.heap.size (.cells #[.int .i64 q0,.int .i64 q1,.int .i64 r0,.int .i64 r1,.int .i64 d0,.int .i64 d1] 168):=hW ▸ At.new _ _
 have hb5:Below W0.heap.size W0 w1:=hW ▸ (hb4.trans (Below.mono (Below.alloc' (Below.refl _ _) _) hb4.size))
 have gR:=hb4.size
 clear hW hb4 keyP
 generalize w4.heap.size=Tr at *
 have n0r:w.heap.size≠Tr:=by have:=A0.lt;omega
 have n1r:w.heap.size + 1≠Tr:=by have:=A1.lt;omega
 have gTr:w.heap.size≤Tr:=by have:=A0.lt;omega
 replace A1:=A1.keep hb5
 have hB1:Below w.heap.size w w1:=Below.after2 hB0 (Nat.le_refl _) hb5
 clear hB0 hb5 l0 c0_0 c0_1 c0_2 c0_3 c0_4 c0_5 c0_6 A0
 have HBX1:=Lib.hid (HBX.out.keep hB1)
 obtain ⟨lr,cr0,cr1,cr2,cr3,cr4,cr5⟩:=At.six AP
 obtain ⟨e0,he0⟩:∃ e,spn sk 0 r0 r0=e:=⟨_,rfl⟩
 obtain ⟨e1,he1⟩:∃ e,spn sk 1 r1 r0=e:=⟨_,rfl⟩
 have keyc:=fun X (h:Below w1.heap.size w1 X)=>fspan0 bk sk vf va ib r0 r1 X (HBX1.out.keep h)
 have keyd:=fun X (h:Below w1.heap.size w1 X)=>fspan1 bk sk vf va ib r0 r1 X (HBX1.out.keep h)
 simp only [he0] at keyc
 simp only [he1] at keyd
 have HE0:=Lib.hid he0
 have HE1:=Lib.hid he1
 clear he0 he1
 refine Drawn.wp_behind (fun a0 a W5=>∃ (Tp:Nat) (u22 u23 u24 u25 u26 u27 u28 u29 u30:Value),a={ a0 with tmps:=(((((((((a0.tmps.setIfInBounds 22 u22).setIfInBounds 23 u23).setIfInBounds 24 u24).setIfInBounds 25 u25).setIfInBounds 26 u26).setIfInBounds 27 u27).setIfInBounds 28 u28).setIfInBounds 29 u29).setIfInBounds 30 u30).setIfInBounds 9 (.pointer (some ⟨Tp,0,none⟩)) }∧w1.heap.size≤Tp∧At W5 Tp (.cells #[.int .i64 e0,.int .i64 e1] 88)∧Below w1.heap.size w1 W5) ?_ ?_
 · have hSd:Below w1.heap.size w1 w1.drew:=Below.drew (Below.refl _ _)
   refine tkX (S:=fun X=>Below w1.heap.size w1 X) 11 ?_ ?_
   · exact hSd
   intro hx
   clear hSd
   refine tkB 0 ?_
   refine tkB 1 ?_
   refine tkB 2 ?_
   refine tkB 4 ?_
   refine tkB 5 ?_
   refine tkB 6 ?_
   clear lr cr0 cr1 cr2 cr3 cr4 cr5
   generalize w1.drew=W0 at *
   refine tk2 3 9 ?_ ?_
   · refine Drawn.Step.call tkL (keyc _ hx) ?_
     rintro e w11 ⟨rfl,hb⟩
     replace hx:=Below.after2 hx (Nat.le_refl _) hb
     clear hb
     refine ⟨_,rfl,fun _=>hx,?_⟩
     (try simp only [tkp,tka,tkz,tks])
     refine tk2 7 9 ?_ ?_
     · refine Drawn.Step.call tkL (keyd _ hx) ?_
       rintro e w12 ⟨rfl,hb⟩
       replace hx:=Below.after2 hx (Nat.le_refl _) hb
       clear hb
       refine ⟨_,rfl,fun _=>hx,?_⟩
       (try simp only [tkp,tka,tkz,tks])
       refine tkB 8 ?_
       refine tk1 9 ?_
       refine Drawn.Step.value (u:= .pointer (some ⟨w12.heap.size,0,none⟩)) (w':=w12.alloc (.cells #[.int .i64 0,.int .i64 0] 88)) tkL ?_
       obtain ⟨w13,hw9,Ap,hb⟩:∃ w9,w9=w12.alloc (.cells #[.int .i64 0,.int .i64 0] 88)∧At w9 w12.heap.size (.cells #[.int .i64 0,.int .i64 0] 88)∧Below w12.heap.size w12 w9:=⟨_,rfl,At.new _ _,Below.alloc' (Below.refl _ _) _⟩
       rw [← hw9]
       clear hw9
       have gp:=hx.size
       obtain ⟨Tp,hTp⟩:∃ q,w12.heap.size=q:=⟨_,rfl⟩
       rw [hTp] at Ap gp
       rw [hTp]
       clear hTp
       replace hx:=Below.after2 hx (Nat.le_refl _) hb
       clear hb
       refine ⟨fun _=>hx,?_⟩
       (try simp only [tkp,tka,tkz,tks])
       exact Zz
     · refine Drawn.Step.value (u:= .pointer (some ⟨w11.heap.size,0,none⟩)) (w':=w11.alloc (.cells #[.int .i64 0,.int .i64 0] 88)) tkL ?_
       obtain ⟨w12,hw9,Ap,hb⟩:∃ w9,w9=w11.alloc (.cells #[.int .i64 0,.int .i64 0] 88)∧At w9 w11.heap.size (.cells #[.int .i64 0,.int .i64 0] 88)∧Below w11.heap.size w11 w9:=⟨_,rfl,At.new _ _,Below.alloc' (Below.refl _ _) _⟩
       rw [← hw9]
       clear hw9
       have gp:=hx.size
       obtain ⟨Tp,hTp⟩:∃ q,w11.heap.size=q:=⟨_,rfl⟩
       rw [hTp] at Ap gp
       rw [hTp]
       clear hTp
       replace hx:=Below.after2 hx (Nat.le_refl _) hb
       clear hb
       refine ⟨fun _=>hx,?_⟩
       exact Z23
   · refine Drawn.Step.value (u:= .pointer (some ⟨W0.heap.size,0,none⟩)) (w':=W0.alloc (.cells #[.int .i64 0,.int .i64 0] 88)) tkL ?_
     obtain ⟨w11,hw9,Ap,hb⟩:∃ w9,w9=W0.alloc (.cells #[.int .i64 0,.int .i64 0] 88)∧At w9 W0.heap.size (.cells #[.int .i64 0,.int .i64 0] 88)∧Below W0.heap.size W0 w9:=⟨_,rfl,At.new _ _,Below.alloc' (Below.refl _ _) _⟩
     rw [← hw9]
     clear hw9
     have gp:=hx.size
     obtain ⟨Tp,hTp⟩:∃ q,W0.heap.size=q:=⟨_,rfl⟩
     rw [hTp] at Ap gp
     rw [hTp]
     clear hTp
     replace hx:=Below.after2 hx (Nat.le_refl _) hb
     clear hb
     refine ⟨fun _=>hx,?_⟩
     (try simp only [tkp,tka,tkz,tks])
     refine tk1 3 ?_
     refine Drawn.Step.call tkL (keyc _ hx) ?_
     rintro e w12 ⟨rfl,hb⟩
     replace Ap:=Ap.keep hb
     replace hx:=Below.after2 hx (Nat.le_refl _) hb
     clear hb
     refine ⟨_,rfl,fun _=>hx,?_⟩
     exact Z23
 · rintro a W5 ⟨Tp,u22,u23,u24,u25,u26,u27,u28,u29,u30,rfl,gp,Ap,hB5⟩
   simp only [List.setIfInBounds_toArray,List.set_cons_zero,List.set_cons_succ]
   replace HBX1:=Lib.hid (HBX1.out.keep hB5)
   have nrp:Tr≠Tp:=by have:=AP.lt;omega
   have n1p:w.heap.size + 1≠Tp:=by have:=A1.lt;omega
   have gTp:w.heap.size≤Tp:=Nat.le_trans hB1.size gp
   replace AP:=AP.keep hB5
   replace A1:=A1.keep hB5
   have hB6:Below w.heap.size w W5:=Below.after2 hB1 (Nat.le_refl _) hB5
   clear hB5 hB1 keyc keyd lr cr0 cr1 cr2 cr3 cr4 cr5
   go_upto_region 4 with (fail)
   obtain ⟨cc,hcc⟩:∃ b:Bool,decide (e0 = -1∧Fw.fxd sk 0 r0=false)=b:=⟨_,rfl⟩
   have HCC:=Lib.hid hcc
   clear hcc
   refine Drawn.wp_behind (fun a0 a W6=>∃ (bb:Bool) (u31 u32 u33 u34 u35 u36 u37 u38 u39 u40 u41 u42 u43 u44:Value),a={ a0 with tmps:=((((((((((((((a0.tmps.setIfInBounds 31 u31).setIfInBounds 32 u32).setIfInBounds 33 u33).setIfInBounds 34 u34).setIfInBounds 35 u35).setIfInBounds 36 u36).setIfInBounds 37 u37).setIfInBounds 38 u38).setIfInBounds 39 u39).setIfInBounds 40 u40).setIfInBounds 41 u41).setIfInBounds 42 u42).setIfInBounds 43 u43).setIfInBounds 44 u44).setIfInBounds 45 (.bool bb) }∧Hid (bb=cc)∧Below W5.heap.size W5 W6) ?_ ?_
   · have hSd:Below W5.heap.size W5 W5.drew:=Below.drew (Below.refl _ _)
     obtain ⟨lp,cp0,cp1⟩:=At.two Ap
     obtain ⟨lr,cr0,cr1,cr2,cr3,cr4,cr5⟩:=At.six AP
     have lbk:=BxAt.lt HBX1.out
     by_cases hne:e0 = -1
     · subst hne
       cases hfx:Fx.fixd (sk.c 3) r0 with
       | true =>
         have HFX:=Lib.hid hfx
         have HBB:Hid (false=cc):=Lib.hid (by rw [← HCC.out];have e:Fw.fxd sk 0 r0=true:=hfx;rw [e];decide)
         exact Z1a
       | false =>
         have HFX:=Lib.hid hfx
         have HBB:Hid (true=cc):=Lib.hid (by rw [← HCC.out];have e:Fw.fxd sk 0 r0=false:=hfx;rw [e];decide)
         exact Z1a
     · have HBB:Hid (false=cc):=Lib.hid (by rw [← HCC.out];simp [hne])
       have hneb:(e0 == -1)=false:=by simp [hne]
       refine tkX (S:=fun X=>Below W5.heap.size W5 X) 15 ?_ ?_
       · exact hSd
       intro hx
       clear hSd
       refine tkB 0 ?_
       refine tkB 1 ?_
       refine tkB 2 ?_
       refine tkB 3 ?_
       refine tkB 4 ?_
       refine tkB 5 ?_
       refine tkB 6 ?_
       refine tkB 7 ?_
       refine tkB 8 ?_
       refine tkB 9 ?_
       refine tkB 10 ?_
       refine tkB 11 ?_
       refine tkB 12 ?_
       refine tkB 13 ?_
       refine tkB 14 ?_
       refine tkE ?_
       exact ⟨rfl,_,_,_,_,_,_,_,_,_,_,_,_,_,_,_,(by simp only [List.setIfInBounds_toArray,List.set_cons_zero,List.set_cons_succ];rfl),HBB,hx⟩
   · rintro a W6 ⟨bb,u31,u32,u33,u34,u35,u36,u37,u38,u39,u40,u41,u42,u43,u44,rfl,HBB,hB7⟩
     simp only [List.setIfInBounds_toArray,List.set_cons_zero,List.set_cons_succ]
     have hB8:Below w.heap.size w W6:=Below.after2 hB6 (Nat.le_refl _) hB7
     replace HBX1:=Lib.hid (HBX1.out.keep hB7)
     replace Ap:=Ap.keep hB7
     replace AP:=AP.keep hB7
     replace A1:=A1.keep hB7
     clear hB7 hB6
     have hbb:=HBB.out
     subst hbb
     obtain ⟨t0,ht0⟩:∃ t,apS sk r0=t:=⟨_,rfl⟩
     have HT0:=Lib.hid ht0
     have hT:(bb=true→Fw.byc sk r0=t0)∧(bb=false→e0=t0):=by
      rw [← ht0, ← HCC.out]
      unfold apS
      rw [HE0.out]
      refine ⟨fun h=>by rw [if_pos (by simpa using h)],fun h=>by rw [if_neg (by simpa using h)]⟩
     clear ht0
     have HT:=Lib.hid hT
     clear hT
     go_upto_if 45 with (fail)
     go_cut [] from 45 to 51 (fun w2=>At w2 Tp (.cells #[.int .i64 t0,.int .i64 e1] 88)∧At w2 Tr (.cells #[.int .i64 q0,.int .i64 q1,.int .i64 r0,.int .i64 r1,.int .i64 d0,.int .i64 d1] 168)∧At w2 (w.heap.size + 1) (.cells #[.int .i64 0,.int .i64 0,.int .i64 0,.int .i64 0,.int .i64 0,.int .i64 0,.int .i64 0] 94)∧Below w.heap.size w w2)
     case first =>
      cases bb with
      | true =>
        have E:=Lib.hid (HT.out.1 rfl)
        clear HT HBB HCC
        obtain ⟨lr,cr0,cr1,cr2,cr3,cr4,cr5⟩:=At.six AP
        go_wp2_with (go_at_call 111;(with_reducible refine (fbyc_any bk sk vf va ib r0 r1 _ HBX1.out).mono ?_);rintro e' w7 ⟨rfl,hb⟩;replace AP:=AP.keep hb;replace A1:=A1.keep hb;replace Ap:=Ap.keep hb;obtain ⟨lp,cp0,cp1⟩:=At.two Ap;have zp0:=Ap.thaw 0)
        go_meet
        case rel =>
         refine ⟨by rw [← E.out];exact At.set Ap 0 _,At.off AP nrp _ _,At.off A1 n1p _ _,Below.setCell (Below.after2 hB8 (Nat.le_refl _) hb) gTp _⟩
      | false =>
        have E:=Lib.hid (HT.out.2 rfl)
        clear HT HBB HCC
        go_wp2
        go_meet
        case rel=>exact ⟨by rw [← E.out];exact Ap,AP,A1,hB8⟩
     case rest =>
      obtain ⟨Ap,AP,A1,hB⟩:=hcut
      have hSc:=HSW.out.after hB
      have A2:=HBX.out.keep hB
      have hsc:=hB.size
      obtain ⟨yi,y0,y1,ys0,ys1,ya0,ya1⟩:=ly
      have keyY:=lay_call hL hKO HR0.out hkm hSc k r0 r1 t0 e1 hk HF.out HN.out
      rw [show Fw.lay B f k r0 r1 t0 e1=⟨yi,y0,y1,ys0,ys1,ya0,ya1⟩ by rw [← HT0.out, ← HE1.out];exact HLY.out] at keyY
      simp only [ldc] at keyY
      obtain ⟨lp,cp0,cp1⟩:=At.two Ap
      obtain ⟨lr,cr0,cr1,cr2,cr3,cr4,cr5⟩:=At.six AP
      have hbkl:=BxAt.lt HBX.out
      have l1:=A1.lt
      go_upto_region 7 with (go_at_call 45;(with_reducible refine keyY.mono ?_);rintro e' w9 ⟨rfl,n',P',hn',hS9,hP9,hO9⟩)
      replace AP:=AP.out (M:=fun b=>b=Y.pm) Z3f hO9
      replace A1:=A1.out (M:=fun b=>b=Y.pm) Z3f hO9
      replace A2:BxAt w9 bk sk vf va ib:=A2.out (M:=fun b=>b=Y.pm) HNB.out hO9
      generalize hW:World.alloc _ _=V9
      have AX:At V9 w9.heap.size (.cells #[.int .i64 yi,.int .i64 y0,.int .i64 y1,.int .i64 ys0,.int .i64 ys1,.int .i64 ya0,.int .i64 ya1] 94):=hW ▸ At.new _ _
      have hb10:Below w9.heap.size w9 V9:=hW ▸ Below.alloc' (Below.refl _ _) _
      clear hW lp cp0 cp1 lr cr0 cr1 cr2 cr3 cr4 cr5 keyY Ap
      have nrx:Tr≠w9.heap.size:=Nat.ne_of_lt AP.lt
      have n1x:w.heap.size + 1≠w9.heap.size:=Nat.ne_of_lt A1.lt
      have nbx:bk≠w9.heap.size:=Nat.ne_of_lt (BxAt.lt A2)
      replace AP:=AP.keep hb10
      replace A1:=A1.keep hb10
      replace A2:=BxAt.keep A2 hb10
      have gTx:w9.heap.size≤w9.heap.size:=Nat.le_refl _
      obtain ⟨Tx,hTx⟩:∃ T,w9.heap.size=T:=⟨_,rfl⟩
      rw [hTx] at AX nrx n1x nbx
      have gTx:w9.heap.size≤Tx:=Nat.le_of_eq hTx
      rw [hTx]
      clear hTx
      obtain ⟨b0,hb0⟩:∃ x,bgn sk 0 r0 r0 d0 ys0=x:=⟨_,rfl⟩
      obtain ⟨b1,hb1⟩:∃ x,bgn sk 1 r1 r0 d1 ys1=x:=⟨_,rfl⟩
      obtain ⟨x0,hx0⟩:∃ x,IntKind.i64.wrap (q0 + bgn sk 0 r0 r0 d0 ys0)=x:=⟨_,rfl⟩
      obtain ⟨x1,hx1⟩:∃ x,IntKind.i64.wrap (q1 + bgn sk 1 r1 r0 d1 ys1)=x:=⟨_,rfl⟩
      have HANS:Hid (Fw.wr (q0 + bgn sk 0 r0 r0 d0 ys0)=x0∧Fw.wr (q1 + bgn sk 1 r1 r0 d1 ys1)=x1):=Lib.hid ⟨by rw [← wri,hx0],by rw [← wri,hx1]⟩
      clear hb0 hb1
      go_wp2
      refine wp_loop_rounds 3 ?_
      rw [rounds_succ]
      go_upto_region 10 with (fail)
      obtain ⟨lr,cr0,cr1,cr2,cr3,cr4,cr5⟩:=At.six AP
      obtain ⟨lx,cx0,cx1,cx2,cx3,cx4,cx5,cx6⟩:=At.seven AX
      have zx:=AX.thaw 5
      refine sqtT 16 1 ?_
      (repeat (first | refine sqk ?_ | refine sqc ?_ (hc:=by intro w2 hS;first | with_reducible exact qaB hS (fbegins0 _ _ _ _ _ _ _ _ _ _ _ _ _ Z49)) | refine sqv ?_))
      refine Drawn.seq_tail ?_;intro w2 hS
      replace AP:=AP.keep hS
      replace AX:=AX.keep hS
      replace A1:=A1.keep hS
      replace A2:=BxAt.keep A2 hS
      replace hb10:=Below.after2 hb10 (Nat.le_refl _) hS
      clear hS lr cr0 cr1 cr2 cr3 cr4 cr5 lx cx0 cx1 cx2 cx3 cx4 cx5 cx6 zx
      obtain ⟨lx,cx0,cx1,cx2,cx3,cx4,cx5,cx6⟩:=At.seven AX
      have zx:=AX.thaw 5
      refine tkT ?_;intro K hK;go_simp;refine hK _ _ (Drawn.text_nil ?_);clear hK K
      (try rw [hx0])
      generalize hW:World.setCell _ _ _=V0
      replace AX:At V0 Tx (.cells #[.int .i64 yi,.int .i64 y0,.int .i64 y1,.int .i64 ys0,.int .i64 ys1,.int .i64 x0,.int .i64 ya1] 94):=hW ▸ At.set AX 5 _
      replace AP:=hW ▸ At.off AP nrx 5 _
      replace A1:=hW ▸ At.off A1 n1x 5 _
      replace A2:BxAt V0 bk sk vf va ib:=hW ▸ At.off A2 nbx 5 _
      replace hb10:Below w9.heap.size w9 V0:=by rw [← hW];exact Below.setCell hb10 gTx _
      clear hW lx cx0 cx1 cx2 cx3 cx4 cx5 cx6 zx
      go_wp2
      rw [rounds_succ]
      go_upto_region 10 with (fail)
      obtain ⟨lr,cr0,cr1,cr2,cr3,cr4,cr5⟩:=At.six AP
      obtain ⟨lx,cx0,cx1,cx2,cx3,cx4,cx5,cx6⟩:=At.seven AX
      have zx:=AX.thaw 6
      refine sqtT 16 1 ?_
      (repeat (first | refine sqk ?_ | refine sqc ?_ (hc:=by intro w2 hS;first | with_reducible exact qaB hS (fbegins1 _ _ _ _ _ _ _ _ _ _ _ _ _ Z49)) | refine sqv ?_))
      refine Drawn.seq_tail ?_;intro w2 hS
      replace AP:=AP.keep hS
      replace AX:=AX.keep hS
      replace A1:=A1.keep hS
      replace A2:=BxAt.keep A2 hS
      replace hb10:=Below.after2 hb10 (Nat.le_refl _) hS
      clear hS lr cr0 cr1 cr2 cr3 cr4 cr5 lx cx0 cx1 cx2 cx3 cx4 cx5 cx6 zx
      obtain ⟨lx,cx0,cx1,cx2,cx3,cx4,cx5,cx6⟩:=At.seven AX
      have zx:=AX.thaw 6
      refine tkT ?_;intro K hK;go_simp;refine hK _ _ (Drawn.text_nil ?_);clear hK K
      (try rw [hx1])
      generalize hW:World.setCell _ _ _=V1
      replace AX:At V1 Tx (.cells #[.int .i64 yi,.int .i64 y0,.int .i64 y1,.int .i64 ys0,.int .i64 ys1,.int .i64 x0,.int .i64 x1] 94):=hW ▸ At.set AX 6 _
      replace AP:=hW ▸ At.off AP nrx 6 _
      replace A1:=hW ▸ At.off A1 n1x 6 _
      replace A2:BxAt V1 bk sk vf va ib:=hW ▸ At.off A2 nbx 6 _
      replace hb10:Below w9.heap.size w9 V1:=by rw [← hW];exact Below.setCell hb10 gTx _
      clear hW lx cx0 cx1 cx2 cx3 cx4 cx5 cx6 zx
      go_wp2
      rw [rounds_succ]
      obtain ⟨lx,cx0,cx1,cx2,cx3,cx4,cx5,cx6⟩:=At.seven AX
      obtain ⟨l1,c1_0,c1_1,c1_2,c1_3,c1_4,c1_5,c1_6⟩:=At.seven A1
      have z1_0:=A1.thaw 0
      have z1_1:=A1.thaw 1
      have z1_2:=A1.thaw 2
      have z1_3:=A1.thaw 3
      have z1_4:=A1.thaw 4
      have z1_5:=A1.thaw 5
      have z1_6:=A1.thaw 6
      clear hx0 hx1
      have hO10:Out (fun b=>b=w.heap.size + 1) w9 V1:=Out.of_below hb10
      go_wp2
      generalize hW:World.setCell _ _ _=V5
      have A3:At V5 (w.heap.size + 1) (.cells #[.int .i64 yi,.int .i64 y0,.int .i64 y1,.int .i64 ys0,.int .i64 ys1,.int .i64 x0,.int .i64 x1] 94):=hW ▸ At.set (At.set (At.set (At.set (At.set (At.set (At.set A1 0 _) 1 _) 2 _) 3 _) 4 _) 5 _) 6 _
      have hO11:Out (fun b=>b=w.heap.size + 1) w9 V5:=by
       rw [← hW]
       exact Out.set (Out.set (Out.set (Out.set (Out.set (Out.set (Out.set hO10 rfl _ _) rfl _ _) rfl _ _) rfl _ _) rfl _ _) rfl _ _) rfl _ _
      clear hW l1 c1_0 c1_1 c1_2 c1_3 c1_4 c1_5 c1_6 z1_0 z1_1 z1_2 z1_3 z1_4 z1_5 z1_6
      obtain ⟨l1,c1_0,c1_1,c1_2,c1_3,c1_4,c1_5,c1_6⟩:=At.seven A3
      have hwl:=HSW.out.size
      have hPl:=HSW.out.lt
      have hS12:LSt Y B F w0 P0 n' P' V5:=hS9.own hO11 fun b hb e=>by
       subst e
       refine ⟨fun h => ?_,by omega⟩
       have:=hPl _ (hP9 _ Z3f h)
       omega
      have hOf:Out (fun b=>b=Y.pm) w V5:=Out.trans' ((Out.of_below (M:=fun b=>b=Y.pm) hB).trans hO9) hO11 fun b hb e=>by
       subst e
       omega
      have HP:Hid (∀ b,b<w.heap.size→P' b→P b):=Lib.hid fun b hb h=>hP9 b Z3f h
      rw [HANS.out.1,HANS.out.2]
      clear hPl
      refine bodyPost_ret (v:= .agg #[.int .i64 _,.int .i64 _,.int .i64 _,.int .i64 _,.int .i64 _,.int .i64 _,.int .i64 _]) (by simp [results,Tryz.results73,go_sem, *];first | done | exact ⟨rfl,rfl⟩ | exact ⟨rfl,rfl,rfl,rfl,rfl,rfl,rfl⟩ | rfl) rfl ⟨rfl,n',hn',P',hS12,HP.out,hOf⟩
end
end Go.Proofs.YteggipnplbkijaaGreat.Fix
namespace Go.Proofs.YteggipnplbkijaaGreat.Fw
theorem cont_ids (B:Int→Bx) (f:Nat) (z i0 i1:Int) (h:f=0→(B z).fl=[]):(cont B f z i0 i1).1.map (·.id)=(B z).fl:=by
 cases f with
 | zero=>rw [h rfl];rfl
 | succ f =>
   simp only [cont]
   split
   · rename_i e;rw [e];rfl
   · simp only [List.map_map]
     have e:((fun x=>x.id) ∘ mv B i0 i1)=fun x:Ld=>x.id:=funext fun x=>by simp only [Function.comp,mv];split <;> rfl
     rw [e]
     exact kind_ids B f z i0 i1
def Laid (B:Int→Bx) (f:Nat) (x:Ld):Prop:=∃ k r0 r1 t0 t1,x.i0=(lay B f k r0 r1 t0 t1).i0∧x.i1=(lay B f k r0 r1 t0 t1).i1
theorem Laid.same {B:Int→Bx} {f:Nat} {x y:Ld} (h:Laid B f y) (h0:x.i0=y.i0) (h1:x.i1=y.i1):Laid B f x:=by
 obtain ⟨k,r0,r1,t0,t1,q0,q1⟩:=h
 exact ⟨k,r0,r1,t0,t1,h0.trans q0,h1.trans q1⟩
theorem Laid.moved {B:Int→Bx} {f:Nat} {y:Ld} (h:Laid B f y) (a b:Int):Laid B f { y with a0:=a,a1:=b }:=h.same rfl rfl
theorem Laid.moved0 {B:Int→Bx} {f:Nat} {y:Ld} (h:Laid B f y) (a:Int):Laid B f { y with a0:=a }:=h.same rfl rfl
theorem Laid.moved1 {B:Int→Bx} {f:Nat} {y:Ld} (h:Laid B f y) (a:Int):Laid B f { y with a1:=a }:=h.same rfl rfl
theorem lay_laid (B:Int→Bx) (f:Nat) (k r0 r1 t0 t1:Int):Laid B f (lay B f k r0 r1 t0 t1):=⟨k,r0,r1,t0,t1,rfl,rfl⟩
theorem rowLine_laid (B:Int→Bx) (f:Nat) (z i0 i1 high:Int) (ks:List Int):∀ x ∈ (rowLine B (lay B f) z i0 i1 high ks).1,Laid B f x:=by
 unfold rowLine
 simp only []
 intro x hx
 obtain ⟨i,hi,rfl⟩:=List.mem_mapIdx.1 hx
 refine Laid.moved ?_ _ _
 have hm:=List.getElem_mem hi
 generalize (_:List Ld)[i]=y at hm ⊢
 split at hm
 · obtain ⟨u,hu,rfl⟩:=List.mem_map.1 hm
   obtain ⟨j,hj,rfl⟩:=List.mem_mapIdx.1 hu
   split
   · exact lay_laid _ _ _ _ _ _ _
   · exact lay_laid _ _ _ _ _ _ _
 · obtain ⟨j,hj,rfl⟩:=List.mem_mapIdx.1 hm
   exact lay_laid _ _ _ _ _ _ _
theorem rowLines_laid (B:Int→Bx) (f:Nat) (z i0 i1 high:Int) (fl:List Int):∀ (ps:List (Nat × Nat)) (fst:Bool) (y:Int),∀ x ∈ (rowLines B (lay B f) z i0 i1 high fl fst y ps).1,Laid B f x:=by
 intro ps
 induction ps with
 | nil=>intro fst y x hx;simp [rowLines] at hx
 | cons p ps ih =>
   intro fst y x hx
   simp only [rowLines,List.mem_append,List.mem_map] at hx
   rcases hx with ⟨u,hu,rfl⟩ | hx
   · exact rowLine_laid B f z i0 i1 high _ u hu
   · exact ih _ _ x hx
theorem kind_laid (B:Int→Bx) (f:Nat) (z i0 i1:Int):∀ x ∈ (kind B (lay B f) f z i0 i1).1,Laid B f x:=by
 unfold kind
 split
 · unfold mrow;exact rowLines_laid B f z i0 i1 _ _ _ _ _
 · split
   · unfold mcolumn
     intro x hx
     simp only [] at hx
     obtain ⟨i,hi,rfl⟩:=List.mem_mapIdx.1 hx
     refine Laid.moved ?_ _ _
     simp only [List.getElem_mapIdx]
     exact lay_laid _ _ _ _ _ _ _
   · unfold mblock
     intro x hx
     simp only [] at hx
     obtain ⟨i,hi,rfl⟩:=List.mem_mapIdx.1 hx
     refine Laid.moved1 ?_ _
     simp only [List.getElem_map,blkKid]
     exact (lay_laid B f _ _ _ _ _).moved0 _
theorem cont_laid (B:Int→Bx) (f:Nat) (z i0 i1:Int):∀ x ∈ (cont B (f + 1) z i0 i1).1,Laid B f x:=by
 intro x hx
 simp only [cont] at hx
 split at hx
 · simp at hx
 · obtain ⟨u,hu,rfl⟩:=List.mem_map.1 hx
   obtain ⟨k,r0,r1,t0,t1,h1,h2⟩:=kind_laid B f z i0 i1 u hu
   refine ⟨k,r0,r1,t0,t1,?_,?_⟩
   · rw [← h1];unfold mv;split <;> rfl
   · rw [← h2];unfold mv;split <;> rfl
theorem laid_bd {B:Int→Bx} {f:Nat} {x:Ld} (h:Laid B f x):(-1≤x.i0∧x.i0≤9223372036854775807) ∧ -1≤x.i1∧x.i1≤9223372036854775807:=by
 obtain ⟨k,r0,r1,t0,t1,h1,h2⟩:=h
 rw [h1,h2]
 exact ⟨wth_bd _ _ _ _ _,wth_bd _ _ _ _ _⟩
end Go.Proofs.YteggipnplbkijaaGreat.Fw
namespace Go.Proofs.YteggipnplbkijaaGreat.Fix
open Go.ChangeShapes Go.WideShapes Go.ChangeAt Go.RowKit
structure Pt where
 q0:Int
 q1:Int
 r0:Int
 r1:Int
 d0:Int
 d1:Int
def ptOf (sk s:Re.St) (ww wh s0 s1:Int):Pt:=if sk.c 1=3 then ⟨0,0,ww,wh,0,0⟩ else ⟨s.c 38,s.c 35,Fw.wr (s0 - Fw.wr (s.c 38 + s.c 36)),Fw.wr (s1 - Fw.wr (s.c 35 + s.c 37)),s.c 34,s.c 31⟩
theorem prt_of (sk s:Re.St) (ww wh s0 s1:Int):prt sk s ww wh s0 s1=#[.int .i64 (ptOf sk s ww wh s0 s1).q0,.int .i64 (ptOf sk s ww wh s0 s1).q1,.int .i64 (ptOf sk s ww wh s0 s1).r0,.int .i64 (ptOf sk s ww wh s0 s1).r1,.int .i64 (ptOf sk s ww wh s0 s1).d0,.int .i64 (ptOf sk s ww wh s0 s1).d1]:=by
 unfold prt ptOf
 split <;> rfl
def aprt (B:Int→Fw.Bx) (ww wh:Int) (f:Nat) (k:Int) (up:Fw.Ld):Fw.Ld :=
 let sk:=(B k).sty
 let p:=ptOf sk (B up.id).sty ww wh up.s0 up.s1
 let ly:=Fw.lay B f k p.r0 p.r1 (apS sk p.r0) (spn sk 1 p.r1 p.r0)
 { ly with a0:=Fw.wr (p.q0 + bgn sk 0 p.r0 p.r0 p.d0 ly.s0),a1:=Fw.wr (p.q1 + bgn sk 1 p.r1 p.r0 p.d1 ly.s1) }
def edg (s:Re.St) (k:Fw.Ld):Fw.Ld:={ k with a0:=Fw.wr (k.a0 + Fw.ed s 3),a1:=Fw.wr (k.a1 + Fw.ed s 0) }
def tl (B:Int→Fw.Bx) (ww wh:Int):Nat→Fw.Ld→List Fw.Ld
 | 0,x=>[x]
 | f + 1,x=>x :: (((Fw.cont B (f + 1) x.id x.i0 x.i1).1.flatMap fun k=>tl B ww wh f (edg (B x.id).sty k)) ++ ((B x.id).ap.flatMap fun k=>tl B ww wh f (aprt B ww wh f k x)))
def tcst (B:Int→Fw.Bx):Nat→Int→Nat
 | 0,_=>1
 | f + 1,z=>Fw.cst B (f + 1) z + ((B z).fl.map (tcst B f)).sum + ((B z).ap.map fun k=>Fw.cst B f k + tcst B f k).sum
def rcv (x:Fw.Ld):Value:= .agg #[.int .i64 (Fx.cut x.a0),.int .i64 (Fx.cut x.a1),.int .i64 (Fx.cut x.s0),.int .i64 (Fx.cut x.s1)]
noncomputable def gputs (g:Lit→Option Value) (l:List Fw.Ld):Lit→Option Value:=l.foldl (fun g x=>gset g (.int .i64 x.id) (rcv x)) g
theorem gputs_append (g:Lit→Option Value) (l m:List Fw.Ld):gputs g (l ++ m)=gputs (gputs g l) m:=List.foldl_append
section
variable {Y:Lyt} {B:Int→Fw.Bx} {F:Int→Nat} {D:Int→Prop} {W W':World} {n n' nr nr':Nat} {P P':Nat→Prop} {g g':Lit→Option Value}
theorem RO.fresh2 (hrb:Y.rm≠Y.bm) (hrk:Y.rm≠Y.km) (hrm:∃ es ck,At W Y.rm (.map es ck)) (h:RO W Y B D KMp) (k:Out (fun b=>b=Y.pm∨b=Y.rm∨W.heap.size≤b) W W') (hp:∃ es ck,At W' Y.pm (.map es ck)):RO W' Y B D KMp:=by
 have hkm:=h.kinds.lt
 obtain ⟨es0,ck0,hpm⟩:=h.pmo
 obtain ⟨es1,ck1,hrm⟩:=hrm
 have cell:∀ {b:Nat} {cs:Array Value} {T:TypeId},At W b (.cells cs T)→¬ (b=Y.pm∨b=Y.rm∨W.heap.size≤b):=fun {b cs T} ha q=>by
  rcases q with rfl | rfl | q
  · have:=At.uniq ha hpm;cases this
  · have:=At.uniq ha hrm;cases this
  · exact absurd ha.lt Z3f
 have ks:∀ {v:Value} {l:List Int},KS W v l→KS W' v l:=fun {v l} hk=>hk.out (fun g hg q=>by
  obtain ⟨cur,ha⟩:=hk.rowAt hg
  exact cell ha q) k
 refine ⟨h.lay.out (cell h.lay) k,?_,fun z hz => ?_,?_,h.wf,hp,h.pmb,h.pmk,h.pmr⟩
 · obtain ⟨n,g,h1,h2⟩:=h.boxes
   exact ⟨n,g,h1.out (fun q=>by
    rcases q with q | q | q
    · exact h.pmb q.symm
    · exact hrb q.symm
    · exact absurd h1.lt Z3f) k,h2⟩
 · obtain ⟨h1,h2,h3⟩:=h.box z hz
   exact ⟨At.out h1 (cell h1) k,ks h2,ks h3⟩
 · refine KMp.out _ _ _ h.kinds ⟨k.1,fun b hb hn => ?_⟩
   have hb':b=Y.km:=Classical.byContradiction hn
   subst hb'
   exact k.2 _ hb (fun q=>by
    rcases q with q | q | q
    · exact h.pmk q.symm
    · exact hrk q.symm
    · omega)
structure TS (Y:Lyt) (B:Int→Fw.Bx) (F:Int→Nat) (D:Int→Prop) (w:World) (P:Nat→Prop) (n':Nat) (P':Nat→Prop) (nr':Nat) (g':Lit→Option Value) (W:World):Prop where
 ro:RO W Y B D KMp
 kp:Kp Y B F n' P' W
 lt:∀ b,P' b→b<W.heap.size
 new:∀ b,P' b→P b∨w.heap.size≤b
 nrm:¬ P' Y.rm
 gm:GM 3 W Y.rm nr' g'
 out:Out (fun b=>b=Y.pm∨b=Y.rm∨w.heap.size≤b) w W
variable {w:World}
theorem TS.size (h:TS Y B F D w P n' P' nr' g' W):w.heap.size≤W.heap.size:=h.out.size
theorem TS.own {M:Nat→Prop} (h:TS Y B F D w P n' P' nr' g' W) (hrb:Y.rm≠Y.bm) (hrk:Y.rm≠Y.km) (hR:RO w Y B D KMp) (hrm:∃ es ck,At w Y.rm (.map es ck)) (k:Out M W W') (hm:∀ b,b<W.heap.size→M b→¬ P' b∧w.heap.size≤b) (hr:Y.rm<w.heap.size):TS Y B F D w P n' P' nr' g' W':=by
 have hk':Kp Y B F n' P' W':=h.kp.out k fun b hb q=>(hm b (h.lt b hb) q).1 hb
 have ho:Out (fun b=>b=Y.pm∨b=Y.rm∨w.heap.size≤b) w W':=Out.trans' h.out k fun b hb q => .inr (.inr (hm b (Nat.lt_of_lt_of_le hb h.size) q).2)
 exact ⟨hR.fresh2 hrb hrk hrm ho hk'.pm.2,hk',fun b hb=>Nat.lt_of_lt_of_le (h.lt b hb) k.size,h.new,h.nrm,h.gm.out (fun q=>by have:=(hm _ (Nat.lt_of_lt_of_le hr h.size) q).2;omega) k,ho⟩
theorem TS.after (h:TS Y B F D w P n' P' nr' g' W) (hrb:Y.rm≠Y.bm) (hrk:Y.rm≠Y.km) (hR:RO w Y B D KMp) (hrm:∃ es ck,At w Y.rm (.map es ck)) (hr:Y.rm<w.heap.size) (k:Below W.heap.size W W'):TS Y B F D w P n' P' nr' g' W':=h.own hrb hrk hR hrm (M:=fun _=>False) (Out.of_below k) (fun _ _ q=>q.elim) hr
theorem TS.laid {n2:Nat} {P2:Nat→Prop} (h:TS Y B F D w P n' P' nr' g' W) (hrb:Y.rm≠Y.bm) (hrk:Y.rm≠Y.km) (hR:RO w Y B D KMp) (hrm:∃ es ck,At w Y.rm (.map es ck)) (hr:Y.rm<w.heap.size) (hK:Kp Y B F n2 P2 W') (hP:∀ b,P2 b→P' b∨W.heap.size≤b) (k:Out (fun b=>b=Y.pm) W W'):TS Y B F D w P n2 (fun b=>P2 b∧b<W'.heap.size) nr' g' W':=by
 have ho:Out (fun b=>b=Y.pm∨b=Y.rm∨w.heap.size≤b) w W':=Out.trans' h.out k fun b hb q => .inl q
 have hs:=h.size
 exact ⟨hR.fresh2 hrb hrk hrm ho hK.pm.2,hK.cut,fun b hb=>hb.2,fun b hb=>by
  rcases hP b hb.1 with q | q
  · exact h.new b q
  · exact .inr Z3f,fun q=>by
  rcases hP _ q.1 with q | q
  · exact h.nrm q
  · omega,h.gm.out (fun q=>hR.pmr q.symm) k,ho⟩
theorem TS.told {n2 nr2:Nat} {P2:Nat→Prop} {g2:Lit→Option Value} (h:TS Y B F D w P n' P' nr' g' W) (hrb:Y.rm≠Y.bm) (hrk:Y.rm≠Y.km) (hR:RO w Y B D KMp) (hrm:∃ es ck,At w Y.rm (.map es ck)) (hr:Y.rm<w.heap.size) (hK:Kp Y B F n2 P2 W') (hP:∀ b,P2 b→P' b∨W.heap.size≤b) (hG:GM 3 W' Y.rm nr2 g2) (k:Out (fun b=>b=Y.pm∨b=Y.rm) W W'):TS Y B F D w P n2 (fun b=>P2 b∧b<W'.heap.size) nr2 g2 W':=by
 have ho:Out (fun b=>b=Y.pm∨b=Y.rm∨w.heap.size≤b) w W':=Out.trans' h.out k fun b hb q=>by
  rcases q with q | q
  · exact .inl q
  · exact .inr (.inl q)
 have hs:=h.size
 exact ⟨hR.fresh2 hrb hrk hrm ho hK.pm.2,hK.cut,fun b hb=>hb.2,fun b hb=>by
  rcases hP b hb.1 with q | q
  · exact h.new b q
  · exact .inr Z3f,fun q=>by
  rcases hP _ q.1 with q | q
  · exact h.nrm q
  · omega,hG,ho⟩
end
def ldz:Array Value:=#[.int .i64 0,.int .i64 0,.int .i64 0,.int .i64 0,.int .i64 0,.int .i64 0,.int .i64 0]
theorem alloc_ld (W:World):(Instr.alloc 94 true (.tuple #[])).run Tryz.prog W = .ok (.pointer (some ⟨W.heap.size,0,none⟩)) (W.alloc (.cells ldz 94)):=by kernel_rfl
section
variable {ops:Array Oper} {rest:List Oper} {o:Oper} {a:Act} {w:World} {Q:Exit→Act→World→Prop}
theorem wpList_alloc_ld (hw:Region.wanted o (yielded ops a.tmps)=true) (ho:o.op = .alloc 94) (h:wpList Tryz.prog ops Q rest (a.put o.dst (.pointer (some ⟨w.heap.size,0,none⟩))) (w.alloc (.cells ldz 94))):wpList Tryz.prog ops Q (o :: rest) a w :=
 wpList_value hw (by unfold execOp;simp only [ho,Sem.run_bind,alloc_ld,Result.andThen_ok,Sem.run_pure]) h
theorem wpList_store_ld0 (hw:Region.wanted o (yielded ops a.tmps)=true) (p y:Operand) (ho:o.op = .store 94 p y) {b:Nat} (hp:a.eval p = .pointer (some ⟨b,0,none⟩)) {x:Fw.Ld} (hy:a.eval y = .agg (ldc x)) (hs:At w b (.cells ldz 94))
  (h:wpList Tryz.prog ops Q rest (a.put o.dst undef) (w.setRow b (ldc x))):wpList Tryz.prog ops Q (o :: rest) a w :=
 wpList_store_at (q:=0) siz_ld hw p y ho hp hy hs (ldc_size x) (by simp [ldz]) (ldc_one x) (by rw [splice_all (cs:=ldz) (vs:=ldc x) rfl];exact h)
end
end Go.Proofs.YteggipnplbkijaaGreat.Fix
