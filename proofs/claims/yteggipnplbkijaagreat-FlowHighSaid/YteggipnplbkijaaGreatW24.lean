/- Boxes laid by the program: what its functions do, part 24. -/
import Derived.Test.YteggipnplbkijaaGreatWK
import Derived.Test.YteggipnplbkijaaGreatW23
set_option linter.unusedVariables false
set_option linter.unusedSimpArgs false
set_option linter.unusedSectionVars false
set_option maxRecDepth 100000
namespace Go.Proofs.YteggipnplbkijaaGreat.Fix
open Go.ChangeShapes Go.WideShapes Go.ChangeAt Go.RowKit
section
variable {Y:Lyt} {B:Int→Fw.Bx} {F:Int→Nat} {D:Int→Prop} {KM:World→Nat→Prop} {f:Nat} {w:World} {P:Nat→Prop}
set_option maxHeartbeats 16000000 in
theorem fblock (hL:LayOK Y B F D KM f) (hK:∀ (X X':World) (b:Nat),KM X b→Below X.heap.size X X'→KM X' b) (hKO:∀ (X X':World) (b:Nat),KM X b→Out (fun q=>q≠b) X X'→KM X' b) (hdown:∀ z,D z→∀ k ∈ (B z).fl,D k∧F z=F k + 1) (hlen:∀ z,D z→(B z).fl.length≤10000) (hf:f≤1000) (hR0:RO w Y B D KM) (hkm:Y.km<w.heap.size)
  (z i0 i1:Int) (hz:D z) (hdn:∀ k ∈ (B z).fl,D k∧F k=f) (hne:(B z).fl≠[]) (hl:(B z).fl.length≤64) (n:Nat) (hKp:Kp Y B F n P w) (hP:∀ b,P b→b<w.heap.size) (hn:n + 2 * ((B z).fl.map (Fw.cst B f)).sum<maxLen) (xs:List Fw.Ld) (hi:Int) (hm:Fw.mblock B (Fw.lay B f) f z i0 i1=(xs,hi)) :
  Calls Tryz.prog 103 #[.pointer (some ⟨Y.lb,0,none⟩),.agg #[.int .i64 z,.int .i64 i0,.int .i64 i1]] w fun e w'=>∃ R cap cs P' n',e = .returned (.agg #[.slice (some ⟨R,0,none⟩) xs.length cap,.int .i64 hi])∧w.heap.size≤R∧At w' R (.cells cs 94)∧RowC cs xs∧n'≤n + 2 * ((B z).fl.map (Fw.cst B f)).sum∧Kp Y B F n' P' w'∧(∀ b,P' b→P b∨w.heap.size≤b)∧¬ P' R∧Out (fun b=>b=Y.pm) w w':=by
 obtain ⟨es0,ck0,hpm0⟩:=hR0.pmo
 have hpl:=hpm0.lt
 obtain ⟨fl,hfl⟩:∃ l,(B z).fl=l:=⟨_,rfl⟩
 rw [hfl] at hdn hne hl hn ⊢
 obtain ⟨s,hs⟩:∃ s,(B z).sty=s:=⟨_,rfl⟩
 obtain ⟨zib,hib⟩:∃ b,(B z).ib=b:=⟨_,rfl⟩
 obtain ⟨ks,hks⟩:∃ l,fl.map (Fw.blkKid B (Fw.lay B f) i0 i1)=l:=⟨_,rfl⟩
 obtain ⟨szl,hszl⟩:∃ l:List Int,ks.map (·.s1)=l:=⟨_,rfl⟩
 obtain ⟨tpl,htpl⟩:∃ l,(fl.map fun k=>Fx.coll (Fw.meet B 0 f k))=l:=⟨_,rfl⟩
 obtain ⟨btl,hbtl⟩:∃ l,(fl.map fun k=>Fx.coll (Fw.meet B 1 f k))=l:=⟨_,rfl⟩
 obtain ⟨first,hfirst⟩:∃ t,(if Fw.opn s zib 0=true then 0 else tpl.getD 0 0)=t:=⟨_,rfl⟩
 obtain ⟨last,hlast⟩:∃ t,(if Fw.opn s zib 1=true then 0 else btl.getD (btl.length - 1) 0)=t:=⟨_,rfl⟩
 obtain ⟨m,hmm⟩:∃ m,fl.length=m:=⟨_,rfl⟩
 have HXS:Hid (ks.mapIdx (blG first szl tpl btl)=xs∧Fw.wr (Fw.wr (first + Fx.stEnd szl tpl btl m) + last)=hi):=Lib.hid (by
  unfold Fw.mblock at hm
  simp only [hfl,hs,hib,hks,hszl,htpl,hbtl,hfirst,hlast,hmm] at hm
  injection hm with h1 h2
  exact ⟨h1,h2⟩)
 have HLK:Hid (ks.length=m):=Lib.hid (by rw [← hks,List.length_map,hmm])
 have HLS:Hid (szl.length=m):=Lib.hid (by rw [← hszl,List.length_map,HLK.out])
 have HLT:Hid (tpl.length=m):=Lib.hid (by rw [← htpl,List.length_map,hmm])
 have HLU:Hid (btl.length=m):=Lib.hid (by rw [← hbtl,List.length_map,hmm])
 have HKS:=Lib.hid hks
 have HSZ:=Lib.hid hszl
 have HTP:=Lib.hid htpl
 have HBT:=Lib.hid hbtl
 have HFI:=Lib.hid hfirst
 have HLA:=Lib.hid hlast
 have HSS:=Lib.hid hs
 have HIB:=Lib.hid hib
 have HFL:=Lib.hid hfl
 have HM:=Lib.hid hmm
 have HN:=Lib.hid hn
 have HDN:=Lib.hid hdn
 have HR0:=Lib.hid hR0
 have HDW:=Lib.hid hdown
 have HLEN:=Lib.hid hlen
 rw [hmm] at hl
 have hm0:0<m:=by rw [← hmm];exact List.length_pos_iff.2 hne
 clear hm hks hszl htpl hbtl hfirst hlast hmm hdown hlen
 have hS:=LSt.start hKp hP
 have hRw:=hR0
 obtain ⟨b0,hb0⟩:∃ b0,Y.bl z=b0:=⟨_,rfl⟩
 obtain ⟨hbx,hksz,_⟩:=hRw.box z hz
 obtain ⟨A,cp,hvf,hI,hle,hmx,hAn⟩:=hksz.ints
 have hlp:0<(B z).fl.length:=by rw [hfl];exact List.length_pos_iff.2 hne
 obtain ⟨b1,o1,rfl,lb1,_⟩:=hI.at_ hlp
 rw [hb0,hs,hib,hvf,hfl] at hbx
 have HVF:Hid (Y.vf z = .slice (some ⟨b1,o1,none⟩) m cp):=Lib.hid (by rw [hvf,hfl,HM.out])
 rw [HM.out] at hbx
 generalize Y.va z=zva at hbx
 have lb0:=hbx.lt
 have n0p:b0≠Y.pm:=fun e=>by
  rw [e] at hbx
  exact absurd (At.uniq hbx hpm0) Z3t
 have nlp:Y.lb≠Y.pm:=fun e=>by
  have h1:=hRw.lay
  rw [e] at h1
  exact absurd (At.uniq h1 hpm0) Z3t
 have b01:Below w.heap.size w ((w.alloc (.cells #[.int .i64 z,.int .i64 i0,.int .i64 i1] 92)).alloc (.cells #[.slice none 0 0,.int .i64 0] 144)):=Below.alloc' (Below.alloc' (Below.refl _ _) _) _
 have A0:At ((w.alloc (.cells #[.int .i64 z,.int .i64 i0,.int .i64 i1] 92)).alloc (.cells #[.slice none 0 0,.int .i64 0] 144)) w.heap.size (.cells #[.int .i64 z,.int .i64 i0,.int .i64 i1] 92):=At.alloc (At.new _ _) _
 have A4:At ((w.alloc (.cells #[.int .i64 z,.int .i64 i0,.int .i64 i1] 92)).alloc (.cells #[.slice none 0 0,.int .i64 0] 144)) (w.heap.size + 1) (.cells #[.slice none 0 0,.int .i64 0] 144):=At.new' _ Z3s
 have hS1:=hS.after b01
 have hlw:=hRw.keep hK b01
 have HBZ:=Lib.hid (BxAt.keep hbx b01)
 clear hdn hR0 hRw hS hpm0 hs hib hbx hfl hKp hn hksz hI hle hmx hAn hvf hlp lb1
 go_enter Tryz.func103,Tryz.ntmps103
 go_upto_region 1 with (fail)
 generalize (w.alloc (.cells #[.int .i64 z,.int .i64 i0,.int .i64 i1] 92)).alloc (.cells #[.slice none 0 0,.int .i64 0] 144)=w1 at *
 have A4lt:=A4.lt
 have hsz:=b01.size
 have hlk:=fun X (h:Below w1.heap.size w1 X)=>(hlw.keep hK h).look hz
 simp only [hb0] at hlk
 obtain ⟨lY,cY0,cY1,cY2,cY3,cY4,cY5⟩:=At.six hlw.lay
 obtain ⟨l0,c0_0,c0_1,c0_2⟩:=At.three A0
 have hSd:Below w1.heap.size w1 w1.drew:=Below.drew (Below.refl _ _)
 refine tkX (S:=fun X=>Below w1.heap.size w1 X) 8 ?_ ?_
 · exact hSd
 intro hx
 clear hSd
 refine tkB 0 ?_
 refine tkB 1 ?_
 refine tkB 2 ?_
 refine tkB 3 ?_
 refine tkB 4 ?_
 refine tkB 5 ?_
 refine tkR 6 rfl (reads_lookup Z3n rfl rfl rfl (fun X h=>hlk X h)) ?_
 refine tkB 7 ?_
 refine tkE ?_
 have hx2:Below w1.heap.size w1 w1.drew:=hx
 generalize w1.drew=w3 at *
 have hsz3:=hx2.size
 have hS3:=hS1.after hx2
 have B3:=A0.keep hx2
 have C3:=A4.keep hx2
 have HBZ3:=Lib.hid (BxAt.keep HBZ.out hx2)
 clear b01 A0 A4 hS1 hlw hlk cY0 cY1 cY2 cY3 cY4 cY5 lY hx hb0 HBZ l0 c0_0 c0_1 c0_2 hx2
 obtain ⟨csR,hmk,hcsR⟩:=make_ld w3 m Z3f
 have HMK:=Lib.hid hmk
 have HCR:=Lib.hid hcsR
 have lbz:=BxAt.lt HBZ3.out
 have c71:w3.cell? ⟨b0,71,none⟩=some (.slice (some ⟨b1,o1,none⟩) m cp):=BxAt.ext HBZ3.out 16
 have hbld:∀ b X,(Instr.build 144 #[(0,.slice (some ⟨b,0,none⟩) m m)]).run Tryz.prog X = .ok (.agg #[.slice (some ⟨b,0,none⟩) m m,.int .i64 0]) X:=fun b X=>by kernel_rfl
 clear hmk hcsR
 go_upto_region 3 with (refine wpList_make_run Z3n _ _ 142 rfl HMK.out ?_)
 generalize hW:World.alloc _ _=w4
 obtain ⟨R,hR⟩:∃ b,w3.heap.size=b:=⟨_,rfl⟩
 have AR:At w4 R (.cells csR 94):=hW ▸ At.alloc (At.new' _ hR.symm) _
 have AC:At w4 (R + 1) (.cells #[.slice (some ⟨R,0,none⟩) m m,.int .i64 0] 144):=by
  rw [← hW, ← hR]
  exact At.new' _ Z3t
 have hb4:Below w3.heap.size w3 w4:=hW ▸ Below.alloc' (Below.alloc' (Below.refl _ _) _) _
 rw [hR]
 have hS4:=hS3.after hb4
 have B4:=B3.keep hb4
 have C4:=C3.keep hb4
 have HBZ4:=Lib.hid (BxAt.keep HBZ3.out hb4)
 have gR:w.heap.size + 1<R:=by omega
 have hsz4:=hb4.size
 have gRs:R + 1<w4.heap.size:=AC.lt
 clear hW hR hb4 hS3 B3 C3 HBZ3 c71 lbz hbld HMK
 have lbz:=BxAt.lt HBZ4.out
 have c71:w4.cell? ⟨b0,71,none⟩=some (.slice (some ⟨b1,o1,none⟩) m cp):=BxAt.ext HBZ4.out 16
 refine Drawn.wp_behind (fun a0 a W5=>∃ (Ts Tv Tu:Nat) (u33 u34 u35 u36 u37 u38 u39 u40 u41 u42 u43 u44 u45 u46 u47 u48 u49 u50:Value),a={ a0 with tmps:=((((((((((((((((((((a0.tmps.setIfInBounds 33 u33).setIfInBounds 34 u34).setIfInBounds 35 u35).setIfInBounds 36 u36).setIfInBounds 37 u37).setIfInBounds 38 u38).setIfInBounds 39 u39).setIfInBounds 40 u40).setIfInBounds 41 u41).setIfInBounds 42 u42).setIfInBounds 43 u43).setIfInBounds 44 u44).setIfInBounds 45 u45).setIfInBounds 46 u46).setIfInBounds 47 u47).setIfInBounds 48 u48).setIfInBounds 49 u49).setIfInBounds 50 u50).setIfInBounds 7 (.slice (some ⟨Ts,0,none⟩) m m)).setIfInBounds 8 (.slice (some ⟨Tv,0,none⟩) m m)).setIfInBounds 9 (.slice (some ⟨Tu,0,none⟩) m m) }∧(w4.heap.size≤Ts∧w4.heap.size≤Tv∧w4.heap.size≤Tu)∧(Ts≠Tv∧Ts≠Tu∧Tv≠Tu)∧At W5 Ts (.cells (stRow (fun i=>szl.getD i 0) m 0) 3)∧At W5 Tv (.cells (stRow (fun i=>tpl.getD i 0) m 0) 3)∧At W5 Tu (.cells (stRow (fun i=>btl.getD i 0) m 0) 3)∧Below w4.heap.size w4 W5) ?_ ?_
 · have hSd:Below w4.heap.size w4 w4.drew:=Below.drew (Below.refl _ _)
   refine tkX (S:=fun X=>Below w4.heap.size w4 X) 21 ?_ ?_
   · exact hSd
   intro hx
   clear hSd
   refine tkB 0 ?_
   refine tkB 1 ?_
   refine tkB 2 ?_
   refine tkB 3 ?_
   refine tkB 4 ?_
   refine tkB 6 ?_
   refine tkB 7 ?_
   refine tkB 8 ?_
   refine tkB 9 ?_
   refine tkB 10 ?_
   refine tkB 12 ?_
   refine tkB 13 ?_
   refine tkB 14 ?_
   refine tkB 15 ?_
   refine tkB 16 ?_
   clear c71 lbz AR AC B4 C4 HBZ4 hS4
   refine Drawn.gen_3 (i:=5) (j:=11) (k:=17) Z3q rfl rfl rfl Z3n Z3n Z3n ?_ ?_ ?_
   · refine Drawn.Step.value (exec_make_int (fun i=>szl.getD i 0) (n:=m) (.tmp 37) (.tmp 37) rfl rfl rfl Z3f) ?_
     obtain ⟨x11,hw9,As,hb⟩:∃ w9,w9=w4.drew.alloc (.cells (stRow (fun i=>szl.getD i 0) m 0) 3)∧At w9 w4.drew.heap.size (.cells (stRow (fun i=>szl.getD i 0) m 0) 3)∧Below w4.drew.heap.size w4.drew w9:=⟨_,rfl,At.new _ _,Below.alloc' (Below.refl _ _) _⟩
     rw [← hw9]
     clear hw9
     have gs:=hx.size
     obtain ⟨Ts,hTs⟩:∃ q,w4.drew.heap.size=q:=⟨_,rfl⟩
     rw [hTs] at As gs
     rw [hTs]
     clear hTs
     replace hx:=Below.after2 hx (Nat.le_refl _) hb
     clear hb
     refine ⟨fun _=>hx,?_⟩
     (try simp only [tkp,tka,tkz,tks])
     refine tkB 18 ?_
     refine tk2 11 17 ?_ ?_
     · refine Drawn.Step.value (exec_make_int (fun i=>tpl.getD i 0) (n:=m) (.tmp 43) (.tmp 43) rfl rfl rfl Z3f) ?_
       obtain ⟨x12,hw9,Av,hb⟩:∃ w9,w9=x11.alloc (.cells (stRow (fun i=>tpl.getD i 0) m 0) 3)∧At w9 x11.heap.size (.cells (stRow (fun i=>tpl.getD i 0) m 0) 3)∧Below x11.heap.size x11 w9:=⟨_,rfl,At.new _ _,Below.alloc' (Below.refl _ _) _⟩
       rw [← hw9]
       clear hw9
       have gv:=hx.size
       obtain ⟨Tv,hTv⟩:∃ q,x11.heap.size=q:=⟨_,rfl⟩
       rw [hTv] at Av gv
       rw [hTv]
       have nsv:Ts<Tv:=by have:=As.lt;omega
       replace As:=As.keep hb
       clear hTv
       replace hx:=Below.after2 hx (Nat.le_refl _) hb
       clear hb
       refine ⟨fun _=>hx,?_⟩
       (try simp only [tkp,tka,tkz,tks])
       exact Z11
     · refine Drawn.Step.value (exec_make_int (fun i=>btl.getD i 0) (n:=m) (.tmp 49) (.tmp 49) rfl rfl rfl Z3f) ?_
       obtain ⟨x12,hw9,Au,hb⟩:∃ w9,w9=x11.alloc (.cells (stRow (fun i=>btl.getD i 0) m 0) 3)∧At w9 x11.heap.size (.cells (stRow (fun i=>btl.getD i 0) m 0) 3)∧Below x11.heap.size x11 w9:=⟨_,rfl,At.new _ _,Below.alloc' (Below.refl _ _) _⟩
       rw [← hw9]
       clear hw9
       have gu:=hx.size
       obtain ⟨Tu,hTu⟩:∃ q,x11.heap.size=q:=⟨_,rfl⟩
       rw [hTu] at Au gu
       rw [hTu]
       have nsu:Ts<Tu:=by have:=As.lt;omega
       replace As:=As.keep hb
       clear hTu
       replace hx:=Below.after2 hx (Nat.le_refl _) hb
       clear hb
       refine ⟨fun _=>hx,?_⟩
       (try simp only [tkp,tka,tkz,tks])
       exact Z12
   · refine Drawn.Step.value (exec_make_int (fun i=>tpl.getD i 0) (n:=m) (.tmp 43) (.tmp 43) rfl rfl rfl Z3f) ?_
     obtain ⟨x11,hw9,Av,hb⟩:∃ w9,w9=w4.drew.alloc (.cells (stRow (fun i=>tpl.getD i 0) m 0) 3)∧At w9 w4.drew.heap.size (.cells (stRow (fun i=>tpl.getD i 0) m 0) 3)∧Below w4.drew.heap.size w4.drew w9:=⟨_,rfl,At.new _ _,Below.alloc' (Below.refl _ _) _⟩
     rw [← hw9]
     clear hw9
     have gv:=hx.size
     obtain ⟨Tv,hTv⟩:∃ q,w4.drew.heap.size=q:=⟨_,rfl⟩
     rw [hTv] at Av gv
     rw [hTv]
     clear hTv
     replace hx:=Below.after2 hx (Nat.le_refl _) hb
     clear hb
     refine ⟨fun _=>hx,?_⟩
     (try simp only [tkp,tka,tkz,tks])
     refine tk2 5 17 ?_ ?_
     · refine Drawn.Step.value (exec_make_int (fun i=>szl.getD i 0) (n:=m) (.tmp 37) (.tmp 37) rfl rfl rfl Z3f) ?_
       obtain ⟨x12,hw9,As,hb⟩:∃ w9,w9=x11.alloc (.cells (stRow (fun i=>szl.getD i 0) m 0) 3)∧At w9 x11.heap.size (.cells (stRow (fun i=>szl.getD i 0) m 0) 3)∧Below x11.heap.size x11 w9:=⟨_,rfl,At.new _ _,Below.alloc' (Below.refl _ _) _⟩
       rw [← hw9]
       clear hw9
       have gs:=hx.size
       obtain ⟨Ts,hTs⟩:∃ q,x11.heap.size=q:=⟨_,rfl⟩
       rw [hTs] at As gs
       rw [hTs]
       have nsv:Tv<Ts:=by have:=Av.lt;omega
       replace Av:=Av.keep hb
       clear hTs
       replace hx:=Below.after2 hx (Nat.le_refl _) hb
       clear hb
       refine ⟨fun _=>hx,?_⟩
       (try simp only [tkp,tka,tkz,tks])
       refine tkB 18 ?_
       exact Z11
     · refine Drawn.Step.value (exec_make_int (fun i=>btl.getD i 0) (n:=m) (.tmp 49) (.tmp 49) rfl rfl rfl Z3f) ?_
       obtain ⟨x12,hw9,Au,hb⟩:∃ w9,w9=x11.alloc (.cells (stRow (fun i=>btl.getD i 0) m 0) 3)∧At w9 x11.heap.size (.cells (stRow (fun i=>btl.getD i 0) m 0) 3)∧Below x11.heap.size x11 w9:=⟨_,rfl,At.new _ _,Below.alloc' (Below.refl _ _) _⟩
       rw [← hw9]
       clear hw9
       have gu:=hx.size
       obtain ⟨Tu,hTu⟩:∃ q,x11.heap.size=q:=⟨_,rfl⟩
       rw [hTu] at Au gu
       rw [hTu]
       have nuv:Tv<Tu:=by have:=Av.lt;omega
       replace Av:=Av.keep hb
       clear hTu
       exact Zw
   · refine Drawn.Step.value (exec_make_int (fun i=>btl.getD i 0) (n:=m) (.tmp 49) (.tmp 49) rfl rfl rfl Z3f) ?_
     obtain ⟨x11,hw9,Au,hb⟩:∃ w9,w9=w4.drew.alloc (.cells (stRow (fun i=>btl.getD i 0) m 0) 3)∧At w9 w4.drew.heap.size (.cells (stRow (fun i=>btl.getD i 0) m 0) 3)∧Below w4.drew.heap.size w4.drew w9:=⟨_,rfl,At.new _ _,Below.alloc' (Below.refl _ _) _⟩
     rw [← hw9]
     clear hw9
     have gu:=hx.size
     obtain ⟨Tu,hTu⟩:∃ q,w4.drew.heap.size=q:=⟨_,rfl⟩
     rw [hTu] at Au gu
     rw [hTu]
     clear hTu
     replace hx:=Below.after2 hx (Nat.le_refl _) hb
     clear hb
     refine ⟨fun _=>hx,?_⟩
     (try simp only [tkp,tka,tkz,tks])
     refine tk2 5 11 ?_ ?_
     · refine Drawn.Step.value (exec_make_int (fun i=>szl.getD i 0) (n:=m) (.tmp 37) (.tmp 37) rfl rfl rfl Z3f) ?_
       obtain ⟨x12,hw9,As,hb⟩:∃ w9,w9=x11.alloc (.cells (stRow (fun i=>szl.getD i 0) m 0) 3)∧At w9 x11.heap.size (.cells (stRow (fun i=>szl.getD i 0) m 0) 3)∧Below x11.heap.size x11 w9:=⟨_,rfl,At.new _ _,Below.alloc' (Below.refl _ _) _⟩
       rw [← hw9]
       clear hw9
       have gs:=hx.size
       obtain ⟨Ts,hTs⟩:∃ q,x11.heap.size=q:=⟨_,rfl⟩
       rw [hTs] at As gs
       rw [hTs]
       have nsu:Tu<Ts:=by have:=Au.lt;omega
       replace Au:=Au.keep hb
       clear hTs
       replace hx:=Below.after2 hx (Nat.le_refl _) hb
       clear hb
       refine ⟨fun _=>hx,?_⟩
       (try simp only [tkp,tka,tkz,tks])
       refine tkB 18 ?_
       exact Z12
     · refine Drawn.Step.value (exec_make_int (fun i=>tpl.getD i 0) (n:=m) (.tmp 43) (.tmp 43) rfl rfl rfl Z3f) ?_
       obtain ⟨x12,hw9,Av,hb⟩:∃ w9,w9=x11.alloc (.cells (stRow (fun i=>tpl.getD i 0) m 0) 3)∧At w9 x11.heap.size (.cells (stRow (fun i=>tpl.getD i 0) m 0) 3)∧Below x11.heap.size x11 w9:=⟨_,rfl,At.new _ _,Below.alloc' (Below.refl _ _) _⟩
       rw [← hw9]
       clear hw9
       have gv:=hx.size
       obtain ⟨Tv,hTv⟩:∃ q,x11.heap.size=q:=⟨_,rfl⟩
       rw [hTv] at Av gv
       rw [hTv]
       have nuv:Tu<Tv:=by have:=Au.lt;omega
       replace Au:=Au.keep hb
       clear hTv
       exact Zw
 · rintro a W5 ⟨Ts,Tv,Tu,u33,u34,u35,u36,u37,u38,u39,u40,u41,u42,u43,u44,u45,u46,u47,u48,u49,u50,rfl,⟨gs,gv,gu⟩,⟨nsv,nsu,nvu⟩,As,Av,Au,hb5⟩
   simp only [List.setIfInBounds_toArray,List.set_cons_zero,List.set_cons_succ]
   have hS5:=hS4.after hb5
   have AR5:=AR.keep hb5
   have AC5:=AC.keep hb5
   have B5:=B4.keep hb5
   have C5:=C4.keep hb5
   have HBZ5:=Lib.hid (BxAt.keep HBZ4.out hb5)
   have hsz5:=hb5.size
   clear c71 lbz hS4 AR AC B4 C4 HBZ4 hb5
   have lbz:=BxAt.lt HBZ5.out
   have c71:W5.cell? ⟨b0,71,none⟩=some (.slice (some ⟨b1,o1,none⟩) m cp):=BxAt.ext HBZ5.out 16
   go_upto_region 5 with (fail)
   clear c71 lbz
   obtain ⟨N5,hN5⟩:∃ N,W5.heap.size=N:=⟨_,rfl⟩
   have lRq:=AC5.lt
   have ls5:Ts<N5:=by have:=As.lt;omega
   have lv5:Tv<N5:=by have:=Av.lt;omega
   have lu5:Tu<N5:=by have:=Au.lt;omega
   have lR5:R + 1<N5:=by omega
   have n0w:b0<w.heap.size:=lb0
   have HN5:=Lib.hid hN5
   have hP5:=Lib.hid (show ∀ b,P b→b<w.heap.size from hP)
   have HRC0:Hid (csR.size=m * 7∧RowC csR (ks.take 0)):=Lib.hid ⟨HCR.out,by simp [RowC]⟩
   clear hN5 lRq
   go_loopw [56] (fun iv wr=>∃ (k n':Nat) (P':Nat→Prop) (cs:Array Value),k≤m∧iv = .int .i64 k∧n'≤n + csf B f fl k∧LSt Y B F w P n' P' wr∧Hid (∀ b,b<N5→P' b→P b)∧N5≤wr.heap.size∧At wr R (.cells cs 94)∧Hid (cs.size=m * 7∧RowC cs (ks.take k))∧At wr (R + 1) (.cells #[.slice (some ⟨R,0,none⟩) m m,.int .i64 0] 144)∧Hid (At wr Ts (.cells (stRow (fun i=>szl.getD i 0) m k) 3))∧Hid (At wr Tv (.cells (stRow (fun i=>tpl.getD i 0) m k) 3))∧Hid (At wr Tu (.cells (stRow (fun i=>btl.getD i 0) m k) 3))∧At wr w.heap.size (.cells #[.int .i64 z,.int .i64 i0,.int .i64 i1] 92)∧At wr (w.heap.size + 1) (.cells #[.slice none 0 0,.int .i64 0] 144)∧Hid (BxAt wr b0 s (.slice (some ⟨b1,o1,none⟩) m cp) zva zib)) (fun iv _=>m - (intOf iv).toNat)
   case atStart=>exact ⟨0,n,P,csR,Nat.zero_le _,rfl,by omega,hS5,Lib.hid fun b _ h=>h,by rw [HN5.out];exact Nat.le_refl _,AR5,HRC0,AC5,Lib.hid As,Lib.hid Av,Lib.hid Au,B5,C5,HBZ5⟩
   case round =>
    clear hS5 AR5 HRC0 AC5 As Av Au B5 C5 HBZ5
    obtain ⟨k,n',P',cs,hk,rfl,hn',hSr,hPn,hNr,hAr,hRC,AC,hAs,hAv,hAu,A0,A4,hBZ⟩:=hrel
    by_cases hlt:k<m
    · have hltz:(k:Int)<(m:Int):=by omega
      have hkf:k<fl.length:=by rw [HM.out];exact hlt
      have HSr:=Lib.hid hSr
      have HRr:=Lib.hid (hSr.ro hKO HR0.out hkm)
      obtain ⟨kid,hkid⟩:∃ x,fl[k]=x:=⟨_,rfl⟩
      have hdk:=Lib.hid (HDN.out kid (hkid ▸ List.getElem_mem _))
      have hIr:=ints_vf HVF.out (HRr.out.box z hz).2.1 (by rw [HFL.out];exact HM.out.symm)
      rw [HFL.out] at hIr
      obtain ⟨lb1,cb1⟩:=ints_cell hIr hkf
      rw [show fl.getD k 0=kid by rw [← hkid,List.getD,List.getElem?_eq_getElem hkf];rfl] at cb1
      have HKID:=Lib.hid hkid
      have hlk:=fun X (h:Out (fun b=>b=Y.pm) wr X)=>HRr.out.lookO h hdk.out.1
      obtain ⟨bk,hbk⟩:∃ b,Y.bl kid=b:=⟨_,rfl⟩
      simp only [hbk] at hlk
      have hbx:=(HRr.out.box kid hdk.out.1).1
      rw [hbk] at hbx
      obtain ⟨sk,hsk⟩:∃ s,(B kid).sty=s:=⟨_,rfl⟩
      rw [hsk] at hbx
      generalize Y.vf kid=vf at hbx
      generalize Y.va kid=va at hbx
      generalize (B kid).ib=ib at hbx
      have nkp:bk≠Y.pm:=fun e=>by
       obtain ⟨es1,ck1,hp1⟩:=HRr.out.pmo
       rw [e] at hbx
       exact absurd (At.uniq hbx hp1) Z3t
      have HBX:=Lib.hid hbx
      have HSK:=Lib.hid hsk
      obtain ⟨l0,c0_0,c0_1,c0_2⟩:=At.three A0
      clear hkid hIr hbk hbx hsk hSr
      go_upto_region 7 with (fail)
      clear cb1 lb1
      obtain ⟨lY,cY0,cY1,cY2,cY3,cY4,cY5⟩:=At.six HRr.out.lay
      have lbk:=BxAt.lt HBX.out
      have npm:Y.pm<w.heap.size:=hpl
      obtain ⟨ly,hly⟩:∃ y,Fw.lay B f kid i0 i1 (-1) (-1)=y:=⟨_,rfl⟩
      have hcst:csf B f fl (k + 1)=csf B f fl k + Fw.cst B f kid:=by rw [csf_succ B f fl hkf,HKID.out]
      have hcle:=csf_le B f fl (k + 1)
      have hnn:=HN.out
      refine Drawn.wp_behind (fun a0 a W6=>∃ (Tp Tq n2:Nat) (P2:Nat→Prop) (u61 u62 u63 u64 u65 u66 u67 u68 u69 u70 u71 u72 u73 u74 u75:Value),a={ a0 with tmps:=((((((((((((((((a0.tmps.setIfInBounds 61 u61).setIfInBounds 62 u62).setIfInBounds 63 u63).setIfInBounds 64 u64).setIfInBounds 65 u65).setIfInBounds 66 u66).setIfInBounds 67 u67).setIfInBounds 68 u68).setIfInBounds 69 u69).setIfInBounds 70 u70).setIfInBounds 71 u71).setIfInBounds 72 u72).setIfInBounds 73 u73).setIfInBounds 74 u74).setIfInBounds 75 u75).setIfInBounds 12 (.pointer (some ⟨Tp,0,none⟩))).setIfInBounds 13 (.pointer (some ⟨Tq,0,none⟩)) }∧wr.heap.size≤Tp∧wr.heap.size≤Tq∧Tp≠Tq∧At W6 Tp (.cells (ldc ly) 94)∧At W6 Tq (.cells (cells sk) 37)∧n2≤n' + Fw.cst B f kid∧LSt Y B F w P n2 P2 W6∧(∀ b,b<wr.heap.size→P2 b→P' b)∧¬ P2 Tp∧¬ P2 Tq∧Out (fun b=>b=Y.pm) wr W6) ?_ ?_
      · have n1:w.heap.size≠Y.pm:=by omega
        have hSd:Out (fun b=>b=Y.pm) wr wr.drew:=(Out.refl _ _).drew
        refine tkX (S:=fun X=>Out (fun b=>b=Y.pm) wr X) 19 ?_ ?_
        · exact hSd
        intro hx
        have hLS:=HSr.out.after ((Below.refl wr.heap.size wr).drew)
        clear hSd
        refine tkO 0 ?_
        refine tkO 1 ?_
        refine tkO 2 ?_
        refine tkO 3 ?_
        refine tkO 6 ?_
        refine tkO 7 ?_
        refine tkO 8 ?_
        refine tkO 9 ?_
        refine tkO 10 ?_
        refine tkR 11 rfl (reads_lookup Z3n rfl rfl rfl (fun X h=>hlk X h)) ?_
        refine tkO 12 ?_
        refine tkO 13 ?_
        refine tkR 14 rfl (reads_load_sty Z3n (.tmp 74) rfl rfl (fun X h=>BxAt.style (At.out HBX.out nkp h))) ?_
        clear l0 c0_0 c0_1 c0_2 lY cY0 cY1 cY2 cY3 cY4 cY5 hlk hAr hRC AC hAs hAv hAu A0 A4 hBZ HBX HRr HSr n1 lbk
        refine Drawn.gen_3 (i:=4) (j:=15) (k:=16) Z3q rfl rfl rfl Z3n Z3n Z3n ?_ ?_ ?_
        · refine Drawn.Step.call tkL (funset_any _) ?_
          rintro e x11 ⟨rfl,hb⟩
          replace hLS:=hLS.after hb
          replace hx:=Out.trans' hx (Out.of_below (M:=fun _=>False) hb) fun _ _ q=>q.elim
          clear hb
          refine ⟨_,rfl,fun _=>hx,?_⟩
          (try simp only [tkp,tka,tkz,tks])
          refine Drawn.gen_3 (i:=5) (j:=15) (k:=16) Z3q rfl rfl rfl Z3n Z3n Z3n ?_ ?_ ?_
          · have keyY:=lay_call hL hKO HR0.out hkm hLS kid i0 i1 (-1) (-1) hdk.out.1 hdk.out.2 Z3f
            rw [hly] at keyY
            refine Drawn.Step.call tkL keyY ?_
            rintro e x12 ⟨rfl,n2,P2,hn2,hLS2,hPs0,hO⟩
            have hPs:∀ b,b<wr.heap.size→P2 b→P' b:=fun b hb h=>hPs0 b (Nat.lt_of_lt_of_le hb hx.size) h
            replace hLS:=hLS2
            clear hLS2 hPs0 keyY
            replace hx:=hx.trans hO
            clear hO
            refine ⟨_,rfl,fun _=>hx,?_⟩
            (try simp only [tkp,tka,tkz,tks])
            refine tk2 15 16 ?_ ?_
            · refine Drawn.Step.value (u:= .pointer (some ⟨x12.heap.size,0,none⟩)) (w':=x12.alloc (.cells #[.int .i64 0,.int .i64 0,.int .i64 0,.int .i64 0,.int .i64 0,.int .i64 0,.int .i64 0] 94)) tkL ?_
              obtain ⟨x13,hw9,Ap,hb⟩:∃ w9,w9=x12.alloc (.cells #[.int .i64 0,.int .i64 0,.int .i64 0,.int .i64 0,.int .i64 0,.int .i64 0,.int .i64 0] 94)∧At w9 x12.heap.size (.cells #[.int .i64 0,.int .i64 0,.int .i64 0,.int .i64 0,.int .i64 0,.int .i64 0,.int .i64 0] 94)∧Below x12.heap.size x12 w9:=⟨_,rfl,At.new _ _,Below.alloc' (Below.refl _ _) _⟩
              rw [← hw9]
              clear hw9
              have gp:=hx.size
              obtain ⟨Tp,hTp⟩:∃ q,x12.heap.size=q:=⟨_,rfl⟩
              have np:¬ P2 Tp:=fun h=>by have:=hLS.lt _ h;omega
              rw [hTp] at Ap gp
              rw [hTp]
              clear hTp
              replace hLS:=hLS.after hb
              replace hx:=Out.trans' hx (Out.of_below (M:=fun _=>False) hb) fun _ _ q=>q.elim
              clear hb
              refine ⟨fun _=>hx,?_⟩
              exact Z1d
            · refine Drawn.Step.value (exec_alloc_sty rfl) ?_
              obtain ⟨x13,hw9,Aq,hb⟩:∃ w9,w9=x12.alloc (.cells (cells Re.zero) 37)∧At w9 x12.heap.size (.cells (cells Re.zero) 37)∧Below x12.heap.size x12 w9:=⟨_,rfl,At.new _ _,Below.alloc' (Below.refl _ _) _⟩
              rw [← hw9]
              clear hw9
              have gq:=hx.size
              obtain ⟨Tq,hTq⟩:∃ q,x12.heap.size=q:=⟨_,rfl⟩
              have nq:¬ P2 Tq:=fun h=>by have:=hLS.lt _ h;omega
              rw [hTq] at Aq gq
              rw [hTq]
              clear hTq
              replace hLS:=hLS.after hb
              replace hx:=Out.trans' hx (Out.of_below (M:=fun _=>False) hb) fun _ _ q=>q.elim
              clear hb
              refine ⟨fun _=>hx,?_⟩
              exact Zi
          · refine Drawn.Step.value (u:= .pointer (some ⟨x11.heap.size,0,none⟩)) (w':=x11.alloc (.cells #[.int .i64 0,.int .i64 0,.int .i64 0,.int .i64 0,.int .i64 0,.int .i64 0,.int .i64 0] 94)) tkL ?_
            obtain ⟨x12,hw9,Ap,hb⟩:∃ w9,w9=x11.alloc (.cells #[.int .i64 0,.int .i64 0,.int .i64 0,.int .i64 0,.int .i64 0,.int .i64 0,.int .i64 0] 94)∧At w9 x11.heap.size (.cells #[.int .i64 0,.int .i64 0,.int .i64 0,.int .i64 0,.int .i64 0,.int .i64 0,.int .i64 0] 94)∧Below x11.heap.size x11 w9:=⟨_,rfl,At.new _ _,Below.alloc' (Below.refl _ _) _⟩
            rw [← hw9]
            clear hw9
            have gp:=hx.size
            obtain ⟨Tp,hTp⟩:∃ q,x11.heap.size=q:=⟨_,rfl⟩
            have np:¬ P' Tp:=fun h=>by have:=hLS.lt _ h;omega
            rw [hTp] at Ap gp
            rw [hTp]
            clear hTp
            replace hLS:=hLS.after hb
            replace hx:=Out.trans' hx (Out.of_below (M:=fun _=>False) hb) fun _ _ q=>q.elim
            clear hb
            refine ⟨fun _=>hx,?_⟩
            exact Zo
          · refine Drawn.Step.value (exec_alloc_sty rfl) ?_
            obtain ⟨x12,hw9,Aq,hb⟩:∃ w9,w9=x11.alloc (.cells (cells Re.zero) 37)∧At w9 x11.heap.size (.cells (cells Re.zero) 37)∧Below x11.heap.size x11 w9:=⟨_,rfl,At.new _ _,Below.alloc' (Below.refl _ _) _⟩
            rw [← hw9]
            clear hw9
            have gq:=hx.size
            obtain ⟨Tq,hTq⟩:∃ q,x11.heap.size=q:=⟨_,rfl⟩
            have nq:¬ P' Tq:=fun h=>by have:=hLS.lt _ h;omega
            rw [hTq] at Aq gq
            rw [hTq]
            clear hTq
            replace hLS:=hLS.after hb
            replace hx:=Out.trans' hx (Out.of_below (M:=fun _=>False) hb) fun _ _ q=>q.elim
            clear hb
            refine ⟨fun _=>hx,?_⟩
            exact Zp
        · refine Drawn.Step.value (u:= .pointer (some ⟨wr.drew.heap.size,0,none⟩)) (w':=wr.drew.alloc (.cells #[.int .i64 0,.int .i64 0,.int .i64 0,.int .i64 0,.int .i64 0,.int .i64 0,.int .i64 0] 94)) tkL ?_
          obtain ⟨x11,hw9,Ap,hb⟩:∃ w9,w9=wr.drew.alloc (.cells #[.int .i64 0,.int .i64 0,.int .i64 0,.int .i64 0,.int .i64 0,.int .i64 0,.int .i64 0] 94)∧At w9 wr.drew.heap.size (.cells #[.int .i64 0,.int .i64 0,.int .i64 0,.int .i64 0,.int .i64 0,.int .i64 0,.int .i64 0] 94)∧Below wr.drew.heap.size wr.drew w9:=⟨_,rfl,At.new _ _,Below.alloc' (Below.refl _ _) _⟩
          rw [← hw9]
          clear hw9
          have gp:=hx.size
          obtain ⟨Tp,hTp⟩:∃ q,wr.drew.heap.size=q:=⟨_,rfl⟩
          have np:¬ P' Tp:=fun h=>by have:=hLS.lt _ h;omega
          rw [hTp] at Ap gp
          rw [hTp]
          clear hTp
          replace hLS:=hLS.after hb
          replace hx:=Out.trans' hx (Out.of_below (M:=fun _=>False) hb) fun _ _ q=>q.elim
          clear hb
          refine ⟨fun _=>hx,?_⟩
          (try simp only [tkp,tka,tkz,tks])
          refine tk2 4 16 ?_ ?_
          · refine Drawn.Step.call tkL (funset_any _) ?_
            rintro e x12 ⟨rfl,hb⟩
            replace Ap:=Ap.keep hb
            replace hLS:=hLS.after hb
            replace hx:=Out.trans' hx (Out.of_below (M:=fun _=>False) hb) fun _ _ q=>q.elim
            clear hb
            refine ⟨_,rfl,fun _=>hx,?_⟩
            exact Zo
          · refine Drawn.Step.value (exec_alloc_sty rfl) ?_
            obtain ⟨x12,hw9,Aq,hb⟩:∃ w9,w9=x11.alloc (.cells (cells Re.zero) 37)∧At w9 x11.heap.size (.cells (cells Re.zero) 37)∧Below x11.heap.size x11 w9:=⟨_,rfl,At.new _ _,Below.alloc' (Below.refl _ _) _⟩
            rw [← hw9]
            clear hw9
            have gq:=hx.size
            obtain ⟨Tq,hTq⟩:∃ q,x11.heap.size=q:=⟨_,rfl⟩
            have nq:¬ P' Tq:=fun h=>by have:=hLS.lt _ h;omega
            rw [hTq] at Aq gq
            rw [hTq]
            have npq:Tp<Tq:=by have:=Ap.lt;omega
            clear hTq
            replace Ap:=Ap.keep hb
            exact Z1o
        · refine Drawn.Step.value (exec_alloc_sty rfl) ?_
          obtain ⟨x11,hw9,Aq,hb⟩:∃ w9,w9=wr.drew.alloc (.cells (cells Re.zero) 37)∧At w9 wr.drew.heap.size (.cells (cells Re.zero) 37)∧Below wr.drew.heap.size wr.drew w9:=⟨_,rfl,At.new _ _,Below.alloc' (Below.refl _ _) _⟩
          rw [← hw9]
          clear hw9
          have gq:=hx.size
          obtain ⟨Tq,hTq⟩:∃ q,wr.drew.heap.size=q:=⟨_,rfl⟩
          have nq:¬ P' Tq:=fun h=>by have:=hLS.lt _ h;omega
          rw [hTq] at Aq gq
          rw [hTq]
          clear hTq
          replace hLS:=hLS.after hb
          replace hx:=Out.trans' hx (Out.of_below (M:=fun _=>False) hb) fun _ _ q=>q.elim
          clear hb
          refine ⟨fun _=>hx,?_⟩
          (try simp only [tkp,tka,tkz,tks])
          refine tk2 4 15 ?_ ?_
          · refine Drawn.Step.call tkL (funset_any _) ?_
            rintro e x12 ⟨rfl,hb⟩
            replace Aq:=Aq.keep hb
            replace hLS:=hLS.after hb
            replace hx:=Out.trans' hx (Out.of_below (M:=fun _=>False) hb) fun _ _ q=>q.elim
            clear hb
            refine ⟨_,rfl,fun _=>hx,?_⟩
            exact Zp
          · refine Drawn.Step.value (u:= .pointer (some ⟨x11.heap.size,0,none⟩)) (w':=x11.alloc (.cells #[.int .i64 0,.int .i64 0,.int .i64 0,.int .i64 0,.int .i64 0,.int .i64 0,.int .i64 0] 94)) tkL ?_
            obtain ⟨x12,hw9,Ap,hb⟩:∃ w9,w9=x11.alloc (.cells #[.int .i64 0,.int .i64 0,.int .i64 0,.int .i64 0,.int .i64 0,.int .i64 0,.int .i64 0] 94)∧At w9 x11.heap.size (.cells #[.int .i64 0,.int .i64 0,.int .i64 0,.int .i64 0,.int .i64 0,.int .i64 0,.int .i64 0] 94)∧Below x11.heap.size x11 w9:=⟨_,rfl,At.new _ _,Below.alloc' (Below.refl _ _) _⟩
            rw [← hw9]
            clear hw9
            have gp:=hx.size
            obtain ⟨Tp,hTp⟩:∃ q,x11.heap.size=q:=⟨_,rfl⟩
            have np:¬ P' Tp:=fun h=>by have:=hLS.lt _ h;omega
            rw [hTp] at Ap gp
            rw [hTp]
            have npq:Tq<Tp:=by have:=Aq.lt;omega
            clear hTp
            replace Aq:=Aq.keep hb
            exact Z1o
      · rintro a W6 ⟨Tp,Tq,n2,P2,u61,u62,u63,u64,u65,u66,u67,u68,u69,u70,u71,u72,u73,u74,u75,rfl,gp,gq,npq,Ap,Aq,hn2,hS6,hPs,hnp,hnq,hO6⟩
        simp only [List.setIfInBounds_toArray,List.set_cons_zero,List.set_cons_succ]
        clear hlk l0 c0_0 c0_1 c0_2 lY cY0 cY1 cY2 cY3 cY4 cY5 lbk
        have hPn2:Hid (∀ b,b<N5→P2 b→P b):=Lib.hid fun b hb h=>hPn.out b hb (hPs b Z3f h)
        have hs6:=hO6.size
        have hA6:=hAr.out (M:=fun b=>b=Y.pm) Z3f hO6
        have AC6:=AC.out (M:=fun b=>b=Y.pm) Z3f hO6
        have As6:=Lib.hid (At.out (M:=fun b=>b=Y.pm) hAs.out Z3f hO6)
        have Av6:=Lib.hid (At.out (M:=fun b=>b=Y.pm) hAv.out Z3f hO6)
        have Au6:=Lib.hid (At.out (M:=fun b=>b=Y.pm) hAu.out Z3f hO6)
        have B6:=A0.out (M:=fun b=>b=Y.pm) Z3f hO6
        have C6:=A4.out (M:=fun b=>b=Y.pm) Z3f hO6
        have HBZ6:=Lib.hid (At.out (M:=fun b=>b=Y.pm) hBZ.out n0p hO6)
        have hN6:N5≤W6.heap.size:=Nat.le_trans hNr hs6
        clear hAr AC hAs hAv hAu A0 A4 hBZ hO6 hPs HBX HSr hPn HRr
        obtain ⟨l0,c0_0,c0_1,c0_2⟩:=At.three B6
        obtain ⟨lp,cp0,cp1,cp2,cp3,cp4,cp5,cp6⟩:=At.seven (b:=Tp) Ap
        have zp5:=Ap.thaw 5
        have lq:=Aq.lt
        have c21:W6.cell? ⟨Tq,21,none⟩=some (.int .i64 (sk.c 21)):=(Aq.cell 21).trans (cells_int sk Z3f rfl)
        have c22:W6.cell? ⟨Tq,22,none⟩=some (.int .i64 (sk.c 22)):=(Aq.cell 22).trans (cells_int sk Z3f rfl)
        have c17:W6.cell? ⟨Tq,17,none⟩=some (.int .i64 (sk.c 17)):=(Aq.cell 17).trans (cells_int sk Z3f rfl)
        have c18:W6.cell? ⟨Tq,18,none⟩=some (.int .i64 (sk.c 18)):=(Aq.cell 18).trans (cells_int sk Z3f rfl)
        have HAQ:=Lib.hid Aq
        obtain ⟨au,hau⟩:∃ t,Fx.autoA i0 ly.s0 (Fx.len (sk.c 21) (sk.c 22) i0 0) (Fx.len (sk.c 17) (sk.c 18) i0 0) (Fx.fixd (sk.c 21) i0) (Fx.fixd (sk.c 17) i0)=t:=⟨_,rfl⟩
        have keyU:=fun X=>auto_any i0 ly.s0 (sk.c 21) (sk.c 22) (sk.c 17) (sk.c 18) i0 X
        simp only [hau] at keyU
        clear Aq
        go_upto_region 9 with (go_at_call 136;(with_reducible refine (keyU _).mono ?_);rintro e' w9 ⟨rfl,hb9⟩;replace Ap:=Ap.keep hb9;obtain ⟨lp,cp0,cp1,cp2,cp3,cp4,cp5,cp6⟩:=At.seven (b:=Tp) Ap;have zp5:=Ap.thaw 5)
        generalize hW:World.setCell _ _ _=W10
        obtain ⟨y,hy⟩:∃ y:Fw.Ld,{ ly with a0:=au }=y:=⟨_,rfl⟩
        have Ap10:At W10 Tp (.cells (ldc y) 94):=by
         rw [← hW, ← hy]
         exact At.set Ap 5 _
        have hO10:Out (fun b=>b=Tp) W6 W10:=by
         rw [← hW]
         exact Out.set (M:=fun b=>b=Tp) (Out.of_below hb9) rfl 5 _
        have HYK:Hid (ks.take (k + 1)=ks.take k ++ [y]∧szl.getD k 0=y.s1):=Lib.hid (by
         have hkk:k<ks.length:=by rw [HLK.out];exact hlt
         have e:ks[k]=y:=by
          have e1:=HKS.out
          subst e1
          rw [List.getElem_map,HKID.out, ← hy]
          unfold Fw.blkKid
          simp only [hly,HSK.out,hau]
         refine ⟨by rw [List.take_succ_eq_append_getElem hkk,e],?_⟩
         rw [← HSZ.out,List.getD,List.getElem?_map,List.getElem?_eq_getElem hkk,e]
         rfl)
        have hTN:N5≤Tp:=by omega
        have hS10:=hS6.own hO10 fun b hb h=>by subst h;exact ⟨hnp,by omega⟩
        have HA10:=Lib.hid (hA6.out (M:=fun b=>b=Tp) Z3f hO10)
        have AC10:=AC6.out (M:=fun b=>b=Tp) Z3f hO10
        have As10:=Lib.hid (At.out (M:=fun b=>b=Tp) As6.out Z3f hO10)
        have Av10:=Lib.hid (At.out (M:=fun b=>b=Tp) Av6.out Z3f hO10)
        have Au10:=Lib.hid (At.out (M:=fun b=>b=Tp) Au6.out Z3f hO10)
        have B10:=B6.out (M:=fun b=>b=Tp) Z3f hO10
        have C10:=C6.out (M:=fun b=>b=Tp) Z3f hO10
        have HBZ10:=Lib.hid (At.out (M:=fun b=>b=Tp) HBZ6.out Z3f hO10)
        have hN10:N5≤W10.heap.size:=Nat.le_trans hN6 hO10.size
        clear hW hy hO10 hb9 keyU hau Ap lp cp0 cp1 cp2 cp3 cp4 cp5 cp6 zp5 lq c21 c22 c17 c18 HAQ l0 c0_0 c0_1 c0_2 hA6 AC6 As6 Av6 Au6 B6 C6 HBZ6 hN6 hs6 hS6 hnp hnq
        have hRf:k * 7 + 7≤cs.size:=by have:=hRC.out.1;omega
        have HYL:Hid (∀ j,j<7→W10.cell? ⟨Tp,0 + j,none⟩=(ldc y)[j]?):=Lib.hid fun j hj=>by rw [Nat.zero_add];exact Ap10.cell j
        obtain ⟨lC,cC0,cC1⟩:=At.two AC10
        have lR10:=HA10.out.lt
        have lTp:=Ap10.lt
        go_upto_region 10 with (first | (refine wpList_load_at agg_ld siz_ld Z3n _ rfl rfl (ldc_size y) HYL.out ?_) | (refine wpList_store_at siz_ld Z3n _ _ rfl rfl rfl HA10.out (ldc_size y) hRf (ldc_one y) ?_))
        generalize hW:World.setRow _ _ _=W11
        have AR11:At W11 R (.cells (splice cs (k * 7) (ldc y)) 94):=hW ▸ At.setRow HA10.out _
        have hO11:Out (fun b=>b=R) W10 W11:=hW ▸ Out.setRow (M:=fun b=>b=R) (Out.refl _ _) rfl _
        have HRC11:Hid ((splice cs (k * 7) (ldc y)).size=m * 7∧RowC (splice cs (k * 7) (ldc y)) (ks.take (k + 1))):=Lib.hid (by
         have e:(ks.take k).length=k:=by rw [List.length_take,HLK.out];omega
         refine ⟨by rw [splice_size (by rw [ldc_size];exact hRf)];exact hRC.out.1,?_⟩
         have h1:=hRC.out.2.snoc (x:=y) (by rw [e];exact hRf)
         rw [e] at h1
         rw [HYK.out.1]
         exact h1)
        have hPR2:¬ P2 R:=fun h=>by have:=hP5.out _ (hPn2.out _ Z3f h);omega
        have hS11:=hS10.own hO11 fun b hb h=>by subst h;exact ⟨hPR2,by omega⟩
        have Ap11:=Ap10.out (M:=fun b=>b=R) Z3f hO11
        have AC11:=AC10.out (M:=fun b=>b=R) Z3f hO11
        have As11:=At.out (M:=fun b=>b=R) As10.out Z3f hO11
        have Av11:=Lib.hid (At.out (M:=fun b=>b=R) Av10.out Z3f hO11)
        have Au11:=Lib.hid (At.out (M:=fun b=>b=R) Au10.out Z3f hO11)
        have B11:=B10.out (M:=fun b=>b=R) Z3f hO11
        have C11:=C10.out (M:=fun b=>b=R) Z3f hO11
        have HBZ11:=Lib.hid (At.out (M:=fun b=>b=R) HBZ10.out Z3f hO11)
        have hN11:N5≤W11.heap.size:=Nat.le_trans hN10 hO11.size
        generalize splice cs (k * 7) (ldc y)=cs11 at *
        clear hW hO11 lC cC0 cC1 lR10 lTp HYL HA10 AC10 As10 Av10 Au10 B10 C10 HBZ10 hN10 hS10 Ap10 hRC hRf
        obtain ⟨lp,cp0,cp1,cp2,cp3,cp4,cp5,cp6⟩:=At.seven (b:=Tp) Ap11
        have lS:=As11.lt
        have cSk:=As11.cell k
        rw [stRow_get _ hlt] at cSk
        have zSk:=As11.thaw k
        go_upto_region 11 with (fail)
        generalize hW:World.setCell _ _ _=W12
        have e12:(stRow (fun i=>szl.getD i 0) m k).setIfInBounds k (.int .i64 y.s1)=stRow (fun i=>szl.getD i 0) m (k + 1):=by
         have h1:=stRow_set (fun i=>szl.getD i 0) hlt
         simp only [HYK.out.2] at h1
         exact h1
        have As12:Hid (At W12 Ts (.cells (stRow (fun i=>szl.getD i 0) m (k + 1)) 3)):=Lib.hid (by
         rw [← hW, ← e12]
         exact At.set As11 k _)
        have hO12:Out (fun b=>b=Ts) W11 W12:=hW ▸ Out.set (M:=fun b=>b=Ts) (Out.refl _ _) rfl k _
        have hS12:=hS11.own hO12 fun b hb h=>by subst h;exact ⟨fun h=>by have:=hP5.out _ (hPn2.out _ ls5 h);omega,by omega⟩
        have AR12:=AR11.out (M:=fun b=>b=Ts) Z3f hO12
        have AC12:=AC11.out (M:=fun b=>b=Ts) Z3f hO12
        have Av12:=At.out (M:=fun b=>b=Ts) Av11.out Z3f hO12
        have Au12:=Lib.hid (At.out (M:=fun b=>b=Ts) Au11.out Z3f hO12)
        have B12:=B11.out (M:=fun b=>b=Ts) Z3f hO12
        have C12:=C11.out (M:=fun b=>b=Ts) Z3f hO12
        have HBZ12:=Lib.hid (At.out (M:=fun b=>b=Ts) HBZ11.out Z3f hO12)
        have hN12:N5≤W12.heap.size:=Nat.le_trans hN11 hO12.size
        clear hW hO12 lp cp0 cp1 cp2 cp3 cp4 cp5 cp6 lS cSk zSk e12 As11 AR11 AC11 Av11 Au11 B11 C11 HBZ11 hN11 hS11 Ap11
        have hfT:tpl.getD k 0=Fx.coll (Fw.meet B 0 f kid):=by
         rw [← HTP.out,List.getD,List.getElem?_map,List.getElem?_eq_getElem hkf,HKID.out]
         rfl
        have hfU:btl.getD k 0=Fx.coll (Fw.meet B 1 f kid):=by
         rw [← HBT.out,List.getD,List.getElem?_map,List.getElem?_eq_getElem hkf,HKID.out]
         rfl
        have HFT:=Lib.hid hfT
        have HFU:=Lib.hid hfU
        have keyM:=fmeet0 hK F HDW.out HLEN.out f kid W12 hdk.out.1 hdk.out.2 hf (hS12.ro hKO HR0.out hkm)
        have hml:=meet_len B 0 f kid
        obtain ⟨mt,hmt⟩:∃ l,Fw.meet B 0 f kid=l:=⟨_,rfl⟩
        rw [hmt] at keyM hml HFT
        have HS12:=Lib.hid hS12
        clear hfT hfU hmt hS12
        go_upto_region 12 with (first | (go_at_call 138;(with_reducible refine keyM.mono ?_);rintro e' w13 ⟨⟨v,rfl,hown⟩,hb13⟩;obtain ⟨Am,cm,rfl,hIm⟩:=ints_of_own hown Z3y;replace Av12:=Av12.keep hb13;have lV:=Av12.lt;have cVk:=Av12.cell k;rw [stRow_get _ hlt] at cVk;have zVk:=Av12.thaw k) | (go_at_call 137;(with_reducible refine (coll_any Am mt mt.length cm w13 hIm rfl).mono ?_);rintro e' w14 ⟨rfl,rfl⟩))
        generalize hW:World.setCell _ _ _=W14
        have e14:(stRow (fun i=>tpl.getD i 0) m k).setIfInBounds k (.int .i64 (Fx.coll mt))=stRow (fun i=>tpl.getD i 0) m (k + 1):=by
         have h1:=stRow_set (fun i=>tpl.getD i 0) hlt
         simp only [HFT.out] at h1
         exact h1
        have Av14:Hid (At W14 Tv (.cells (stRow (fun i=>tpl.getD i 0) m (k + 1)) 3)):=Lib.hid (by
         rw [← hW, ← e14]
         exact At.set Av12 k _)
        have hO14:Out (fun b=>b=Tv) W12 W14:=hW ▸ Out.set (M:=fun b=>b=Tv) (Out.of_below hb13) rfl k _
        have hS14:=HS12.out.own hO14 fun b hb h=>by subst h;exact ⟨fun h=>by have:=hP5.out _ (hPn2.out _ lv5 h);omega,by omega⟩
        have AR14:=AR12.out (M:=fun b=>b=Tv) Z3f hO14
        have AC14:=AC12.out (M:=fun b=>b=Tv) Z3f hO14
        have As14:=Lib.hid (At.out (M:=fun b=>b=Tv) As12.out Z3f hO14)
        have Au14:=At.out (M:=fun b=>b=Tv) Au12.out Z3f hO14
        have B14:=B12.out (M:=fun b=>b=Tv) Z3f hO14
        have C14:=C12.out (M:=fun b=>b=Tv) Z3f hO14
        have HBZ14:=Lib.hid (At.out (M:=fun b=>b=Tv) HBZ12.out Z3f hO14)
        have hN14:N5≤W14.heap.size:=Nat.le_trans hN12 hO14.size
        clear hW hO14 lV cVk zVk e14 As12 AR12 AC12 Av12 Au12 B12 C12 HBZ12 hN12 HS12 keyM hml hown hIm hb13
        have keyM:=fmeet1 hK F HDW.out HLEN.out f kid W14 hdk.out.1 hdk.out.2 hf (hS14.ro hKO HR0.out hkm)
        have hml:=meet_len B 1 f kid
        obtain ⟨mu,hmu⟩:∃ l,Fw.meet B 1 f kid=l:=⟨_,rfl⟩
        rw [hmu] at keyM hml HFU
        have HS14:=Lib.hid hS14
        clear hmu hS14
        go_upto_region 13 with (first | (go_at_call 138;(with_reducible refine keyM.mono ?_);rintro e' w13 ⟨⟨v,rfl,hown⟩,hb13⟩;obtain ⟨Am,cm,rfl,hIm⟩:=ints_of_own hown Z3y;replace Au14:=Au14.keep hb13;have lV:=Au14.lt;have cVk:=Au14.cell k;rw [stRow_get _ hlt] at cVk;have zVk:=Au14.thaw k) | (go_at_call 137;(with_reducible refine (coll_any Am mu mu.length cm w13 hIm rfl).mono ?_);rintro e' w14 ⟨rfl,rfl⟩))
        generalize hW:World.setCell _ _ _=W16
        have e16:(stRow (fun i=>btl.getD i 0) m k).setIfInBounds k (.int .i64 (Fx.coll mu))=stRow (fun i=>btl.getD i 0) m (k + 1):=by
         have h1:=stRow_set (fun i=>btl.getD i 0) hlt
         simp only [HFU.out] at h1
         exact h1
        have Au16:Hid (At W16 Tu (.cells (stRow (fun i=>btl.getD i 0) m (k + 1)) 3)):=Lib.hid (by
         rw [← hW, ← e16]
         exact At.set Au14 k _)
        have hO16:Out (fun b=>b=Tu) W14 W16:=hW ▸ Out.set (M:=fun b=>b=Tu) (Out.of_below hb13) rfl k _
        have hS16:=HS14.out.own hO16 fun b hb h=>by subst h;exact ⟨fun h=>by have:=hP5.out _ (hPn2.out _ lu5 h);omega,by omega⟩
        have AR16:=AR14.out (M:=fun b=>b=Tu) Z3f hO16
        have AC16:=AC14.out (M:=fun b=>b=Tu) Z3f hO16
        have As16:=Lib.hid (At.out (M:=fun b=>b=Tu) As14.out Z3f hO16)
        have Av16:=Lib.hid (At.out (M:=fun b=>b=Tu) Av14.out Z3f hO16)
        have B16:=B14.out (M:=fun b=>b=Tu) Z3f hO16
        have C16:=C14.out (M:=fun b=>b=Tu) Z3f hO16
        have HBZ16:=Lib.hid (At.out (M:=fun b=>b=Tu) HBZ14.out Z3f hO16)
        have hN16:N5≤W16.heap.size:=Nat.le_trans hN14 hO16.size
        clear hW hO16 lV cVk zVk e16 As14 AR14 AC14 Av14 Au14 B14 C14 HBZ14 hN14 HS14 keyM hml hown hIm hb13
        go_wp2
        go_roundw
        case rel=>exact ⟨k + 1,n2,P2,cs11,by omega,by go_num,by omega,hS16,hPn2,hN16,AR16,HRC11,AC16,As16,Av16,Au16,B16,C16,HBZ16⟩
        case measure=>simp [intOf];omega
    · obtain rfl:k=m:=by omega
      have hIs:Ints wr (some ⟨Ts,0,none⟩) szl:=by
       have h1:=jints_of_made _ k Z3y hAs.out
       have h2:=row_self szl
       rw [HLS.out] at h2
       rw [h2] at h1
       exact h1
      have hIv:Ints wr (some ⟨Tv,0,none⟩) tpl:=by
       have h1:=jints_of_made _ k Z3y hAv.out
       have h2:=row_self tpl
       rw [HLT.out] at h2
       rw [h2] at h1
       exact h1
      have hIu:Ints wr (some ⟨Tu,0,none⟩) btl:=by
       have h1:=jints_of_made _ k Z3y hAu.out
       have h2:=row_self btl
       rw [HLU.out] at h2
       rw [h2] at h1
       exact h1
      have keyS:=stack_new (some ⟨Ts,0,none⟩) (some ⟨Tv,0,none⟩) (some ⟨Tu,0,none⟩) szl tpl btl k k k k wr hIs hIv hIu HLS.out HLT.out HLU.out Z3f
      have HN2:Hid (n'≤n + 2 * (fl.map (Fw.cst B f)).sum):=Lib.hid (by
       have h1:=csf_le B f fl k
       omega)
      have HSr:=Lib.hid hSr
      have HRC:=Lib.hid (show cs.size=k * 7∧RowC cs ks from by
       have h1:=hRC.out
       rw [List.take_of_length_le (by rw [HLK.out];exact Nat.le_refl _)] at h1
       exact h1)
      obtain ⟨en,hen⟩:∃ t,Fx.stEnd szl tpl btl k=t:=⟨_,rfl⟩
      rw [hen] at keyS
      have HEN:=Lib.hid hen
      clear hIs hIv hIu hSr hRC hn' hlt hen
      go_upto_region 15 with (go_at_call 139;(with_reducible refine keyS.mono ?_);rintro e' w9 ⟨⟨bb,rfl,gbb,hIb⟩,hb9⟩)
      have hS9:=HSr.out.after hb9
      have AR9:=hAr.keep hb9
      have AC9:=AC.keep hb9
      have B9:=A0.keep hb9
      have C9:=A4.keep hb9
      have HBZ9:=Lib.hid (BxAt.keep hBZ.out hb9)
      have Av9:=hAv.out.keep hb9
      have Au9:=hAu.out.keep hb9
      have hIb9:=Lib.hid hIb
      have hN9:N5≤w9.heap.size:=Nat.le_trans hNr hb9.size
      have gbb2:N5≤bb:=Nat.le_trans hNr gbb
      clear keyS hIb HSr hAr AC hAs hAv hAu A0 A4 hBZ hb9 gbb hNr
      obtain ⟨m1,hm1a,hm1b⟩:∃ m1,m1 + 1≤k∧k≤m1 + 1:=⟨k - 1,by omega,by omega⟩
      have hwk:IntKind.i64.wrap ((k:Int) - 1)=(m1:Int):=by rw [IntWalk.i64_in _ Z3f];omega
      have hm1z:(m1:Int)<(k:Int):=by omega
      have hk0z:(0:Int)<(k:Int):=by omega
      have lv9:=Av9.lt
      have lu9:=Au9.lt
      have cv0:w9.cell? ⟨Tv,0,none⟩=some (.int .i64 (tpl.getD 0 0)):=(Av9.cell 0).trans (by rw [stRow_get _ hm0,if_pos hm0])
      have cu1:w9.cell? ⟨Tu,m1,none⟩=some (.int .i64 (btl.getD m1 0)):=(Au9.cell m1).trans (by rw [stRow_get _ Z3f,if_pos Z3f])
      obtain ⟨t0,ht0⟩:∃ t,tpl.getD 0 0=t:=⟨_,rfl⟩
      obtain ⟨u1,hu1⟩:∃ t,btl.getD m1 0=t:=⟨_,rfl⟩
      rw [ht0] at cv0
      rw [hu1] at cu1
      have HF1:Hid ((if Fw.opn s zib 0=true then 0 else t0)=first):=Lib.hid (by rw [← ht0];exact HFI.out)
      have HL1:Hid ((if Fw.opn s zib 1=true then 0 else u1)=last):=Lib.hid (by
       rw [← hu1]
       have h1:=HLA.out
       rw [HLU.out,show k - 1=m1 by omega] at h1
       exact h1)
      clear ht0 hu1
      have hSd:Below w9.heap.size w9 w9.drew:=Below.drew (Below.refl _ _)
      refine tkX (S:=fun X=>Below w9.heap.size w9 X) 11 ?_ ?_
      · exact hSd
      intro hx
      clear hSd
      refine tkB 0 ?_
      refine tkB 1 ?_
      refine tkB 2 ?_
      refine tkB 3 ?_
      refine tkB 4 ?_
      refine tkB 5 ?_
      refine tkB 6 ?_
      refine tkB 7 ?_
      refine tkB 8 ?_
      refine tkB 9 ?_
      refine tkB 10 ?_
      refine tkE ?_
      have hx9:Below w9.heap.size w9 w9.drew:=hx
      generalize w9.drew=w10 at *
      have hS10:=hS9.after hx9
      have AR10:=AR9.keep hx9
      have AC10:=AC9.keep hx9
      have B10:=B9.keep hx9
      have C10:=C9.keep hx9
      have HBZ10:=Lib.hid (BxAt.keep HBZ9.out hx9)
      have hIb10:=Lib.hid (hIb9.out.after hx9)
      have hN10:N5≤w10.heap.size:=Nat.le_trans hN9 hx9.size
      clear hx hx9 hS9 AR9 AC9 B9 C9 HBZ9 hIb9 hN9 cv0 cu1 lv9 lu9 Av9 Au9 hwk hm1z hk0z
      obtain ⟨o0,ho0⟩:∃ b,Fw.opn s zib 0=b:=⟨_,rfl⟩
      obtain ⟨o1',ho1⟩:∃ b,Fw.opn s zib 1=b:=⟨_,rfl⟩
      have keyO:=fopen0 b0 s _ zva zib w10 HBZ10.out
      rw [ho0] at keyO HF1
      rw [ho1] at HL1
      have HO1:=Lib.hid ho1
      clear ho0 ho1
      go_upto_if 140 with (go_at_call 140;(with_reducible refine keyO.mono ?_);rintro e' w11 ⟨rfl,hb11⟩)
      have hS11:=hS10.after hb11
      have AR11:=AR10.keep hb11
      have AC11:=AC10.keep hb11
      have C11:=C10.keep hb11
      have HBZ11:=Lib.hid (BxAt.keep HBZ10.out hb11)
      have hIb11:=Lib.hid (hIb10.out.after hb11)
      have hN11:N5≤w11.heap.size:=Nat.le_trans hN10 hb11.size
      clear hS10 AR10 AC10 B10 C10 HBZ10 hIb10 hN10 hb11 keyO
      go_cut [16] from 139 to 141 (fun v w2=>v = .int .i64 first∧Below w11.heap.size w11 w2)
      case first =>
       cases o0 with
       | true =>
         have e1:=HF1.out
         rw [if_pos rfl] at e1
         exact Z3e
       | false =>
         have e1:=HF1.out
         rw [if_neg Z3t] at e1
         exact Z3e
      case rest =>
       obtain ⟨rfl,hb11⟩:=hcut
       have HBZw:=Lib.hid (BxAt.keep HBZ11.out hb11)
       have keyO:=fopen1 b0 s _ zva zib wc HBZw.out
       rw [HO1.out] at keyO
       have hS11w:=hS11.after hb11
       have AR11w:=AR11.keep hb11
       have AC11w:=AC11.keep hb11
       have C11w:=C11.keep hb11
       have hIb11w:=Lib.hid (hIb11.out.after hb11)
       have hN11w:N5≤wc.heap.size:=Nat.le_trans hN11 hb11.size
       clear hS11 AR11 AC11 C11 HBZ11 hIb11 hN11 hb11
       go_upto_if 142 with (go_at_call 140;(with_reducible refine keyO.mono ?_);rintro e' w13 ⟨rfl,hb13⟩)
       have hS13:=hS11w.after hb13
       have AR13:=AR11w.keep hb13
       have AC13:=AC11w.keep hb13
       have C13:=C11w.keep hb13
       have hIb13:=Lib.hid (hIb11w.out.after hb13)
       have hN13:N5≤w13.heap.size:=Nat.le_trans hN11w hb13.size
       clear hS11w AR11w AC11w C11w HBZw hIb11w hN11w hb13 keyO
       go_cut [17] from 141 to 143 (fun v w2=>v = .int .i64 last∧Below w13.heap.size w13 w2)
       case first =>
        cases o1' with
        | true =>
          have e1:=HL1.out
          rw [if_pos rfl] at e1
          exact Z3e
        | false =>
          have e1:=HL1.out
          rw [if_neg Z3t] at e1
          exact Z3e
       case rest =>
        obtain ⟨rfl,hb12⟩:=hcut
        have hS12:=hS13.after hb12
        have AR12:=AR13.keep hb12
        have AC12:=AC13.keep hb12
        have C12:=C13.keep hb12
        have hIb12:=Lib.hid (hIb13.out.after hb12)
        have hN12:N5≤wc.heap.size:=Nat.le_trans hN13 hb12.size
        clear hS13 AR13 AC13 C13 hIb13 hN13 hb12
        obtain ⟨lC,cC0,cC1⟩:=At.two AC12
        go_upto_region 21 with (fail)
        clear lC cC0 cC1
        have HRC0:Hid (cs.size=k * 7∧RowC cs (chgL (blG first szl tpl btl) ks 0)):=Lib.hid (by rw [chgL_zero];exact HRC.out)
        have hPR2:=Lib.hid (show ¬ P' R from fun h=>by have:=hP5.out _ (hPn.out _ Z3f h);omega)
        have hPC2:=Lib.hid (show ¬ P' (R + 1) from fun h=>by have:=hP5.out _ (hPn.out _ lR5 h);omega)
        have hPN2:=Lib.hid (show ¬ P' (w.heap.size + 1) from fun h=>by have:=hP5.out _ (hPn.out _ Z3f h);omega)
        have HLB:Hid ((Fx.stBegs szl tpl btl k).length=k):=Lib.hid (Fx.stBegs_length _ _ _ _)
        go_loopw [146] (fun iv wr=>∃ (i:Nat) (cs2:Array Value),i≤k∧iv = .int .i64 i∧LSt Y B F w P n' P' wr∧At wr R (.cells cs2 94)∧Hid (cs2.size=k * 7∧RowC cs2 (chgL (blG first szl tpl btl) ks i))∧At wr (R + 1) (.cells #[.slice (some ⟨R,0,none⟩) k k,.int .i64 0] 144)∧At wr (w.heap.size + 1) (.cells #[.slice none 0 0,.int .i64 0] 144)∧Hid (Ints wr (some ⟨bb,0,none⟩) (Fx.stBegs szl tpl btl k))) (fun iv _=>k - (intOf iv).toNat)
        case atStart=>exact ⟨0,cs,Nat.zero_le _,rfl,hS12,AR12,HRC0,AC12,C12,hIb12⟩
        case round =>
         clear hS12 AR12 HRC0 AC12 C12 hIb12
         obtain ⟨i,cs2,hi2,rfl,hSr,hAr,hRC,AC,A4,hIz⟩:=hrel
         by_cases hlt:i<k
         · have hltz:(i:Int)<(k:Int):=by omega
           have HSr:=Lib.hid hSr
           have hik:i<ks.length:=by rw [HLK.out];exact hlt
           obtain ⟨lz,cz⟩:=lints hIz.out (k:=i) (by rw [HLB.out];exact hlt)
           rw [Fx.stBegs_get _ _ _ hlt] at cz
           obtain ⟨bg,hbg⟩:∃ t,Fx.stBeg szl tpl btl i=t:=⟨_,rfl⟩
           rw [hbg] at cz
           have HBG:=Lib.hid hbg
           obtain ⟨lC,cC0,cC1⟩:=At.two AC
           have lR:=hAr.lt
           have hlast:i * 7 + 6<cs2.size:=by have:=hRC.out.1;omega
           have cR6:wr.cell? ⟨R,i * 7 + 6,none⟩=some cs2[i * 7 + 6]:=(hAr.cell _).trans (Array.getElem?_eq_getElem hlast)
           generalize cs2[i * 7 + 6]=old at cR6
           have zR6:=hAr.thaw (i * 7 + 6)
           obtain ⟨p,hp⟩:∃ t,IntKind.i64.wrap (first + bg)=t:=⟨_,rfl⟩
           have nbR:bb≠R:=by omega
           clear hSr hbg
           go_upto_region 23 with (fail)
           have hSd:Out (fun b=>b=R) wr wr.drew:=(Out.refl _ _).drew
           refine tkX (S:=fun X=>Out (fun b=>b=R) wr X) 13 ?_ ?_
           · exact hSd
           intro hx
           clear hSd
           refine tkO 0 ?_
           refine tkO 1 ?_
           refine tkO 2 ?_
           refine tkO 3 ?_
           refine tkO 4 ?_
           refine tkO 5 ?_
           refine tkO 6 ?_
           refine tkO 7 ?_
           refine tkO 8 ?_
           refine tkO 9 ?_
           refine tkO 10 ?_
           refine tkO 11 ?_
           refine tk1 12 ?_
           refine Drawn.Step.skip tkL ?_
           generalize hW:World.setCell _ _ _=W3
           have AR3:At W3 R (.cells (cs2.setIfInBounds (i * 7 + 6) (.int .i64 p)) 94):=hW ▸ At.set hAr (i * 7 + 6) _
           have hO3:Out (fun b=>b=R) wr W3:=hW ▸ Out.set (M:=fun b=>b=R) (Out.refl _ _) rfl (i * 7 + 6) _
           refine ⟨fun _=>Out.drew hO3,?_⟩
           (try simp only [tkp,tka,tkz,tks])
           refine tkE ?_
           have hRC3:Hid ((cs2.setIfInBounds (i * 7 + 6) (.int .i64 p)).size=k * 7∧RowC (cs2.setIfInBounds (i * 7 + 6) (.int .i64 p)) (chgL (blG first szl tpl btl) ks (i + 1))):=Lib.hid (by
            refine ⟨by simpa using hRC.out.1,?_⟩
            have h1:=hRC.out.2.put6 (k:=i) (by rw [chgL_length];exact hik) p
            rw [chgL_get _ _ hik] at h1
            rw [← chgL_succ _ _ hik]
            have e:blG first szl tpl btl i ks[i]={ ks[i] with a1:=p }:=by
             unfold blG
             rw [HBG.out, ← wri,hp]
            rw [e]
            exact h1)
           have hO4:=Out.drew hO3
           have AR4:=At.drew AR3
           have hS4:=HSr.out.own hO4 fun b hb h=>by subst h;exact ⟨hPR2.out,by omega⟩
           have AC4:=AC.out (M:=fun b=>b=R) Z3f hO4
           have C4:=A4.out (M:=fun b=>b=R) Z3f hO4
           have hIz4:=Lib.hid (ints_out hIz.out hO4 nbR)
           generalize W3.drew=W4 at *
           generalize cs2.setIfInBounds (i * 7 + 6) (.int .i64 p)=cs3 at *
           clear hW hx hO3 hO4 AR3 lC cC0 cC1 lR hlast cR6 zR6 cz lz hAr hRC AC A4 hIz hp
           go_wp2
           go_roundw
           case rel=>exact ⟨i + 1,cs3,by omega,by go_num,hS4,AR4,hRC3,AC4,C4,hIz4⟩
           case measure=>simp [intOf];omega
         · obtain rfl:i=k:=by omega
           have HRF:Hid (RowC cs2 xs):=Lib.hid (by
            have h1:=hRC.out.2
            rw [← HLK.out,chgL_all,HXS.out.1] at h1
            exact h1)
           have hxl:xs.length=i:=by rw [← HXS.out.1,List.length_mapIdx,HLK.out]
           obtain ⟨lC,cC0,cC1⟩:=At.two AC
           have zC1:=AC.thaw 1
           obtain ⟨q1,hq1⟩:∃ t,IntKind.i64.wrap (first + en)=t:=⟨_,rfl⟩
           obtain ⟨q2,hq2⟩:∃ t,IntKind.i64.wrap (q1 + last)=t:=⟨_,rfl⟩
           have HHI:Hid (q2=hi):=Lib.hid (by
            have h1:=HXS.out.2
            rw [HEN.out, ← wri (first + en),hq1, ← wri,hq2] at h1
            exact h1)
           have HSr:=Lib.hid hSr
           clear hSr hRC hIz
           go_upto_region 26 with (fail)
           generalize hW:World.setCell _ _ _=W12
           have AC12:At W12 (R + 1) (.cells #[.slice (some ⟨R,0,none⟩) i i,.int .i64 q2] 144):=hW ▸ At.set AC 1 _
           have hO12:Out (fun b=>b=R + 1) wr W12:=hW ▸ Out.set (M:=fun b=>b=R + 1) (Out.refl _ _) rfl 1 _
           have hS12:=HSr.out.own hO12 fun b hb h=>by subst h;exact ⟨hPC2.out,by omega⟩
           have AR12:=hAr.out (M:=fun b=>b=R + 1) Z3f hO12
           have C12:=A4.out (M:=fun b=>b=R + 1) Z3f hO12
           clear hW lC cC0 cC1 zC1 hAr AC A4 hO12 hq1 hq2
           obtain ⟨lC,cC0,cC1⟩:=At.two AC12
           obtain ⟨l4,c4_0,c4_1⟩:=At.two C12
           have z4_0:=C12.thaw 0
           have z4_1:=C12.thaw 1
           have HS12:=Lib.hid hS12
           have HAR12:=Lib.hid AR12
           clear hS12 AR12
           go_wp2
           generalize hW:World.setCell _ _ _=W6
           have A6:At W6 (w.heap.size + 1) (.cells #[.slice (some ⟨R,0,none⟩) i i,.int .i64 q2] 144):=hW ▸ At.set (At.set C12 0 _) 1 _
           have hOf:Out (fun b=>b=w.heap.size + 1) W12 W6:=by
            exact Z2i
           clear hW c4_0 c4_1 z4_0 z4_1 lC cC0 cC1 AC12 C12
           have AR6:=HAR12.out.out (M:=fun b=>b=w.heap.size + 1) Z3f hOf
           have hS6:=HS12.out.own hOf fun b hb h=>by subst h;exact ⟨hPN2.out,by omega⟩
           obtain ⟨l4,c4_0,c4_1⟩:=At.two A6
           have hO6:=hS6.fin
           have hK6:=hS6.kp
           have hNw:=hS6.new
           refine bodyPost_ret (v:= .agg #[.slice (some ⟨R,0,none⟩) i i,.int .i64 q2]) (by simp [results,Tryz.results103,go_sem,c4_0,c4_1,l4];first | done | exact ⟨rfl,rfl⟩ | rfl) rfl ⟨R,i,cs2,P',n',by rw [hxl,HHI.out],by omega,AR6,HRF.out,HN2.out,hK6,hNw,hPR2.out,hO6⟩
end
end Go.Proofs.YteggipnplbkijaaGreat.Fix
