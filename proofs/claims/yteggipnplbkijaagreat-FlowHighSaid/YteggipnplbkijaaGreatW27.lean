/- Boxes laid by the program: what its functions do, part 27. -/
import Derived.Test.YteggipnplbkijaaGreatWK
import Derived.Test.YteggipnplbkijaaGreatW22
set_option linter.unusedVariables false
set_option linter.unusedSimpArgs false
set_option linter.unusedSectionVars false
set_option maxRecDepth 100000
namespace Go.Proofs.YteggipnplbkijaaGreat.Fix
open Go.ChangeShapes Go.WideShapes Go.ChangeAt Go.RowKit
section
variable {Y:Lyt} {B:Int→Fw.Bx} {F:Int→Nat} {D:Int→Prop} {KM:World→Nat→Prop} {f:Nat} {w:World} {P:Nat→Prop}
set_option maxHeartbeats 16000000 in
theorem fcolumn (hL:LayOK Y B F D KM f) (hK:∀ (X X':World) (b:Nat),KM X b→Below X.heap.size X X'→KM X' b) (hKO:∀ (X X':World) (b:Nat),KM X b→Out (fun q=>q≠b) X X'→KM X' b) (hR0:RO w Y B D KM) (hkm:Y.km<w.heap.size)
  (z i0 i1:Int) (hz:D z) (hdn:∀ k ∈ (B z).fl,D k∧F k=f) (hne:(B z).fl≠[]) (hl:(B z).fl.length≤64) (n:Nat) (hKp:Kp Y B F n P w) (hP:∀ b,P b→b<w.heap.size) (hn:n + 2 * ((B z).fl.map (Fw.cst B f)).sum<maxLen) (xs:List Fw.Ld) (hi:Int) (hm:Fw.mcolumn B (Fw.lay B f) z i0 i1=(xs,hi)) :
  Calls Tryz.prog 105 #[.pointer (some ⟨Y.lb,0,none⟩),.agg #[.int .i64 z,.int .i64 i0,.int .i64 i1]] w fun e w'=>∃ R cap cs P' n',e = .returned (.agg #[.slice (some ⟨R,0,none⟩) xs.length cap,.int .i64 hi])∧w.heap.size≤R∧At w' R (.cells cs 94)∧RowC cs xs∧n'≤n + 2 * ((B z).fl.map (Fw.cst B f)).sum∧Kp Y B F n' P' w'∧(∀ b,P' b→P b∨w.heap.size≤b)∧¬ P' R∧Out (fun b=>b=Y.pm) w w':=by
 obtain ⟨es0,ck0,hpm0⟩:=hR0.pmo
 have hpl:=hpm0.lt
 obtain ⟨fl,hfl⟩:∃ l,(B z).fl=l:=⟨_,rfl⟩
 rw [hfl] at hdn hne hl hn ⊢
 obtain ⟨s,hs⟩:∃ s,(B z).sty=s:=⟨_,rfl⟩
 obtain ⟨xs0,hx0⟩:∃ l,newIms Y B i0 fl=l:=⟨_,rfl⟩
 obtain ⟨xs1,hx1⟩:∃ l,xs0.map (clA B f z i0 i1)=l:=⟨_,rfl⟩
 obtain ⟨sz,hszz⟩:∃ l,clS B f z i0 i1 fl=l:=⟨_,rfl⟩
 obtain ⟨xs2,hx2⟩:∃ l,xs1.mapIdx (clB B f z i0 i1 sz)=l:=⟨_,rfl⟩
 obtain ⟨long,hlong⟩:∃ l,outs1 xs2=l:=⟨_,rfl⟩
 obtain ⟨high,hhigh⟩:∃ h,Li.long (s.c 46) long=h:=⟨_,rfl⟩
 obtain ⟨room,hroom⟩:∃ r,(if i1 = -1 then high else i1)=r:=⟨_,rfl⟩
 obtain ⟨st,hst⟩:∃ l,Ju.row (Ju.starts (s.c 43) room (s.c 46) long) xs2.length=l:=⟨_,rfl⟩
 have HXS:Hid (xs2.mapIdx (clE (s.c 44) i0 st)=xs∧high=hi):=Lib.hid (by
  have h:=mcolumn_items Y B f z i0 i1 fl hfl sz hszz xs2 (by rw [hx0,hx1,hx2]) high (by rw [hs,hlong];exact hhigh)
  rw [hm,hs,hlong,hroom,hst] at h
  injection h with h1 h2
  exact ⟨h1.symm,h2.symm⟩)
 obtain ⟨m,hmm⟩:∃ m,fl.length=m:=⟨_,rfl⟩
 have HL0:Hid (xs0.length=m):=Lib.hid (by rw [← hx0, ← hmm];simp [newIms])
 have HL1:Hid (xs1.length=m):=Lib.hid (by rw [← hx1,List.length_map,HL0.out])
 have HL2:Hid (xs2.length=m):=Lib.hid (by rw [← hx2,List.length_mapIdx,HL1.out])
 have HLZ:Hid (sz.length=m):=Lib.hid (by rw [← hszz];unfold clS;rw [colSz_length,hmm])
 have HLT:Hid (st.length=m):=Lib.hid (by rw [← hst,Ju.row_length,HL2.out])
 have HOK0:Hid (∀ x ∈ xs0,IOK Y B D F f i0 x):=Lib.hid (by
  rw [← hx0]
  intro x hx
  obtain ⟨k,hk,e⟩:=List.mem_map.1 hx
  rw [← e]
  exact iok_new (hdn k hk).1 (hdn k hk).2)
 have HOK1:Hid (∀ x ∈ xs1,IOK Y B D F f i0 x):=Lib.hid (by
  rw [← hx1]
  intro x hx
  obtain ⟨y,hy,e⟩:=List.mem_map.1 hx
  rw [← e]
  exact iok_clA (HOK0.out y hy))
 have HOK2:Hid (∀ x ∈ xs2,IOK Y B D F f i0 x):=Lib.hid (by
  rw [← hx2]
  intro x hx
  obtain ⟨i,hi,e⟩:=List.mem_mapIdx.1 hx
  rw [← e]
  exact iok_clB i (HOK1.out _ (List.getElem_mem _)))
 have HC1:Hid (∀ k,csum B f xs1 k=csum B f xs0 k):=Lib.hid fun k=>csum_ids (by rw [← hx1,List.map_map];rfl) k
 have HCS:Hid (csum B f xs0 m=(fl.map (Fw.cst B f)).sum):=Lib.hid (by
  unfold csum
  rw [← hx0, ← hmm]
  unfold newIms
  rw [← List.map_take,List.take_length,List.map_map]
  rfl)
 have HX1:Hid (xs1=xs0.map (clA B f z i0 i1)):=Lib.hid hx1.symm
 have HX2:Hid (xs2=xs1.mapIdx (clB B f z i0 i1 sz)):=Lib.hid hx2.symm
 have HX0:Hid (xs0=newIms Y B i0 fl):=Lib.hid hx0.symm
 have HSZ:=Lib.hid hszz
 have HSS:=Lib.hid hs
 have HLG:=Lib.hid hlong
 have HHI:=Lib.hid hhigh
 have HRM:=Lib.hid hroom
 have HST:=Lib.hid hst
 have HFL:=Lib.hid hfl
 have HM:=Lib.hid hmm
 have HN:=Lib.hid hn
 have HDN:=Lib.hid hdn
 have HR0:=Lib.hid hR0
 rw [hmm] at hl
 clear hx1 hx2 hx0 hszz hlong hhigh hroom hst hm hmm
 have hS:=LSt.start hKp hP
 have hRw:=hR0
 obtain ⟨b0,hb0⟩:∃ b0,Y.bl z=b0:=⟨_,rfl⟩
 have hbx:=(hRw.box z hz).1
 rw [hb0,hs] at hbx
 have hSty:=Lib.hid hbx.style
 have lb0:=hbx.lt
 have b1:Below w.heap.size w ((w.alloc (.cells #[.int .i64 z,.int .i64 i0,.int .i64 i1] 92)).alloc (.cells #[.slice none 0 0,.int .i64 0] 144)):=Below.alloc' (Below.alloc' (Below.refl _ _) _) _
 have A0:At ((w.alloc (.cells #[.int .i64 z,.int .i64 i0,.int .i64 i1] 92)).alloc (.cells #[.slice none 0 0,.int .i64 0] 144)) w.heap.size (.cells #[.int .i64 z,.int .i64 i0,.int .i64 i1] 92):=At.alloc (At.new _ _) _
 have A4:At ((w.alloc (.cells #[.int .i64 z,.int .i64 i0,.int .i64 i1] 92)).alloc (.cells #[.slice none 0 0,.int .i64 0] 144)) (w.heap.size + 1) (.cells #[.slice none 0 0,.int .i64 0] 144):=At.new' _ Z3s
 have hS1:=hS.after b1
 have hlw:=hRw.keep hK b1
 clear hdn hR0 hRw hS hpm0 hs hbx hfl hKp hn
 go_enter Tryz.func105,Tryz.ntmps105
 go_upto_region 1 with (fail)
 generalize (w.alloc (.cells #[.int .i64 z,.int .i64 i0,.int .i64 i1] 92)).alloc (.cells #[.slice none 0 0,.int .i64 0] 144)=w1 at *
 have A4lt:=A4.lt
 have hsz:=b1.size
 have hlk:=fun X (h:Below w1.heap.size w1 X)=>(hlw.keep hK h).look hz
 simp only [hb0] at hlk
 have hst1:=Lib.hid (fun j hj=>(b1.cell (p:=⟨b0,0 + j,none⟩) lb0).trans (hSty.out j hj):StyAt w1 b0 0 s)
 have lb1:b0<w1.heap.size:=Nat.lt_of_lt_of_le lb0 hsz
 obtain ⟨lY,cY0,cY1,cY2,cY3,cY4,cY5⟩:=At.six hlw.lay
 obtain ⟨l0,c0_0,c0_1,c0_2⟩:=At.three A0
 have hSd:Below w1.heap.size w1 w1.drew:=Below.drew (Below.refl _ _)
 refine tkX (S:=fun X=>Below w1.heap.size w1 X) 12 ?_ ?_
 · exact hSd
 intro hx
 clear hSd
 refine tkB 0 ?_
 refine tkB 1 ?_
 refine tkB 2 ?_
 refine tkB 3 ?_
 refine tkB 4 ?_
 refine tkB 5 ?_
 refine tkR 6 rfl (reads_lookup Z3n rfl rfl rfl (fun X h=>hlk X h)) ?_
 refine tkB 7 ?_
 refine tkB 8 ?_
 refine tkR 9 rfl (reads_load_sty Z3n (.tmp 29) rfl rfl (fun X h=>fun j hj=>(h.cell (p:=⟨b0,0 + j,none⟩) lb1).trans (hst1.out j hj))) ?_
 refine tk1 10 ?_
 refine Drawn.Step.value (exec_alloc_sty rfl) ?_
 obtain ⟨w2,hw2,AS,hb2,gT⟩:∃ w2,w2=w1.drew.alloc (.cells (cells Re.zero) 37)∧At w2 w1.drew.heap.size (.cells (cells Re.zero) 37)∧Below w1.drew.heap.size w1.drew w2∧w1.heap.size≤w1.drew.heap.size:=⟨_,rfl,At.new _ _,Below.alloc' (Below.refl _ _) _,hx.size⟩
 rw [← hw2]
 clear hw2
 replace hx:=Below.after2 hx (Nat.le_refl _) hb2
 generalize w1.drew.heap.size=T at *
 refine ⟨fun _=>hx,?_⟩
 (try simp only [tkp,tka,tkz,tks])
 refine tk1 11 ?_
 refine Drawn.Step.skip (exec_store_sty (.tmp 5) (.tmp 30) rfl rfl rfl AS) ?_
 replace AS:At (w2.setRow T (cells s)) T (.cells (cells s) 37):=At.setRow AS _
 have hx2:Below w1.heap.size w1 (w2.setRow T (cells s)):=setRow_below hx gT _
 generalize w2.setRow T (cells s)=w3 at *
 refine ⟨fun _=>hx2,?_⟩
 (try simp only [tkp,tka,tkz,tks])
 refine tkE ?_
 have hsz3:=hx2.size
 have hS3:=hS1.after hx2
 have B3:=A0.keep hx2
 have C3:=A4.keep hx2
 have hR3:=hS3.ro hKO HR0.out hkm
 have keyI:Calls Tryz.prog 141 #[.pointer (some ⟨Y.lb,0,none⟩),.agg #[.int .i64 z,.int .i64 i0,.int .i64 i1]] w3 fun e w'=>(∃ R q cs,e = .returned (.slice (some ⟨R,q,none⟩) m m)∧w3.heap.size≤R∧At w' R (.cells cs 203)∧ISub cs q xs0)∧Below w3.heap.size w3 w':=by
  exact Z2f
 obtain ⟨l0,c0_0,c0_1,c0_2⟩:=At.three B3
 have hTN:w.heap.size + 1<T:=by omega
 have lT:=AS.lt
 clear b1 A0 A4 hS1 hlw hst1 hlk cY0 cY1 cY2 cY3 cY4 cY5 lY hSty hb2 hx hR3 lb0 lb1 hb0
 go_upto_region 4 with (go_at_call 141;(with_reducible refine keyI.mono ?_);rintro e' w4 ⟨⟨R,q,cs,rfl,gR,hA4,hI4⟩,hb4⟩)
 clear keyI
 have HI4:=Lib.hid hI4
 have hS4:=hS3.after hb4
 have B4:=B3.keep hb4
 have C4:=C3.keep hb4
 have hST4:=Lib.hid (AS.keep hb4)
 have hsz4:=hb4.size
 have hR1:w.heap.size≤R:=by omega
 have hPR:¬ P R:=fun h=>by have:=hP R h;omega
 have lR4:=hA4.lt
 have hTR:T<R:=by omega
 have hT4:T<w4.heap.size:=by omega
 obtain ⟨N4,hN4⟩:∃ N,w4.heap.size=N:=⟨_,rfl⟩
 rw [hN4] at lR4 hT4
 have HN4:=Lib.hid hN4
 clear hb4 hI4 AS B3 C3 hS3 hx2 l0 c0_0 c0_1 c0_2 hN4
 go_loopw [36] (fun iv wr=>∃ (k n':Nat) (P':Nat→Prop) (cs':Array Value),k≤m∧iv = .int .i64 k∧n'≤n + csum B f xs0 k∧LSt Y B F w P n' P' wr∧(∀ b,b<N4→P' b→P b)∧N4≤wr.heap.size∧At wr R (.cells cs' 203)∧Hid (ISub cs' q (chg (clA B f z i0 i1) xs0 k))∧At wr w.heap.size (.cells #[.int .i64 z,.int .i64 i0,.int .i64 i1] 92)∧At wr (w.heap.size + 1) (.cells #[.slice none 0 0,.int .i64 0] 144)∧Hid (At wr T (.cells (cells s) 37))) (fun iv _=>m - (intOf iv).toNat)
 case atStart=>exact ⟨0,n,P,cs,Nat.zero_le _,rfl,by simp [csum],hS4,fun b hb h=>h,by rw [HN4.out];exact Nat.le_refl _,hA4,Lib.hid (by rw [chg_zero];exact HI4.out),B4,C4,hST4⟩
 case round =>
  clear hS4 hA4 B4 C4 hST4
  obtain ⟨k,n',P',cs',hk,rfl,hn',hSr,hPn,hNr,hAr,hC,A0,A4,hST⟩:=hrel
  by_cases hlt:k<m
  · have hltz:(k:Int)<(m:Int):=by omega
    have hkx:k<xs0.length:=by rw [HL0.out];exact hlt
    have hkc:k<(chg (clA B f z i0 i1) xs0 k).length:=by rw [chg_length];exact hkx
    have hIm:=hC.out.at_ hAr hkc
    rw [chg_get _ _ hkx] at hIm
    obtain ⟨x,hx⟩:∃ x,xs0[k]=x:=⟨_,rfl⟩
    have hxok:=Lib.hid (HOK0.out x (hx ▸ List.getElem_mem _))
    rw [hx] at hIm
    have HX:=Lib.hid hx
    have HSr:=Lib.hid hSr
    have hRr:=hSr.ro hKO HR0.out hkm
    have hbx:=(hRr.box x.ld.id hxok.out.d).1
    rw [← hxok.out.bx] at hbx
    obtain ⟨sx,hsx⟩:∃ s,(B x.ld.id).sty=s:=⟨_,rfl⟩
    rw [hsx] at hbx
    generalize Y.vf x.ld.id=vf at hbx
    generalize Y.va x.ld.id=va at hbx
    generalize (B x.ld.id).ib=ib at hbx
    have HSX:=Lib.hid hsx
    have HBX:=Lib.hid hbx
    have hPR':¬ P' R:=fun h=>hPR (hPn R lR4 h)
    have lRr:=hAr.lt
    have cbx:wr.cell? ⟨R,q + k * 17 + 12,none⟩=some (.pointer (some ⟨x.bx,0,none⟩)):=(hIm 12 Z3f).trans rfl
    have cid:wr.cell? ⟨R,q + k * 17 + 5,none⟩=some (.int .i64 x.ld.id):=(hIm 5 Z3f).trans rfl
    obtain ⟨l0,c0_0,c0_1,c0_2⟩:=At.three A0
    clear hRr hbx hIm hsx hx hSr
    go_upto_region 7 with (fail)
    have HSd2:=Lib.hid (HSr.out.after ((Below.refl wr.heap.size wr).drew))
    have hcs1:=csum_succ B f xs0 hkx
    rw [HX.out] at hcs1
    have hcs2:=csum_le B f xs0 (k + 1)
    rw [HL0.out,HCS.out] at hcs2
    have hnn:=HN.out
    obtain ⟨cs0,hcs0⟩:∃ c,Fw.colSet B z i0 x.ld.id=c:=⟨_,rfl⟩
    have keyC:=fcolset hK z x.ld.id i0 i1 hz hxok.out.d x.bx hxok.out.bx wr.drew (HSd2.out.ro hKO HR0.out hkm)
    rw [hcs0] at keyC
    obtain ⟨ly,hly⟩:∃ y,Fw.lay B f x.ld.id i0 i1 cs0 (-1)=y:=⟨_,rfl⟩
    have hlyid:ly.id=x.ld.id:=by rw [← hly];rfl
    have HFI:=Lib.hid (show q + k * 17 + 5 + 7≤cs'.size by have:=hC.out.1;rw [chg_length] at this;have h2:k * 17 + 17≤xs0.length * 17:=Z3f;omega)
    have n1:w.heap.size≠Y.pm:=by omega
    have n2:w.heap.size≠R:=by omega
    have n34:=HR0.out.box x.ld.id hxok.out.d
    rw [← hxok.out.bx] at n34
    have n3:x.bx≠Y.pm:=fun e=>by
     obtain ⟨es1,ck1,hp1⟩:=HR0.out.pmo
     have h1:=n34.1
     rw [e] at h1
     exact absurd (h1.symm.trans hp1) Z3t
    have n4:x.bx≠R:=by have:=n34.1.lt;omega
    clear n34
    have hSd:Out (fun b=>b=Y.pm∨b=R) wr wr.drew∧wr.drew.cell? ⟨R,q + k * 17 + 5,none⟩=some (.int .i64 x.ld.id)∧wr.drew.cell? ⟨R,q + k * 17 + 12,none⟩=some (.pointer (some ⟨x.bx,0,none⟩)):=⟨(Out.refl _ _).drew,cid,cbx⟩
    refine tkX (S:=fun X=>Out (fun b=>b=Y.pm∨b=R) wr X∧X.cell? ⟨R,q + k * 17 + 5,none⟩=some (.int .i64 x.ld.id)∧X.cell? ⟨R,q + k * 17 + 12,none⟩=some (.pointer (some ⟨x.bx,0,none⟩))) 21 ?_ ?_
    · exact hSd
    intro hx
    clear hSd
    refine tkQ 0 ?_
    refine tkQ 1 ?_
    refine tkQ 2 ?_
    refine tkQ 3 ?_
    refine tkQ 4 ?_
    refine tkQ 5 ?_
    refine tkQ 6 ?_
    refine tkQ 7 ?_
    refine tkQ 8 ?_
    refine tkQ 9 ?_
    refine tkQ 10 ?_
    refine tkQ 11 ?_
    refine tkQ 12 ?_
    refine tkQ 13 ?_
    refine tkQ 14 ?_
    refine tkQ 15 ?_
    refine tk1 16 ?_
    refine Drawn.Step.call tkL keyC ?_
    rintro e' w6 ⟨rfl,hb6⟩
    have hO6:Out (fun b=>b=Y.pm∨b=R) wr w6:=Out.trans' ((Out.refl _ wr).drew) (Out.of_below (M:=fun _=>False) hb6) fun _ _ q=>q.elim
    have hS6:=HSd2.out.after hb6
    have hb06:=(Below.drew (Below.refl wr.heap.size wr)).trans hb6
    have hA6:=hAr.keep hb06
    have hid6:w6.cell? ⟨R,q + k * 17 + 5,none⟩=some (.int .i64 x.ld.id):=(hb6.cell (p:=⟨R,_,none⟩) lRr).trans cid
    have hbx6:w6.cell? ⟨R,q + k * 17 + 12,none⟩=some (.pointer (some ⟨x.bx,0,none⟩)):=(hb6.cell (p:=⟨R,_,none⟩) lRr).trans cbx
    have hx6:Out (fun b=>b=Y.pm∨b=R) wr w6∧w6.cell? ⟨R,q + k * 17 + 5,none⟩=some (.int .i64 x.ld.id)∧w6.cell? ⟨R,q + k * 17 + 12,none⟩=some (.pointer (some ⟨x.bx,0,none⟩)):=⟨hO6,hid6,hbx6⟩
    refine ⟨_,rfl,fun _=>hx6,?_⟩
    (try simp only [tkp,tka,tkz,tks])
    have keyY:=lay_call hL hKO HR0.out hkm hS6 x.ld.id i0 i1 cs0 (-1) hxok.out.d hxok.out.f Z3f
    rw [hly] at keyY
    refine tk1 17 ?_
    refine Drawn.Step.call tkL keyY ?_
    rintro e' w10 ⟨rfl,n2',P2,hn2,hS10,hPs,hO10⟩
    have lR6:=hA6.lt
    have hA10:=hA6.out (M:=fun b=>b=Y.pm) Z3f hO10
    have hid10:w10.cell? ⟨R,q + k * 17 + 5,none⟩=some (.int .i64 x.ld.id):=(Out.cell hO10 (q + k * 17 + 5) lR6 Z3f).trans hid6
    have hbx10:w10.cell? ⟨R,q + k * 17 + 12,none⟩=some (.pointer (some ⟨x.bx,0,none⟩)):=(Out.cell hO10 (q + k * 17 + 12) lR6 Z3f).trans hbx6
    have hO10r:Out (fun b=>b=Y.pm∨b=R) wr w10:=hO6.trans (hO10.mono fun b _ h => .inl h)
    have hx10:Out (fun b=>b=Y.pm∨b=R) wr w10∧w10.cell? ⟨R,q + k * 17 + 5,none⟩=some (.int .i64 x.ld.id)∧w10.cell? ⟨R,q + k * 17 + 12,none⟩=some (.pointer (some ⟨x.bx,0,none⟩)):=⟨hO10r,hid10,hbx10⟩
    refine ⟨_,rfl,fun _=>hx10,?_⟩
    (try simp only [tkp,tka,tkz,tks])
    refine tkQ 18 ?_
    refine tkQ 19 ?_
    refine tk1 20 ?_
    refine Drawn.Step.skip (exec_store_at siz_ld (.tmp 61) (.tmp 59) rfl rfl rfl hA10 (ldc_size ly) HFI.out (ldc_one ly)) ?_
    have hA11:At (w10.setRow R (splice cs' (q + k * 17 + 5) (ldc ly))) R (.cells (splice cs' (q + k * 17 + 5) (ldc ly)) 203):=At.setRow hA10 _
    have hO11:Out (fun b=>b=R) w10 (w10.setRow R (splice cs' (q + k * 17 + 5) (ldc ly))):=Out.setRow (M:=fun b=>b=R) (Out.refl _ _) rfl _
    have hid11:(w10.setRow R (splice cs' (q + k * 17 + 5) (ldc ly))).cell? ⟨R,q + k * 17 + 5,none⟩=some (.int .i64 x.ld.id):=by
     exact Z1v
    have c9:(w10.setRow R (splice cs' (q + k * 17 + 5) (ldc ly))).cell? ⟨R,q + k * 17 + 9,none⟩=some (.int .i64 ly.s1):=by
     have h1:=splice_in (cs:=cs') (vs:=ldc ly) (q:=q + k * 17 + 5) (j:=4) Z4c (by rw [ldc_size];omega)
     rw [hA11.cell,show q + k * 17 + 9=q + k * 17 + 5 + 4 by omega,h1]
     rfl
    have hbx11:(w10.setRow R (splice cs' (q + k * 17 + 5) (ldc ly))).cell? ⟨R,q + k * 17 + 12,none⟩=some (.pointer (some ⟨x.bx,0,none⟩)):=by
     exact Z2v
    refine ⟨fun _=>⟨hO10r.trans (hO11.mono fun b _ h => .inr h),hid11,hbx11⟩,?_⟩
    (try simp only [tkp,tka,tkz,tks])
    refine tkE ?_
    have hPR2:¬ P2 R:=fun h=>hPR' (hPs R lR6 h)
    have hput:=hC.out.putLd hkc ly
    rw [chg_get _ _ hkx,HX.out] at hput
    have hOr:Out (fun b=>b=Y.pm∨b=R) wr (w10.setRow R (splice cs' (q + k * 17 + 5) (ldc ly))):=hO10r.trans (hO11.mono fun b _ h => .inr h)
    have hS11:=hS10.own (M:=fun b=>b=R) hO11 fun b hb h=>by subst h;exact ⟨hPR2,hR1⟩
    have HPUT:=Lib.hid hput.1
    have HSZ2:Hid ((splice cs' (q + k * 17 + 5) (ldc ly)).size=cs'.size):=Lib.hid (splice_size Z4c)
    have B11:=A0.out (M:=fun b=>b=Y.pm∨b=R) Z3f hOr
    have C11:=A4.out (M:=fun b=>b=Y.pm∨b=R) Z3f hOr
    have hST11:=Lib.hid (hST.out.out (M:=fun b=>b=Y.pm∨b=R) Z3f hOr)
    have HBX11:=Lib.hid (At.out (M:=fun b=>b=Y.pm∨b=R) HBX.out Z3f hOr)
    have hwr6:wr.heap.size≤w6.heap.size:=hO6.size
    have hPn2:∀ b,b<N4→P2 b→P b:=fun b hb h=>hPn b hb (hPs b Z3f h)
    have hN11:N4≤(w10.setRow R (splice cs' (q + k * 17 + 5) (ldc ly))).heap.size:=Nat.le_trans hNr hOr.size
    generalize w10.setRow R (splice cs' (q + k * 17 + 5) (ldc ly))=w11 at *
    generalize splice cs' (q + k * 17 + 5) (ldc ly)=cs2 at *
    clear hx hx6 hx10 hput hA10 hO11 hid11 hid10 hbx10 A0 A4 hA6 hS6 hO6 hO10 hO10r hid6 hbx6 l0 c0_0 c0_1 c0_2 cbx cid hOr hPs hS10 keyC keyY hb06 hb6 hST HBX hAr lRr hwr6
    obtain ⟨l2,c2_0,c2_1,c2_2,c2_3,c2_4,c2_5,c2_6,c2_7⟩:=At.bx1 HBX11.out
    clear c2_0 c2_1 c2_2 c2_3 c2_4 c2_5
    have lR11:=hA11.lt
    have keyA:=fun X=>fall_any (Fw.ed sx 0) (Fw.ed sx 2) X
    obtain ⟨e02,he02⟩:∃ v,Fw.wr (Fw.ed sx 0 + Fw.ed sx 2)=v:=⟨_,rfl⟩
    simp only [he02] at keyA
    obtain ⟨hh,hhh⟩:∃ t,IntKind.i64.wrap (ly.s1 - e02)=t:=⟨_,rfl⟩
    go_upto_region 8 with (fail)
    have hSd:Below w11.heap.size w11 w11.drew:=Below.drew (Below.refl _ _)
    refine tkX (S:=fun X=>Below w11.heap.size w11 X) 17 ?_ ?_
    · exact hSd
    intro hx
    clear hSd
    refine tkB 0 ?_
    refine tkB 1 ?_
    refine tkB 2 ?_
    refine tkB 3 ?_
    refine tkB 4 ?_
    refine tkB 5 ?_
    refine tkB 6 ?_
    refine tkB 7 ?_
    refine tkB 8 ?_
    refine tkB 9 ?_
    refine tkB 10 ?_
    refine tkB 11 ?_
    refine tkB 12 ?_
    refine tkB 13 ?_
    refine tk1 14 ?_
    refine Drawn.Step.call tkL (keyA _) ?_
    rintro e' w12 ⟨rfl,hb⟩
    replace hx:=Below.after2 hx (Nat.le_refl _) hb
    clear hb
    refine ⟨_,rfl,fun _=>hx,?_⟩
    (try simp only [tkp,tka,tkz,tks])
    refine tkB 15 ?_
    refine tkB 16 ?_
    refine tkE ?_
    have hA12:=hA11.keep hx
    have hS12:=hS11.after hx
    have B12:=B11.keep hx
    have C12:=C11.keep hx
    have hST12:=Lib.hid (hST11.out.keep hx)
    have HBX12:=Lib.hid (BxAt.keep HBX11.out hx)
    have c12:w12.cell? ⟨R,q + k * 17 + 12,none⟩=some (.pointer (some ⟨x.bx,0,none⟩)):=(hx.cell (p:=⟨R,_,none⟩) lR11).trans hbx11
    have hN12:N4≤w12.heap.size:=Nat.le_trans hN11 hx.size
    clear hx hA11 hS11 B11 C11 hST11 HBX11 hbx11 c9 l2 c2_6 c2_7 keyA hN11 lR11
    have lbx:=BxAt.lt HBX12.out
    have lR12:=hA12.lt
    obtain ⟨l0,c0_0,c0_1,c0_2⟩:=At.three B12
    obtain ⟨it,hit⟩:∃ t,Fw.asI sx 1 hh i1=t:=⟨_,rfl⟩
    have keyT:∀ X,Calls Tryz.prog 142 #[.agg #[.int .i64 (sx.c 5),.int .i64 (sx.c 6),.int .i64 (sx.c 9),.int .i64 (sx.c 10),.int .i64 (sx.c 13),.int .i64 (sx.c 14)],.agg (cells sx),.int .i64 hh,.int .i64 i1] X fun e X'=>e = .returned (.agg (itv it))∧Below X.heap.size X X':=fun X=>by
     rw [← hit]
     exact fasitem _ _ _ _ _ _ sx hh i1 X
    have HFI2:=Lib.hid (show q + k * 17 + 5≤cs2.size by have:=HFI.out;have:=HSZ2.out;omega)
    have hSd:Out (fun b=>b=R) w12 w12.drew∧w12.drew.cell? ⟨R,q + k * 17 + 12,none⟩=some (.pointer (some ⟨x.bx,0,none⟩)):=⟨(Out.refl _ _).drew,c12⟩
    go_upto_region 9 with (fail)
    refine tkX (S:=fun X=>Out (fun b=>b=R) w12 X∧X.cell? ⟨R,q + k * 17 + 12,none⟩=some (.pointer (some ⟨x.bx,0,none⟩))) 24 ?_ ?_
    · exact hSd
    intro hx
    clear hSd
    refine tkQ 0 ?_
    refine tkQ 1 ?_
    refine tkQ 2 ?_
    refine tkQ 3 ?_
    refine tkQ 4 ?_
    refine tkQ 5 ?_
    refine tkQ 6 ?_
    refine tkQ 7 ?_
    refine tkR 8 rfl (reads_ext1 (.tmp 85) Z3n rfl rfl (fun X h=>At.out HBX12.out n4 h.1)) ?_
    refine tkQ 9 ?_
    refine tkQ 10 ?_
    refine tkQ 11 ?_
    refine tkQ 12 ?_
    refine tkQ 13 ?_
    refine tkQ 14 ?_
    refine tkR 15 rfl (reads_load_sty Z3n (.tmp 92) rfl rfl (fun X h=>BxAt.style (At.out HBX12.out n4 h.1))) ?_
    refine tkQ 16 ?_
    refine tkQ 17 ?_
    refine tkQ 18 ?_
    refine tkQ 19 ?_
    refine tk1 20 ?_
    refine Drawn.Step.call tkL (keyT _) ?_
    rintro e' w13 ⟨rfl,hb⟩
    have hA13:At w13 R (.cells cs2 203):=At.keep (At.drew hA12) hb
    have hO13:Out (fun b=>b=R) w12 w13:=Out.trans' ((Out.refl _ w12).drew) (Out.of_below (M:=fun _=>False) hb) fun _ _ q=>q.elim
    have c13:w13.cell? ⟨R,q + k * 17 + 12,none⟩=some (.pointer (some ⟨x.bx,0,none⟩)):=(hb.cell (p:=⟨R,_,none⟩) lR12).trans c12
    have hx13:Out (fun b=>b=R) w12 w13∧w13.cell? ⟨R,q + k * 17 + 12,none⟩=some (.pointer (some ⟨x.bx,0,none⟩)):=⟨hO13,c13⟩
    refine ⟨_,rfl,fun _=>hx13,?_⟩
    (try simp only [tkp,tka,tkz,tks])
    refine tkQ 21 ?_
    refine tkQ 22 ?_
    refine tk1 23 ?_
    refine Drawn.Step.skip (exec_store_at (q:=q + k * 17) siz_fi (.tmp 100) (.tmp 98) rfl rfl rfl hA13 (itv_size it) HFI2.out (itv_one it)) ?_
    have hA14:=At.setRow hA13 (splice cs2 (q + k * 17) (itv it))
    have hO14:Out (fun b=>b=R) w13 (w13.setRow R (splice cs2 (q + k * 17) (itv it))):=Out.setRow (M:=fun b=>b=R) (Out.refl _ _) rfl _
    have c14:(w13.setRow R (splice cs2 (q + k * 17) (itv it))).cell? ⟨R,q + k * 17 + 12,none⟩=some (.pointer (some ⟨x.bx,0,none⟩)):=by
     have h1:=splice_out (cs:=cs2) (vs:=itv it) (q:=q + k * 17) (k:=q + k * 17 + 12) (by rw [itv_size];exact HFI2.out) (.inr (by rw [itv_size];omega))
     rw [hA14.cell,h1, ← hA13.cell]
     exact c13
    refine ⟨fun _=>⟨hO13.trans hO14,c14⟩,?_⟩
    (try simp only [tkp,tka,tkz,tks])
    refine tkE ?_
    have hOn:=hO13.trans hO14
    have hkc2:k<((chg (clA B f z i0 i1) xs0 k).set k { x with ld:=ly }).length:=by rw [List.length_set];exact hkc
    have hput2:=HPUT.out.putIt hkc2 it
    rw [List.getElem_set_self,List.set_set] at hput2
    have hC14:Hid (ISub (splice cs2 (q + k * 17) (itv it)) q (chg (clA B f z i0 i1) xs0 (k + 1))):=Lib.hid (by
     rw [← chg_succ _ _ hkx,HX.out]
     have e:clA B f z i0 i1 x={ x with ld:=ly,it:=it }:=by
      unfold clA colIt
      rw [hcs0,hly,HSX.out, ← hit, ← hhh,wri, ← he02]
      rfl
     rw [e]
     exact hput2.1)
    have hS14:=hS12.own (M:=fun b=>b=R) hOn fun b hb h=>by subst h;exact ⟨hPR2,hR1⟩
    have B14:=B12.out (M:=fun b=>b=R) n2 hOn
    have C14:=C12.out (M:=fun b=>b=R) Z3f hOn
    have hST14:=Lib.hid (hST12.out.out (M:=fun b=>b=R) Z3f hOn)
    have hN14:=Nat.le_trans hN12 hOn.size
    generalize w13.setRow R (splice cs2 (q + k * 17) (itv it))=w14 at *
    generalize splice cs2 (q + k * 17) (itv it)=cs4 at *
    clear hx hput2 hA12 hA13 hO13 hO14 hOn c12 c13 c14 hS12 B12 C12 hST12 HBX12 l0 c0_0 c0_1 c0_2 keyT lbx lR12 hN12 hhh he02 hit hly hcs0 HPUT hC
    go_wp2
    go_roundw
    case rel=>exact ⟨k + 1,n2',P2,cs4,by omega,by go_num,by omega,hS14,hPn2,hN14,hA14,hC14,B14,C14,hST14⟩
    case measure=>simp [intOf];omega
  · obtain rfl:k=m:=by omega
    have hC1:Hid (ISub cs' q xs1):=Lib.hid (by
     have:=hC.out
     rw [← HL0.out,chg_all, ← HX1.out] at this
     exact this)
    have hn1:n'≤n + csum B f xs0 k:=hn'
    have hPn1:=Lib.hid hPn
    have hRr:=hSr.ro hKO HR0.out hkm
    have cS46:wr.cell? ⟨T,46,none⟩=some (.int .i64 (s.c 46)):=(hST.out.cell 46).trans (cells_int s Z3f rfl)
    have lTr:=hST.out.lt
    have lRr:=hAr.lt
    have keyZ:Calls Tryz.prog 148 #[.slice (some ⟨R,q,none⟩) k k,.agg #[.int .i64 i0,.int .i64 i1],.int .i64 (s.c 46)] wr fun e w'=>(∃ b,e = .returned (.slice (some ⟨b,0,none⟩) k k)∧wr.heap.size≤b∧Ints w' (some ⟨b,0,none⟩) sz)∧Below wr.heap.size wr w':=by
     have hg:∀ i,i<fl.length→fl.getD i 0=fl[i]! := fun i h=>by simp [List.getD,h]
     have hG:∀ i (h:i<xs1.length),xs1[i]=clA B f z i0 i1 (newIm Y B i0 (fl.getD i 0)):=fun i h=>by
      have h':i<fl.length:=by have:=HL1.out;have:=HM.out;omega
      have e1:=HX1.out
      subst e1
      have e0:=HX0.out
      subst e0
      simp [newIms,List.getD,List.getElem?_eq_getElem h']
     have h1:=fcolszs (some ⟨R,q,none⟩) xs1 k i0 i1 (s.c 46) (fun i=>colIt B f z i0 i1 (fl.getD i 0)) (fun i=>Fw.kex B i0 1 (fl.getD i 0)) (fun i=>(B (fl.getD i 0)).sty) wr (hC1.out.ims hAr) (by rw [HL1.out];omega) (fun i h=>by rw [hG i h];rfl) (fun i h=>by rw [hG i h];rfl) (fun i h=>by
      have ho:=HOK1.out xs1[i] (List.getElem_mem _)
      have hb:=(hRr.box _ ho.d).1
      rw [← ho.bx] at hb
      have e:xs1[i].ld.id=fl.getD i 0:=by rw [hG i h];rfl
      have e2:(B xs1[i].ld.id).sty=(B (fl.getD i 0)).sty:=by rw [e]
      rw [e2] at hb
      exact ⟨_,_,_,hb⟩)
     rw [HL1.out] at h1
     have e:colSz (fun i=>colIt B f z i0 i1 (fl.getD i 0)) (fun i=>Fw.kex B i0 1 (fl.getD i 0)) k i1 (s.c 46)=sz:=by rw [← HSZ.out];unfold clS;rw [HM.out,HSS.out]
     rw [e] at h1
     exact h1
    obtain ⟨l0,c0_0,c0_1,c0_2⟩:=At.three A0
    have HSr:=Lib.hid hSr
    have hk64:k≤64:=hl
    clear hC hn' hlt hRr hSr hPn HI4
    go_upto_region 12 with (go_at_call 148;(with_reducible refine keyZ.mono ?_);rintro e' w5 ⟨⟨bz,rfl,gbz,hIz⟩,hb5⟩)
    have hS5:=HSr.out.after hb5
    have hA5:=hAr.keep hb5
    have B5:=A0.keep hb5
    have C5:=A4.keep hb5
    have hST5:=Lib.hid (hST.out.keep hb5)
    have hIz5:=Lib.hid hIz
    have hN5:N4≤w5.heap.size:=Nat.le_trans hNr hb5.size
    have gz:N4≤bz:=Nat.le_trans hNr gbz
    clear keyZ hb5 hIz HSr hAr A0 A4 hST hNr gbz l0 c0_0 c0_1 c0_2 cS46 lTr lRr
    go_loopw [109] (fun iv wr=>∃ (j n2:Nat) (P2:Nat→Prop) (cs2:Array Value),j≤k∧iv = .int .i64 j∧n2≤n + csum B f xs0 k + csum B f xs1 j∧LSt Y B F w P n2 P2 wr∧(∀ b,b<N4→P2 b→P b)∧N4≤wr.heap.size∧At wr R (.cells cs2 203)∧Hid (ISub cs2 q (chgI (clB B f z i0 i1 sz) xs1 j))∧At wr w.heap.size (.cells #[.int .i64 z,.int .i64 i0,.int .i64 i1] 92)∧At wr (w.heap.size + 1) (.cells #[.slice none 0 0,.int .i64 0] 144)∧Hid (At wr T (.cells (cells s) 37))∧Hid (Ints wr (some ⟨bz,0,none⟩) sz)) (fun iv _=>k - (intOf iv).toNat)
    case atStart=>exact ⟨0,n',P',cs',Nat.zero_le _,rfl,by have h0:csum B f xs1 0=0:=rfl;omega,hS5,hPn1.out,hN5,hA5,Lib.hid (by rw [chgI_zero];exact hC1.out),B5,C5,hST5,hIz5⟩
    case round =>
     clear hS5 hA5 B5 C5 hST5 hIz5 hC1 hPn1 hn1 hN5
     obtain ⟨j,n2,P2,cs2,hj,rfl,hn2,hSr,hPn,hNr,hAr,hC,A0,A4,hST,hIz⟩:=hrel
     by_cases hlt:j<k
     · have hltz:(j:Int)<(k:Int):=by omega
       have hjx:j<xs1.length:=by rw [HL1.out];exact hlt
       have hjc:j<(chgI (clB B f z i0 i1 sz) xs1 j).length:=by rw [chgI_length];exact hjx
       have hIm:=hC.out.at_ hAr hjc
       rw [chgI_get _ _ hjx] at hIm
       obtain ⟨x,hx⟩:∃ x,xs1[j]=x:=⟨_,rfl⟩
       have hxok:=Lib.hid (HOK1.out x (hx ▸ List.getElem_mem _))
       rw [hx] at hIm
       have HX:=Lib.hid hx
       have HSr:=Lib.hid hSr
       have hRr:=hSr.ro hKO HR0.out hkm
       have hbx:=(hRr.box x.ld.id hxok.out.d).1
       rw [← hxok.out.bx] at hbx
       obtain ⟨sx,hsx⟩:∃ s,(B x.ld.id).sty=s:=⟨_,rfl⟩
       rw [hsx] at hbx
       generalize Y.vf x.ld.id=vf at hbx
       generalize Y.va x.ld.id=va at hbx
       generalize (B x.ld.id).ib=ib at hbx
       have HSX:=Lib.hid hsx
       have HBX:=Lib.hid hbx
       have hPR':¬ P2 R:=fun h=>hPR (hPn R lR4 h)
       have lRr:=hAr.lt
       have cbx:wr.cell? ⟨R,q + j * 17 + 12,none⟩=some (.pointer (some ⟨x.bx,0,none⟩)):=(hIm 12 Z3f).trans rfl
       have cid:wr.cell? ⟨R,q + j * 17 + 5,none⟩=some (.int .i64 x.ld.id):=(hIm 5 Z3f).trans rfl
       obtain ⟨lz,cz⟩:=lints hIz.out (by rw [HLZ.out];exact hlt)
       obtain ⟨v,hv⟩:∃ v,sz.getD j 0=v:=⟨_,rfl⟩
       rw [hv] at cz
       obtain ⟨l0,c0_0,c0_1,c0_2⟩:=At.three A0
       clear hRr hbx hIm hsx hx hSr
       go_upto_region 15 with (fail)
       clear cz lz
       have keyC:=fun X (h:Below wr.heap.size wr X)=>fcolset hK z x.ld.id i0 i1 hz hxok.out.d x.bx hxok.out.bx X ((HSr.out.after h).ro hKO HR0.out hkm)
       obtain ⟨cs0,hcs0⟩:∃ c,Fw.colSet B z i0 x.ld.id=c:=⟨_,rfl⟩
       simp only [hcs0] at keyC
       refine Drawn.wp_behind (fun a0 a W5=>∃ (U:Nat) (u117 u118 u119 u120 u121 u122 u123:Value),a={ a0 with tmps:=(((((((a0.tmps.setIfInBounds 117 u117).setIfInBounds 118 u118).setIfInBounds 119 u119).setIfInBounds 120 u120).setIfInBounds 121 u121).setIfInBounds 122 u122).setIfInBounds 123 u123).setIfInBounds 13 (.pointer (some ⟨U,0,none⟩)) }∧wr.heap.size≤U∧At W5 U (.cells #[.int .i64 cs0,.int .i64 (-1)] 88)∧Below wr.heap.size wr W5) ?_ ?_
       · have hSd:Below wr.heap.size wr wr.drew:=Below.drew (Below.refl _ _)
         refine tkX (S:=fun X=>Below wr.heap.size wr X) 9 ?_ ?_
         · exact hSd
         intro hx
         clear hSd
         refine tkB 0 ?_
         refine tkB 1 ?_
         refine tkB 2 ?_
         refine tkB 3 ?_
         refine tkB 4 ?_
         refine tkB 5 ?_
         clear cbx cid l0 c0_0 c0_1 c0_2 HBX hC hST hIz A0 A4 hAr
         refine tk2 6 7 ?_ ?_
         · refine Drawn.Step.call tkL (keyC _ hx) ?_
           rintro e' w9 ⟨rfl,hb⟩
           replace hx:=Below.after2 hx (Nat.le_refl _) hb
           clear hb
           refine ⟨_,rfl,fun _=>hx,?_⟩
           (try simp only [tkp,tka,tkz,tks])
           refine tk1 7 ?_
           refine Drawn.Step.value (u:= .pointer (some ⟨w9.heap.size,0,none⟩)) (w':=w9.alloc (.cells #[.int .i64 0,.int .i64 0] 88)) tkL ?_
           obtain ⟨w10,hw9,AT,hb9,gT⟩:∃ w10,w10=w9.alloc (.cells #[.int .i64 0,.int .i64 0] 88)∧At w10 w9.heap.size (.cells #[.int .i64 0,.int .i64 0] 88)∧Below w9.heap.size w9 w10∧wr.heap.size≤w9.heap.size:=⟨_,rfl,At.new _ _,Below.alloc' (Below.refl _ _) _,hx.size⟩
           rw [← hw9]
           clear hw9
           replace hx:=Below.after2 hx (Nat.le_refl _) hb9
           generalize w9.heap.size=U at *
           refine ⟨fun _=>hx,?_⟩
           exact Z1f
         · refine Drawn.Step.value (u:= .pointer (some ⟨wr.drew.heap.size,0,none⟩)) (w':=wr.drew.alloc (.cells #[.int .i64 0,.int .i64 0] 88)) tkL ?_
           obtain ⟨w10,hw9,AT,hb9,gT⟩:∃ w10,w10=wr.drew.alloc (.cells #[.int .i64 0,.int .i64 0] 88)∧At w10 wr.drew.heap.size (.cells #[.int .i64 0,.int .i64 0] 88)∧Below wr.drew.heap.size wr.drew w10∧wr.heap.size≤wr.drew.heap.size:=⟨_,rfl,At.new _ _,Below.alloc' (Below.refl _ _) _,hx.size⟩
           rw [← hw9]
           clear hw9
           replace hx:=Below.after2 hx (Nat.le_refl _) hb9
           generalize wr.drew.heap.size=U at *
           refine ⟨fun _=>hx,?_⟩
           (try simp only [tkp,tka,tkz,tks])
           refine tk1 6 ?_
           refine Drawn.Step.call tkL (keyC _ hx) ?_
           rintro e' w9 ⟨rfl,hb⟩
           replace hx:=Below.after2 hx (Nat.le_refl _) hb
           replace AT:=AT.keep hb
           clear hb
           refine ⟨_,rfl,fun _=>hx,?_⟩
           exact Z1f
       · rintro a W9 ⟨U,u117,u118,u119,u120,u121,u122,u123,rfl,gU,AU,hb9⟩
         simp only [List.setIfInBounds_toArray,List.set_cons_zero,List.set_cons_succ]
         clear keyC cbx cid l0 c0_0 c0_1 c0_2
         have HIM:Hid (ImAt wr R (q + j * 17) x):=Lib.hid (by
          have h:=hC.out.at_ hAr hjc
          rw [chgI_get _ _ hjx,HX.out] at h
          exact h)
         have HBX9:=Lib.hid (BxAt.keep HBX.out hb9)
         have lR9:=Nat.lt_of_lt_of_le lRr hb9.size
         have cbx:W9.cell? ⟨R,q + j * 17 + 12,none⟩=some (.pointer (some ⟨x.bx,0,none⟩)):=(hb9.cell (p:=⟨R,_,none⟩) lRr).trans ((HIM.out 12 Z3f).trans rfl)
         obtain ⟨l2,c2_0,c2_1,c2_2,c2_3,c2_4,c2_5,c2_6,c2_7⟩:=At.bx1 HBX9.out
         clear c2_0 c2_1 c2_2 c2_3 c2_4 c2_5
         have keyA:=fun X=>fall_any (Fw.ed sx 0) (Fw.ed sx 2) X
         obtain ⟨e02,he02⟩:∃ v,Fw.wr (Fw.ed sx 0 + Fw.ed sx 2)=v:=⟨_,rfl⟩
         simp only [he02] at keyA
         obtain ⟨t1,ht1⟩:∃ t,IntKind.i64.wrap (v + e02)=t:=⟨_,rfl⟩
         go_upto_region 17 with (go_at_call 76;(with_reducible refine (keyA _).mono ?_);rintro e' w10 ⟨rfl,hb10⟩;replace AU:=AU.keep hb10;obtain ⟨lU,cU0,cU1⟩:=At.two AU;have zU1:=AU.thaw 1)
         generalize hW:World.setCell _ _ _=W11
         replace AU:At W11 U (.cells #[.int .i64 cs0,.int .i64 t1] 88):=hW ▸ At.set AU 1 _
         have hb11:Below wr.heap.size wr W11:=by
          rw [← hW]
          exact Below.setCell (Below.after2 hb9 (Nat.le_refl _) hb10) gU _
         clear hW hb10 hb9 HBX9 lR9 cbx l2 c2_6 c2_7 keyA cU0 cU1 zU1 lU
         obtain ⟨lU,cU0,cU1⟩:=At.two AU
         have HS11:=Lib.hid (HSr.out.after hb11)
         have hA11:=hAr.keep hb11
         have B11:=A0.keep hb11
         have C11:=A4.keep hb11
         have hST11:=Lib.hid (hST.out.keep hb11)
         have hIz11:=Lib.hid (hIz.out.keep hb11 fun _ a ha=>by
          have h:=lints hIz.out (by rw [HLZ.out];exact hlt)
          injection ha with ha
          rw [← ha]
          exact h.1)
         have cid:W11.cell? ⟨R,q + j * 17 + 5,none⟩=some (.int .i64 x.ld.id):=(hb11.cell (p:=⟨R,_,none⟩) lRr).trans ((HIM.out 5 Z3f).trans rfl)
         have hwr11:=hb11.size
         obtain ⟨l0,c0_0,c0_1,c0_2⟩:=At.three B11
         have hcs1:=csum_succ B f xs1 hjx
         rw [HX.out] at hcs1
         have hcs2:=csum_le B f xs1 (j + 1)
         rw [HL1.out,HC1.out k,HCS.out] at hcs2
         have hcs3:=HCS.out
         have hnn:=HN.out
         obtain ⟨ly,hly⟩:∃ y,Fw.lay B f x.ld.id i0 i1 cs0 t1=y:=⟨_,rfl⟩
         have hlyid:ly.id=x.ld.id:=by rw [← hly];rfl
         have HFI:=Lib.hid (show q + j * 17 + 5 + 7≤cs2.size by have:=hC.out.1;rw [chgI_length] at this;have h2:j * 17 + 17≤xs1.length * 17:=Z3f;omega)
         have n1:w.heap.size≠Y.pm:=by omega
         have n2':w.heap.size≠R:=by omega
         have n5:U≠Y.pm:=by omega
         have n6:U≠R:=by omega
         have hSd:Out (fun b=>b=Y.pm∨b=R) W11 W11.drew∧W11.drew.cell? ⟨R,q + j * 17 + 5,none⟩=some (.int .i64 x.ld.id)∧True:=⟨(Out.refl _ _).drew,cid,trivial⟩
         clear hb11 HIM HBX hAr A0 A4 hST hIz
         refine tkX (S:=fun X=>Out (fun b=>b=Y.pm∨b=R) W11 X∧X.cell? ⟨R,q + j * 17 + 5,none⟩=some (.int .i64 x.ld.id)∧True) 15 ?_ ?_
         · exact hSd
         intro hx
         clear hSd
         refine tkQ 0 ?_
         refine tkQ 1 ?_
         refine tkQ 2 ?_
         refine tkQ 3 ?_
         refine tkQ 4 ?_
         refine tkQ 5 ?_
         refine tkQ 6 ?_
         refine tkQ 7 ?_
         refine tkQ 8 ?_
         refine tkQ 9 ?_
         refine tkQ 10 ?_
         have keyY:=lay_call hL hKO HR0.out hkm (HS11.out.after ((Below.refl W11.heap.size W11).drew)) x.ld.id i0 i1 cs0 t1 hxok.out.d hxok.out.f Z3f
         rw [hly] at keyY
         refine tk1 11 ?_
         refine Drawn.Step.call tkL keyY ?_
         rintro e' w10 ⟨rfl,n3',P3,hn3,hS10,hPs,hO10⟩
         have lR6:R<W11.drew.heap.size:=hA11.lt
         have hA10:At w10 R (.cells cs2 203):=At.out (M:=fun b=>b=Y.pm) (At.drew hA11) Z3f hO10
         have hid10:w10.cell? ⟨R,q + j * 17 + 5,none⟩=some (.int .i64 x.ld.id):=(Out.cell hO10 (q + j * 17 + 5) lR6 Z3f).trans cid
         have hO10r:Out (fun b=>b=Y.pm∨b=R) W11 w10:=((Out.refl _ W11).drew).trans (hO10.mono fun b _ h => .inl h)
         refine ⟨_,rfl,fun _=>⟨hO10r,hid10,trivial⟩,?_⟩
         (try simp only [tkp,tka,tkz,tks])
         have hx10:Out (fun b=>b=Y.pm∨b=R) W11 w10∧w10.cell? ⟨R,q + j * 17 + 5,none⟩=some (.int .i64 x.ld.id)∧True:=⟨hO10r,hid10,trivial⟩
         refine tkQ 12 ?_
         refine tkQ 13 ?_
         refine tk1 14 ?_
         refine Drawn.Step.skip (exec_store_at siz_ld (.tmp 149) (.tmp 147) rfl rfl rfl hA10 (ldc_size ly) HFI.out (ldc_one ly)) ?_
         have hA12:At (w10.setRow R (splice cs2 (q + j * 17 + 5) (ldc ly))) R (.cells (splice cs2 (q + j * 17 + 5) (ldc ly)) 203):=At.setRow hA10 _
         have hO12:Out (fun b=>b=R) w10 (w10.setRow R (splice cs2 (q + j * 17 + 5) (ldc ly))):=Out.setRow (M:=fun b=>b=R) (Out.refl _ _) rfl _
         have hid12:(w10.setRow R (splice cs2 (q + j * 17 + 5) (ldc ly))).cell? ⟨R,q + j * 17 + 5,none⟩=some (.int .i64 x.ld.id):=by
          have h1:=splice_in (cs:=cs2) (vs:=ldc ly) (q:=q + j * 17 + 5) (j:=0) Z4c (by rw [ldc_size];omega)
          rw [Nat.add_zero] at h1
          rw [hA12.cell,h1, ← hlyid]
          rfl
         have hOr:=hO10r.trans (hO12.mono fun b _ h => .inr h)
         refine ⟨fun _=>⟨hOr,hid12,trivial⟩,?_⟩
         (try simp only [tkp,tka,tkz,tks])
         refine tkE ?_
         have hPR2:¬ P3 R:=fun h=>hPR' (hPs R lR6 h)
         have hput:=hC.out.putLd hjc ly
         rw [chgI_get _ _ hjx,HX.out] at hput
         have hC12:Hid (ISub (splice cs2 (q + j * 17 + 5) (ldc ly)) q (chgI (clB B f z i0 i1 sz) xs1 (j + 1))):=Lib.hid (by
          rw [← chgI_succ _ _ hjx,HX.out]
          have e:clB B f z i0 i1 sz j x={ x with ld:=ly }:=by
           unfold clB
           rw [hv,hcs0,HSX.out, ← hly, ← ht1,wri, ← he02]
           rfl
          rw [e]
          exact hput.1)
         have hS12:=hS10.own (M:=fun b=>b=R) hO12 fun b hb h=>by subst h;exact ⟨hPR2,hR1⟩
         have B12:=B11.out (M:=fun b=>b=Y.pm∨b=R) Z3f hOr
         have C12:=C11.out (M:=fun b=>b=Y.pm∨b=R) Z3f hOr
         have hST12:=Lib.hid (hST11.out.out (M:=fun b=>b=Y.pm∨b=R) Z3f hOr)
         have hIz12:=Lib.hid (ints_out hIz11.out hOr Z3f)
         have hPn2:∀ b,b<N4→P3 b→P b:=fun b hb h=>hPn b hb (hPs b (by show b<W11.heap.size;omega) h)
         have hN12:N4≤(w10.setRow R (splice cs2 (q + j * 17 + 5) (ldc ly))).heap.size:=Nat.le_trans (Nat.le_trans hNr hwr11) hOr.size
         generalize w10.setRow R (splice cs2 (q + j * 17 + 5) (ldc ly))=w12 at *
         generalize splice cs2 (q + j * 17 + 5) (ldc ly)=cs3 at *
         clear hx hx10 hput hA10 hO12 hid12 hid10 hO10 hO10r hOr hPs hS10 keyY l0 c0_0 c0_1 c0_2 cid hA11 B11 C11 hST11 hIz11 hC lU cU0 cU1 AU HS11
         go_wp2
         go_roundw
         case rel=>exact ⟨j + 1,n3',P3,cs3,by omega,by go_num,by omega,hS12,hPn2,hN12,hA12,hC12,B12,C12,hST12,hIz12⟩
         case measure=>simp [intOf];omega
     · obtain rfl:j=k:=by omega
       have hC2:Hid (ISub cs2 q xs2):=Lib.hid (by
        have:=hC.out
        rw [← HL1.out,chgI_all, ← HX2.out] at this
        exact this)
       have HN2:Hid (n2≤n + 2 * (fl.map (Fw.cst B f)).sum):=Lib.hid (by
        have h1:=hn2
        rw [HC1.out j,HCS.out] at h1
        omega)
       have hPR':¬ P2 R:=fun h=>hPR (hPn R lR4 h)
       have hPN:=Lib.hid (show ¬ P2 (w.heap.size + 1) from fun h=>by have:=hP _ (hPn _ Z3f h);omega)
       have HSr:=Lib.hid hSr
       have hPlt:=Lib.hid hSr.lt
       have hb6:Below wr.heap.size wr (wr.alloc (.cells #[.int .i64 1] 3)):=Below.alloc' (Below.refl _ _) _
       have hA6:At (wr.alloc (.cells #[.int .i64 1] 3)) wr.heap.size (.cells #[.int .i64 1] 3):=At.new _ _
       have keyO:=ftout1 (some ⟨R,q,none⟩) xs2 j wr.heap.size _ ((hC2.out.ims hAr).after hb6) (by rw [HL2.out];omega) (hA6.cell 0) hA6.lt
       rw [HL2.out] at keyO
       have hs6:=hb6.size
       clear hC hn2 hlt hSr hPn hA6
       go_upto_region 20 with (first | (go_at_call 149;(with_reducible refine (fouterf_any 1 _).mono ?_);rintro e w1 ⟨rfl,rfl⟩) | (go_at_call 144;(with_reducible refine keyO.mono ?_);rintro e' w7 ⟨⟨bt,rfl,gbt,hT⟩,hb7⟩))
       have hb67:Below wr.heap.size wr w7:=hb6.trans (hb7.mono hs6)
       have elg:long.length=j:=by rw [← HLG.out];simp [outs1,HL2.out]
       have hIt:Ints w7 (some ⟨bt,0,none⟩) long:=by
        have h1:=jints_of_made _ _ Z3y hT
        have h2:=row_self (outs1 xs2)
        rw [HLG.out,elg] at h2
        rw [HLG.out,h2] at h1
        exact h1
       have hS7:=HSr.out.after hb67
       have hA7:=hAr.keep hb67
       have B7:=A0.keep hb67
       have C7:=A4.keep hb67
       have hST7:=Lib.hid (hST.out.keep hb67)
       have hN7:N4≤w7.heap.size:=Nat.le_trans hNr hb67.size
       have hP7:=Lib.hid (fun b (h:P2 b)=>Nat.lt_of_lt_of_le (hPlt.out b h) hb67.size)
       have HIt:=Lib.hid hIt
       clear keyO hb6 hb7 hT gbt hs6 HSr hAr A0 A4 hST hNr hPlt hb67 hIt hIz
       have cS46:w7.cell? ⟨T,46,none⟩=some (.int .i64 (s.c 46)):=(hST7.out.cell 46).trans (cells_int s Z3f rfl)
       have lT7:=hST7.out.lt
       have hbld:∀ X,(Instr.build 144 #[(1,.int .i64 high)]).run Tryz.prog X = .ok (.agg #[.slice none 0 0,.int .i64 high]) X:=fun _=>by kernel_rfl
       have keyL:=long_any (some ⟨bt,0,none⟩) long j j (s.c 46) w7 HIt.out elg (Nat.le_refl _) Z3f
       rw [HHI.out] at keyL
       have ELG:=Lib.hid elg
       clear elg
       go_upto_region 21 with (go_at_call 150;(with_reducible refine keyL.mono ?_);rintro e w8 ⟨rfl,rfl⟩)
       generalize hW:World.alloc _ _=w9
       obtain ⟨Cb,hCb⟩:∃ b,w7.heap.size=b:=⟨_,rfl⟩
       have AC:At w9 Cb (.cells #[.slice none 0 0,.int .i64 high] 144):=hW ▸ At.new' _ hCb.symm
       have hb9:Below w7.heap.size w7 w9:=hW ▸ Below.alloc' (Below.refl _ _) _
       have hPC:¬ P2 Cb:=fun h=>by have:=hP7.out Cb h;omega
       have gC:N4≤Cb:=by omega
       rw [hCb]
       have hS9:=hS7.after hb9
       have hA9:=hA7.keep hb9
       have B9:=B7.keep hb9
       have C9:=C7.keep hb9
       have hST9:=Lib.hid (hST7.out.keep hb9)
       have HIt9:=Lib.hid (HIt.out.after hb9)
       have hN9:N4≤w9.heap.size:=Nat.le_trans hN7 hb9.size
       clear hW keyL hbld hb9 hS7 hA7 B7 C7 hST7 HIt cS46 lT7 hCb hP7 hN7
       obtain ⟨l0,c0_0,c0_1,c0_2⟩:=At.three B9
       obtain ⟨lC,cC0,cC1⟩:=At.two AC
       go_upto_if 163 with (fail)
       go_cut [16] from 162 to 166 (fun v w2=>v = .int .i64 room∧Below w9.heap.size w9 w2)
       case first =>
        by_cases hh:i1 = -1
        · have e1:=HRM.out
          rw [if_pos hh] at e1
          exact Z3e
        · have e1:=HRM.out
          rw [if_neg hh] at e1
          exact Z3e
       case rest =>
        obtain ⟨rfl,hb10⟩:=hcut
        have hS10:=hS9.after hb10
        have hA10:=hA9.keep hb10
        have B10:=B9.keep hb10
        have C10:=C9.keep hb10
        have AC10:=AC.keep hb10
        have hST10:=Lib.hid (hST9.out.keep hb10)
        have hN10:N4≤wc.heap.size:=Nat.le_trans hN9 hb10.size
        have hP10:=hS10.lt
        have cS43:wc.cell? ⟨T,43,none⟩=some (.int .i64 (s.c 43)):=(hST10.out.cell 43).trans (cells_int s Z3f rfl)
        have cS46:wc.cell? ⟨T,46,none⟩=some (.int .i64 (s.c 46)):=(hST10.out.cell 46).trans (cells_int s Z3f rfl)
        have lT10:=hST10.out.lt
        have keyJ:=starts_new (some ⟨bt,0,none⟩) long j j (s.c 43) room (s.c 46) wc (HIt9.out.after hb10) ELG.out (Nat.le_refl _) Z3f
        have e:Ju.row (Ju.starts (s.c 43) room (s.c 46) long) j=st:=by rw [← HST.out,HL2.out]
        rw [e] at keyJ
        clear e hS9 hA9 B9 C9 AC hST9 HIt9 hN9 hb10 l0 c0_0 c0_1 c0_2 lC cC0 cC1
        go_upto_region 25 with (go_at_call 151;(with_reducible refine keyJ.mono ?_);rintro e' w11 ⟨⟨bst,rfl,gbst,hIst⟩,hb11⟩)
        have hS11:=hS10.after hb11
        have hA11:=hA10.keep hb11
        have B11:=B10.keep hb11
        have C11:=C10.keep hb11
        have AC11:=AC10.keep hb11
        have hST11:=Lib.hid (hST10.out.keep hb11)
        have hIst11:=Lib.hid hIst
        obtain ⟨N5,hN5⟩:∃ N,w11.heap.size=N:=⟨_,rfl⟩
        have hP5:∀ b,P2 b→b<N5:=fun b h=>by have h1:=hS11.lt b h;rw [hN5] at h1;exact h1
        have hN45:N4≤N5:=by have:=hb11.size;omega
        have lC5:Cb<N5:=by have:=AC11.lt;omega
        have lst5:st≠[]→bst<N5:=fun h=>by
         obtain ⟨b',o',e,hl,hc⟩:=Ints.at_ hIst (k:=0) (List.length_pos_iff.2 h)
         injection e with e
         injection e with e1 e2
         omega
        have HN5:=Lib.hid hN5
        have HP5:=Lib.hid hP5
        have hPCH:=Lib.hid hPC
        have hXL:Hid (xs.length=j):=Lib.hid (by rw [← HXS.out.1,List.length_mapIdx,HL2.out])
        have nst:bst≠Cb:=by have:=AC10.lt;omega
        clear keyJ hb11 hS10 hA10 B10 C10 AC10 hST10 hIst gbst hP10 hN10 cS43 cS46 lT10 hN5 hP5 hPC
        go_loopw [174] (fun iv wr=>∃ (i:Nat) (v:Value),i≤j∧iv = .int .i64 i∧LSt Y B F w P n2 P2 wr∧At wr R (.cells cs2 203)∧At wr Cb (.cells #[v,.int .i64 high] 144)∧Hid (wr.ownsRow N5 94 7 v (xs.take i).length (ldcs (xs.take i)))∧At wr w.heap.size (.cells #[.int .i64 z,.int .i64 i0,.int .i64 i1] 92)∧At wr (w.heap.size + 1) (.cells #[.slice none 0 0,.int .i64 0] 144)∧Hid (At wr T (.cells (cells s) 37))∧Hid (Ints wr (some ⟨bst,0,none⟩) st)∧N5≤wr.heap.size) (fun iv _=>j - (intOf iv).toNat)
        case atStart=>exact ⟨0,.slice none 0 0,Nat.zero_le _,rfl,hS11,hA11,AC11,Lib.hid (World.ownsRow_nil _ _ _ _),B11,C11,hST11,hIst11,by rw [HN5.out];exact Nat.le_refl _⟩
        case round =>
         clear hS11 hA11 AC11 B11 C11 hST11 hIst11
         obtain ⟨i,v,hi,rfl,hSr,hAr,AC,hown,A0,A4,hST,hIz,hNr⟩:=hrel
         by_cases hlt:i<j
         · have hltz:(i:Int)<(j:Int):=by omega
           have hix:i<xs2.length:=by rw [HL2.out];exact hlt
           have hIm:=hC2.out.at_ hAr hix
           obtain ⟨x,hx⟩:∃ x,xs2[i]=x:=⟨_,rfl⟩
           rw [hx] at hIm
           have HX:=Lib.hid hx
           have HSr:=Lib.hid hSr
           obtain ⟨lz,cz⟩:=lints hIz.out (by rw [HLT.out];exact hlt)
           obtain ⟨v0,hv0⟩:∃ v,st.getD i 0=v:=⟨_,rfl⟩
           rw [hv0] at cz
           have HV0:=Lib.hid hv0
           have lRr:=hAr.lt
           clear hx hSr hv0
           go_upto_region 28 with (first | (refine wpList_load_im Z3n _ rfl rfl (by with_reducible assumption) ?_) | (refine wpList_alloc_im Z3n rfl ?_) | (refine wpList_store_im0 Z3n _ _ rfl rfl rfl Z4f ?_))
           generalize hW:World.setRow _ _ _=W3
           obtain ⟨Q,hQ⟩:∃ b,wr.heap.size=b:=⟨_,rfl⟩
           have AQ:At W3 Q (.cells (imc x) 203):=hW ▸ hQ ▸ At.setRow (At.new _ _) _
           have hb3:Below wr.heap.size wr W3:=hW ▸ setRow_below (Below.alloc' (Below.refl _ _) _) (Nat.le_refl _) _
           have gQ:wr.heap.size≤Q:=Nat.le_of_eq hQ
           have gQ2:Q≤wr.heap.size:=Nat.le_of_eq hQ.symm
           rw [hQ]
           clear hW hQ hIm cz lz lRr
           have hST3:=Lib.hid (hST.out.keep hb3)
           have B3:=A0.keep hb3
           have cS44:W3.cell? ⟨T,44,none⟩=some (.int .i64 (s.c 44)):=(hST3.out.cell 44).trans (cells_int s Z3f rfl)
           have lT3:=hST3.out.lt
           have lQ:=AQ.lt
           have hIQ:Hid (ImAt W3 Q 0 x):=Lib.hid fun j hj=>by rw [Nat.zero_add];exact AQ.cell j
           obtain ⟨l0,c0_0,c0_1,c0_2⟩:=At.three B3
           have hSd:Below W3.heap.size W3 W3.drew:=Below.drew (Below.refl _ _)
           refine tkX (S:=fun X=>Below W3.heap.size W3 X) 10 ?_ ?_
           · exact hSd
           intro hx
           clear hSd
           refine tkB 0 ?_
           refine tkB 1 ?_
           refine tkR 3 rfl (reads_im (.tmp 19) Z3n rfl rfl (fun X h=>ImAt.keep hIQ.out h lQ)) ?_
           refine tkB 5 ?_
           refine tkB 6 ?_
           refine tkB 7 ?_
           refine tk1 2 ?_
           refine Drawn.Step.call tkL (fouterf_any 0 _) ?_
           rintro e' w7 ⟨rfl,hw7⟩
           have hb7:Below W3.drew.heap.size W3.drew w7:=hw7 ▸ Below.alloc' (Below.refl _ _) _
           have AB:At w7 W3.drew.heap.size (.cells #[.int .i64 0] 3):=hw7 ▸ At.new _ _
           clear hw7
           replace hx:=Below.after2 hx (Nat.le_refl _) hb7
           generalize W3.drew.heap.size=Bq at *
           refine ⟨_,rfl,fun _=>hx,?_⟩
           (try simp only [tkp,tka,tkz,tks])
           refine tk1 4 ?_
           refine Drawn.Step.call tkL (fouter0 x Bq w7 (AB.cell 0)) ?_
           rintro e' w8 ⟨rfl,hb8⟩
           replace hx:=Below.after2 hx (Nat.le_refl _) hb8
           refine ⟨_,rfl,fun _=>hx,?_⟩
           (try simp only [tkp,tka,tkz,tks])
           refine tk1 8 ?_
           refine Drawn.Step.call tkL (jacross_any (s.c 44) (outr0 x) i0 w8) ?_
           rintro e' w9 ⟨rfl,rfl⟩
           refine ⟨_,rfl,fun _=>hx,?_⟩
           (try simp only [tkp,tka,tkz,tks])
           refine tkB 9 ?_
           refine tkE ?_
           have hb38:Below wr.heap.size wr w8:=Below.after2 hb3 (Nat.le_refl _) hx
           have AQ8:=AQ.keep hx
           clear hb7 hb8 AB hx hST3 B3 cS44 lT3 l0 c0_0 c0_1 c0_2 hIQ AQ lQ hb3
           obtain ⟨la,hla⟩:∃ v,Ju.across (s.c 44) (outr0 x) i0=v:=⟨_,rfl⟩
           rw [hla]
           obtain ⟨p0,hp0⟩:∃ v2,IntKind.i64.wrap (la + x.m0)=v2:=⟨_,rfl⟩
           obtain ⟨p1,hp1⟩:∃ v2,IntKind.i64.wrap (v0 + x.m2)=v2:=⟨_,rfl⟩
           obtain ⟨y,hy⟩:∃ y:Fw.Ld,{ x.ld with a0:=p0,a1:=p1 }=y:=⟨_,rfl⟩
           have HY:Hid (clE (s.c 44) i0 st i x=y):=Lib.hid (by unfold clE;rw [HV0.out,hla, ← wri (v0 + x.m2), ← wri (la + x.m0),hp0,hp1];exact hy)
           have HTK:Hid (xs.take (i + 1)=xs.take i ++ [y]):=Lib.hid (by
            have hxi:i<xs.length:=by rw [hXL.out];exact hlt
            rw [List.take_succ_eq_append_getElem hxi]
            congr 2
            have e:=HXS.out.1
            have e2:xs[i]=clE (s.c 44) i0 st i xs2[i]:=by subst e;simp
            rw [e2,HX.out,HY.out])
           have lQ8:=AQ8.lt
           have c13:w8.cell? ⟨Q,13,none⟩=some (.int .i64 x.m0):=(AQ8.cell 13).trans rfl
           have c15:w8.cell? ⟨Q,15,none⟩=some (.int .i64 x.m2):=(AQ8.cell 15).trans rfl
           have c10:w8.cell? ⟨Q,10,none⟩=some (.int .i64 x.ld.a0):=(AQ8.cell 10).trans rfl
           have c11:w8.cell? ⟨Q,11,none⟩=some (.int .i64 x.ld.a1):=(AQ8.cell 11).trans rfl
           have z10:=AQ8.thaw 10
           have z11:=AQ8.thaw 11
           go_upto_region 30 with (fail)
           generalize hW:World.setCell _ _ _=W9
           have AQ9:At W9 Q (.cells (imc { x with ld:=y }) 203):=by
            rw [← hW, ← hy]
            exact At.set (At.set AQ8 10 _) 11 _
           have hb9:Below wr.heap.size wr W9:=by
            rw [← hW]
            exact Below.setCell (Below.setCell hb38 gQ _) gQ _
           clear hW lQ8 c13 c15 c10 c11 z10 z11 AQ8 hb38 hp0 hp1 hla hy
           have hown9:=ownsRow_out (M:=fun _=>False) hown.out (fun _ _ q=>q) (Out.of_below hb9)
           have hs9:=hb9.size
           obtain ⟨g',c',w',hr,hown',hOa⟩:=append_ld y hown9 Z3f Z3p
           obtain ⟨ln,hln⟩:∃ n,(xs.take i).length + 1=n:=⟨_,rfl⟩
           rw [hln] at hr hown'
           clear hln
           have hrun:=Lib.hid hr
           have hQL:∀ j,j<7→W9.cell? ⟨Q,5 + j,none⟩=(ldc y)[j]? := fun j hj=>by
            rw [AQ9.cell]
            exact Z2h
           have hob:∀ b,v.ownBlock=some b→N5≤b:=fun b h=>(hown.out.lt b h).1
           have AC9:=AC.keep hb9
           have ACn:At w' Cb (.cells #[v,.int .i64 high] 144):=At.out (M:=fun b=>v.ownBlock=some b) (AC9.alloc _) (fun h=>by have:=hob Cb h;omega) hOa
           obtain ⟨lC9,cC90,cC91⟩:=At.two AC9
           obtain ⟨lCn,cCn0,cCn1⟩:=At.two ACn
           have zCn0:=ACn.thaw 0
           have lQ9:=AQ9.lt
           have HQL:=Lib.hid hQL
           clear hr hown9 hQL
           go_upto_region 31 with (first | (refine wpList_load_at agg_ld siz_ld Z3n _ rfl rfl (ldc_size y) HQL.out ?_) | (refine wpList_built_ld Z3n _ rfl rfl ?_) | (at_builtin;refine wpList_append_run Z3n _ _ 142 rfl rfl rfl hrun.out ?_))
           generalize hW:World.setCell _ _ _=W10
           have AC10:At W10 Cb (.cells #[.slice (some ⟨g',0,none⟩) ln c',.int .i64 high] 144):=hW ▸ At.set ACn 0 _
           have hOs:Out (fun b=>b=Cb) w' W10:=hW ▸ Out.set (M:=fun b=>b=Cb) (Out.refl _ _) rfl 0 _
           have hown10:Hid (W10.ownsRow N5 94 7 (.slice (some ⟨g',0,none⟩) ln c') (xs.take (i + 1)).length (ldcs (xs.take (i + 1)))):=Lib.hid (by
            rw [HTK.out]
            exact ownsRow_out (M:=fun b=>b=Cb) hown' (fun g hg e=>by have:=(hown'.lt g hg).1;omega) hOs)
           have hOt:Out (fun b=>v.ownBlock=some b∨b=Cb) wr W10:=(Out.of_below (Below.alloc' hb9 _)).trans ((hOa.mono fun b _ h => .inl h).trans (hOs.mono fun b _ h => .inr h))
           have hoff:∀ b,b<N5→b≠Cb→¬ (v.ownBlock=some b∨b=Cb):=fun b hb hn h=>by
            rcases h with h | h
            · have:=hob b h;omega
            · exact hn h
           have hS10:=HSr.out.own hOt fun b hb h=>by
            rcases h with h | h
            · have h1:=hob b h
              exact ⟨fun hp=>by have:=HP5.out b hp;omega,by omega⟩
            · subst h
              exact ⟨hPCH.out,by omega⟩
           have hA10:=hAr.out (hoff R Z3f Z3f) hOt
           have B10:=A0.out (hoff _ Z3f Z3f) hOt
           have C10:=A4.out (hoff _ Z3f Z3f) hOt
           have hST10:=Lib.hid (hST.out.out (hoff T Z3f Z3f) hOt)
           have hIz10:=Lib.hid (ints_out hIz.out hOt (hoff bst (lst5 (fun e=>by have:=HLT.out;rw [e] at this;simp at this;omega)) Z3f))
           have hN10:N5≤W10.heap.size:=Nat.le_trans hNr hOt.size
           clear hW ACn hOs hown' hOa hOt hoff AC9 lC9 cC90 cC91 lCn cCn0 cCn1 zCn0 lQ9 HQL hb9 hs9 AQ9 hown hAr A0 A4 AC hST hIz hrun
           go_wp2
           go_roundw
           case rel=>exact ⟨i + 1,_,by omega,by go_num,hS10,hA10,AC10,hown10,B10,C10,hST10,hIz10,hN10⟩
           case measure=>simp [intOf];omega
         · obtain rfl:i=j:=by omega
           have hfull:xs.take i=xs:=List.take_of_length_le (by rw [hXL.out];exact Nat.le_refl _)
           rw [hfull] at hown
           have hxne:xs≠[]:=fun e=>by
            have h1:=hXL.out
            rw [e] at h1
            have h2:=HM.out
            exact hne (List.length_eq_zero_iff.1 (by rw [h2, ← h1];rfl))
           obtain ⟨Rr,cap,csr,rfl,hob,gR,AR,hRC⟩:=ldcs_row hown.out hxne
           obtain ⟨lC,cC0,cC1⟩:=At.two AC
           obtain ⟨l4,c4_0,c4_1⟩:=At.two A4
           have z4_0:=A4.thaw 0
           have z4_1:=A4.thaw 1
           have lw:w.heap.size + 1<wr.heap.size:=A4.lt
           have HRC:=Lib.hid hRC
           have HSr:=Lib.hid hSr
           have hHI:=Lib.hid HXS.out.2
           clear hRC hown hSr hfull hxne hAr A0 hST hIz
           go_wp2
           generalize hW:World.setCell _ _ _=W6
           replace A4:At W6 (w.heap.size + 1) (.cells #[.slice (some ⟨Rr,0,none⟩) xs.length cap,.int .i64 high] 144):=hW ▸ At.set (At.set A4 0 _) 1 _
           have hOf:Out (fun b=>b=w.heap.size + 1) wr W6:=by
            exact Z2i
           clear hW c4_0 c4_1 z4_0 z4_1 lC cC0 cC1 AC
           have AR6:=AR.out (M:=fun b=>b=w.heap.size + 1) Z3f hOf
           have hS6:=HSr.out.own hOf fun b hb h=>by subst h;exact ⟨hPN.out,by omega⟩
           obtain ⟨l4,c4_0,c4_1⟩:=At.two A4
           have hO6:=hS6.fin
           have hK6:=hS6.kp
           have hNw:=hS6.new
           have hPRr:¬ P2 Rr:=fun h=>by have:=HP5.out Rr h;omega
           refine bodyPost_ret (v:= .agg #[.slice (some ⟨Rr,0,none⟩) xs.length cap,.int .i64 high]) (by simp [results,Tryz.results105,go_sem,c4_0,c4_1,l4];first | done | exact ⟨rfl,rfl⟩ | rfl) rfl ⟨Rr,cap,csr,P2,n2,by rw [hHI.out],by omega,AR6,HRC.out,HN2.out,hK6,hNw,hPRr,hO6⟩
end
end Go.Proofs.YteggipnplbkijaaGreat.Fix
