/- Boxes laid by the program: what its functions do, part 26. -/
import Derived.Test.YteggipnplbkijaaGreatWK
import Derived.Test.YteggipnplbkijaaGreatW22
import Derived.Test.YteggipnplbkijaaGreatW25
set_option linter.unusedVariables false
set_option linter.unusedSimpArgs false
set_option linter.unusedSectionVars false
set_option maxRecDepth 100000
namespace Go.Proofs.YteggipnplbkijaaGreat.Fix
open Go.ChangeShapes Go.WideShapes Go.ChangeAt Go.RowKit
def PrAt (W:World) (g:Nat) (l:List (Nat × Nat)):Prop:=g<W.heap.size∧∀ k (h:k<l.length),W.cell? ⟨g,k * 2,none⟩=some (.int .i64 (l[k].1:Int))∧W.cell? ⟨g,k * 2 + 1,none⟩=some (.int .i64 (l[k].2:Int))
theorem PrAt.out {M:Nat→Prop} {W W':World} {g:Nat} {l:List (Nat × Nat)} (h:PrAt W g l) (k:Out M W W') (hm:¬ M g):PrAt W' g l:=⟨Nat.lt_of_lt_of_le h.1 k.size,fun i hi=>⟨(Out.cell k _ h.1 hm).trans (h.2 i hi).1,(Out.cell k _ h.1 hm).trans (h.2 i hi).2⟩⟩
theorem pairs_own {W:World} {base:Nat} {v:Value} {l:List (Nat × Nat)} (h:W.ownsRow base 35 2 v l.length ((Li.flat l).map (Value.int .i64))) (hn:l≠[]):∃ g c,v = .slice (some ⟨g,0,none⟩) l.length c∧base≤g∧PrAt W g l:=by
 rcases h.2 with ⟨rfl,h0⟩ | ⟨g,cap,cur,rfl,hb,hgb,hnc,hcm,hsz,htk⟩
 · exact absurd (List.length_eq_zero_iff.1 h0) hn
 · have hA:At W g (.cells cur 35):=hgb
   have key:∀ i (x:Int),i<l.length * 2→(Li.flat l)[i]? = some x→W.cell? ⟨g,i,none⟩=some (.int .i64 x):=fun i x hi hx=>by
    have e:((Li.flat l).map (Value.int .i64))[i]? = some (.int .i64 x):=by rw [List.getElem?_map,hx];rfl
    rw [← htk,List.getElem?_take,if_pos hi,Array.getElem?_toList] at e
    rw [hA.cell]
    exact e
   exact ⟨g,cap,rfl,hb,hA.lt,fun k hk=>⟨key _ _ Z3f (Li.flat_get l hk).1,key _ _ Z3f (Li.flat_get l hk).2⟩⟩
section
variable {Y:Lyt} {B:Int→Fw.Bx} {F:Int→Nat} {D:Int→Prop} {KM:World→Nat→Prop} {f:Nat} {w:World} {P:Nat→Prop}
def rwG (B:Int→Fw.Bx) (i0:Int) (x:Im):Im:={ x with it:=Fw.rowIt B i0 x.ld.id }
theorem iok_rwG {i0:Int} {x:Im} (h:IOK Y B D F f i0 x):IOK Y B D F f i0 (rwG B i0 x):=⟨h.d,h.f,h.bx,h.m0,h.m1,h.m2,h.m3⟩
theorem rwG_new (Y:Lyt) (B:Int→Fw.Bx) (i0:Int) (fl:List Int):(newIms Y B i0 fl).map (rwG B i0)=fl.map (rwI Y B i0):=by unfold newIms;rw [List.map_map];rfl
set_option maxHeartbeats 16000000 in
theorem frow (hL:LayOK Y B F D KM f) (hK:∀ (X X':World) (b:Nat),KM X b→Below X.heap.size X X'→KM X' b) (hKO:∀ (X X':World) (b:Nat),KM X b→Out (fun q=>q≠b) X X'→KM X' b) (hR0:RO w Y B D KM) (hkm:Y.km<w.heap.size)
  (z i0 i1:Int) (hz:D z) (hdn:∀ k ∈ (B z).fl,D k∧F k=f) (hne:(B z).fl≠[]) (hl:(B z).fl.length≤64) (n:Nat) (hKp:Kp Y B F n P w) (hP:∀ b,P b→b<w.heap.size) (hn:n + 2 * ((B z).fl.map (Fw.cst B f)).sum<maxLen) (xs:List Fw.Ld) (hi:Int) (hm:Fw.mrow B (Fw.lay B f) z i0 i1=(xs,hi)) (hxl:xs≠[]) :
  Calls Tryz.prog 104 #[.pointer (some ⟨Y.lb,0,none⟩),.agg #[.int .i64 z,.int .i64 i0,.int .i64 i1]] w fun e w'=>∃ R cap cs P' n',e = .returned (.agg #[.slice (some ⟨R,0,none⟩) xs.length cap,.int .i64 hi])∧w.heap.size≤R∧At w' R (.cells cs 94)∧RowC cs xs∧n'≤n + 2 * ((B z).fl.map (Fw.cst B f)).sum∧Kp Y B F n' P' w'∧(∀ b,P' b→P b∨w.heap.size≤b)∧¬ P' R∧Out (fun b=>b=Y.pm) w w':=by
 obtain ⟨es0,ck0,hpm0⟩:=hR0.pmo
 have hpl:=hpm0.lt
 obtain ⟨fl,hfl⟩:∃ l,(B z).fl=l:=⟨_,rfl⟩
 rw [hfl] at hdn hne hl hn ⊢
 obtain ⟨s,hs⟩:∃ s,(B z).sty=s:=⟨_,rfl⟩
 obtain ⟨xs0,hx0⟩:∃ l,newIms Y B i0 fl=l:=⟨_,rfl⟩
 obtain ⟨xs1,hx1⟩:∃ l,xs0.map (rwG B i0)=l:=⟨_,rfl⟩
 obtain ⟨longs,hlongs⟩:∃ l,(fl.map fun k=>Fw.wr (Fe.clamp (Fw.rowIt B i0 k) (Fw.rowIt B i0 k).b + Fw.kex B i0 0 k))=l:=⟨_,rfl⟩
 obtain ⟨br,hbr⟩:∃ l,Li.brk i0 (s.c 46) (s.b 45) longs=l:=⟨_,rfl⟩
 obtain ⟨hh,hhh⟩:∃ h,(if br.length=1 then i1 else -1)=h:=⟨_,rfl⟩
 have HMR:Hid (Fw.rowLines B (Fw.lay B f) z i0 i1 hh fl true 0 br=(xs,hi)):=Lib.hid (by
  rw [← hm]
  unfold Fw.mrow
  simp only [hfl,hs,hlongs,hbr,hhh])
 obtain ⟨m,hmm⟩:∃ m,fl.length=m:=⟨_,rfl⟩
 have HL0:Hid (xs0.length=m):=Lib.hid (by rw [← hx0, ← hmm];simp [newIms])
 have HL1:Hid (xs1.length=m):=Lib.hid (by rw [← hx1,List.length_map,HL0.out])
 have HLL:Hid (longs.length=m):=Lib.hid (by rw [← hlongs,List.length_map,hmm])
 have HX1:Hid (xs1=fl.map (rwI Y B i0)):=Lib.hid (by rw [← hx1, ← hx0,rwG_new])
 have HOK0:Hid (∀ x ∈ xs0,IOK Y B D F f i0 x):=Lib.hid (by
  rw [← hx0]
  intro x hx
  obtain ⟨k,hk,e⟩:=List.mem_map.1 hx
  rw [← e]
  exact iok_new (hdn k hk).1 (hdn k hk).2)
 have HOK1:Hid (∀ x ∈ xs1,IOK Y B D F f i0 x):=Lib.hid (by
  rw [← hx1]
  intro x hx
  obtain ⟨y,hy,e⟩:=List.mem_map.1 hx
  rw [← e]
  exact iok_rwG (HOK0.out y hy))
 have HCS:Hid (csum B f xs1 m=(fl.map (Fw.cst B f)).sum):=Lib.hid (by
  unfold csum
  rw [HX1.out, ← hmm]
  rw [← List.map_take,List.take_length,List.map_map]
  rfl)
 have HXG:Hid (xs1=xs0.map (rwG B i0)):=Lib.hid hx1.symm
 have HX0:Hid (xs0=newIms Y B i0 fl):=Lib.hid hx0.symm
 have HLO:=Lib.hid hlongs
 have HBR:=Lib.hid hbr
 have HHH:=Lib.hid hhh
 have HSS:=Lib.hid hs
 have HFL:=Lib.hid hfl
 have HM:=Lib.hid hmm
 have HN:=Lib.hid hn
 have HDN:=Lib.hid hdn
 have HR0:=Lib.hid hR0
 have HXL:=Lib.hid hxl
 rw [hmm] at hl
 have hm0:0<m:=by rw [← hmm];exact List.length_pos_iff.2 hne
 clear hx1 hx0 hlongs hbr hhh hm hmm hxl
 have hS:=LSt.start hKp hP
 have hRw:=hR0
 obtain ⟨b0,hb0⟩:∃ b0,Y.bl z=b0:=⟨_,rfl⟩
 have hbx:=(hRw.box z hz).1
 rw [hb0,hs] at hbx
 generalize Y.vf z=zvf at hbx
 generalize Y.va z=zva at hbx
 generalize (B z).ib=zib at hbx
 have lb0:=hbx.lt
 have n0p:b0≠Y.pm:=fun e=>by
  rw [e] at hbx
  exact absurd (At.uniq hbx hpm0) Z3t
 have b1:Below w.heap.size w ((w.alloc (.cells #[.int .i64 z,.int .i64 i0,.int .i64 i1] 92)).alloc (.cells #[.slice none 0 0,.int .i64 0] 144)):=Below.alloc' (Below.alloc' (Below.refl _ _) _) _
 have A0:At ((w.alloc (.cells #[.int .i64 z,.int .i64 i0,.int .i64 i1] 92)).alloc (.cells #[.slice none 0 0,.int .i64 0] 144)) w.heap.size (.cells #[.int .i64 z,.int .i64 i0,.int .i64 i1] 92):=At.alloc (At.new _ _) _
 have A4:At ((w.alloc (.cells #[.int .i64 z,.int .i64 i0,.int .i64 i1] 92)).alloc (.cells #[.slice none 0 0,.int .i64 0] 144)) (w.heap.size + 1) (.cells #[.slice none 0 0,.int .i64 0] 144):=At.new' _ Z3s
 have hS1:=hS.after b1
 have hlw:=hRw.keep hK b1
 have HBZ:=Lib.hid (BxAt.keep hbx b1)
 clear hdn hR0 hRw hS hpm0 hs hbx hfl hKp hn
 go_enter Tryz.func104,Tryz.ntmps104
 go_upto_region 1 with (fail)
 generalize (w.alloc (.cells #[.int .i64 z,.int .i64 i0,.int .i64 i1] 92)).alloc (.cells #[.slice none 0 0,.int .i64 0] 144)=w1 at *
 have A4lt:=A4.lt
 have hsz:=b1.size
 have hlk:=fun X (h:Below w1.heap.size w1 X)=>(hlw.keep hK h).look hz
 simp only [hb0] at hlk
 obtain ⟨lY,cY0,cY1,cY2,cY3,cY4,cY5⟩:=At.six hlw.lay
 obtain ⟨l0,c0_0,c0_1,c0_2⟩:=At.three A0
 have hSd:Below w1.heap.size w1 w1.drew:=Below.drew (Below.refl _ _)
 refine tkX (S:=fun X=>Below w1.heap.size w1 X) 8 ?_ ?_
 · exact hSd
 intro hx
 clear hSd
 refine tkB 0 ?_
 refine tkB 1 ?_
 refine tkB 2 ?_
 refine tkB 3 ?_
 refine tkB 4 ?_
 refine tkB 5 ?_
 refine tkR 6 rfl (reads_lookup Z3n rfl rfl rfl (fun X h=>hlk X h)) ?_
 refine tkB 7 ?_
 refine tkE ?_
 have hx2:Below w1.heap.size w1 w1.drew:=hx
 generalize w1.drew=w3 at *
 have hsz3:=hx2.size
 have hS3:=hS1.after hx2
 have B3:=A0.keep hx2
 have C3:=A4.keep hx2
 have HBZ3:=Lib.hid (BxAt.keep HBZ.out hx2)
 have hR3:=hS3.ro hKO HR0.out hkm
 have keyI:Calls Tryz.prog 141 #[.pointer (some ⟨Y.lb,0,none⟩),.agg #[.int .i64 z,.int .i64 i0,.int .i64 i1]] w3 fun e w'=>(∃ R q cs,e = .returned (.slice (some ⟨R,q,none⟩) m m)∧w3.heap.size≤R∧At w' R (.cells cs 203)∧ISub cs q xs0)∧Below w3.heap.size w3 w':=by
  exact Z2f
 obtain ⟨l0,c0_0,c0_1,c0_2⟩:=At.three B3
 clear b1 A0 A4 hS1 hlw hlk cY0 cY1 cY2 cY3 cY4 cY5 lY hx hR3 hb0 HBZ
 go_upto_region 4 with (go_at_call 141;(with_reducible refine keyI.mono ?_);rintro e' w4 ⟨⟨R,q,cs,rfl,gR,hA4,hI4⟩,hb4⟩)
 clear keyI
 have HI4:=Lib.hid hI4
 have hS4:=hS3.after hb4
 have B4:=B3.keep hb4
 have C4:=C3.keep hb4
 have HBZ4:=Lib.hid (BxAt.keep HBZ3.out hb4)
 have hsz4:=hb4.size
 have hR1:w.heap.size + 1<R:=by omega
 have hPR:¬ P R:=fun h=>by have:=hP R h;omega
 have n0R:b0≠R:=by omega
 have lR4:=hA4.lt
 clear hb4 hI4 B3 C3 hS3 hx2 l0 c0_0 c0_1 c0_2 HBZ3
 go_loopw [31] (fun iv wr=>∃ (k:Nat) (cs':Array Value),k≤m∧iv = .int .i64 k∧LSt Y B F w P n P wr∧At wr R (.cells cs' 203)∧Hid (ISub cs' q (chg (rwG B i0) xs0 k))∧At wr w.heap.size (.cells #[.int .i64 z,.int .i64 i0,.int .i64 i1] 92)∧At wr (w.heap.size + 1) (.cells #[.slice none 0 0,.int .i64 0] 144)∧Hid (BxAt wr b0 s zvf zva zib)) (fun iv _=>m - (intOf iv).toNat)
 case atStart=>exact ⟨0,cs,Nat.zero_le _,rfl,hS4,hA4,Lib.hid (by rw [chg_zero];exact HI4.out),B4,C4,HBZ4⟩
 case round =>
  clear hS4 hA4 B4 C4 HBZ4 HI4
  obtain ⟨k,cs',hk,rfl,hSr,hAr,hC,A0,A4,hBZ⟩:=hrel
  by_cases hlt:k<m
  · have hltz:(k:Int)<(m:Int):=by omega
    have hkx:k<xs0.length:=by rw [HL0.out];exact hlt
    have hkc:k<(chg (rwG B i0) xs0 k).length:=by rw [chg_length];exact hkx
    have hIm:=hC.out.at_ hAr hkc
    rw [chg_get _ _ hkx] at hIm
    obtain ⟨x,hx⟩:∃ x,xs0[k]=x:=⟨_,rfl⟩
    have hxok:=Lib.hid (HOK0.out x (hx ▸ List.getElem_mem _))
    rw [hx] at hIm
    have HX:=Lib.hid hx
    have HSr:=Lib.hid hSr
    have hRr:=hSr.ro hKO HR0.out hkm
    have hbx:=(hRr.box x.ld.id hxok.out.d).1
    rw [← hxok.out.bx] at hbx
    obtain ⟨sx,hsx⟩:∃ s,(B x.ld.id).sty=s:=⟨_,rfl⟩
    rw [hsx] at hbx
    generalize Y.vf x.ld.id=vf at hbx
    generalize Y.va x.ld.id=va at hbx
    generalize (B x.ld.id).ib=ib at hbx
    have HSX:=Lib.hid hsx
    have HBX:=Lib.hid hbx
    have lRr:=hAr.lt
    have n34:=HR0.out.box x.ld.id hxok.out.d
    rw [← hxok.out.bx] at n34
    have n4:x.bx≠R:=by have:=n34.1.lt;omega
    clear n34
    clear hRr hbx hsx hx hSr
    go_upto_region 6 with (first | (refine wpList_load_im Z3n _ rfl rfl (by with_reducible assumption) ?_) | (refine wpList_alloc_im Z3n rfl ?_) | (refine wpList_store_im0 Z3n _ _ rfl rfl rfl Z4f ?_))
    generalize hW:World.setRow _ _ _=W3
    obtain ⟨Q,hQ⟩:∃ b,wr.heap.size=b:=⟨_,rfl⟩
    have AQ:At W3 Q (.cells (imc x) 203):=hW ▸ hQ ▸ At.setRow (At.new _ _) _
    have hb3:Below wr.heap.size wr W3:=hW ▸ setRow_below (Below.alloc' (Below.refl _ _) _) (Nat.le_refl _) _
    have gQ:wr.heap.size≤Q:=Nat.le_of_eq hQ
    rw [hQ]
    clear hW hQ hIm
    have B3:=A0.keep hb3
    have HBX3:=Lib.hid (BxAt.keep HBX.out hb3)
    have lbx:=BxAt.lt HBX3.out
    have lQ:=AQ.lt
    have cQ:W3.cell? ⟨Q,12,none⟩=some (.pointer (some ⟨x.bx,0,none⟩)):=(AQ.cell 12).trans rfl
    have cb3:W3.cell? ⟨x.bx,3,none⟩=some (.int .i64 (sx.c 3)):=BxAt.int HBX3.out 3 Z3f rfl
    have cb4:W3.cell? ⟨x.bx,4,none⟩=some (.int .i64 (sx.c 4)):=BxAt.int HBX3.out 4 Z3f rfl
    have cb53:W3.cell? ⟨x.bx,53,none⟩=some (.int .i64 (sx.c 53)):=BxAt.int HBX3.out 53 Z3f rfl
    obtain ⟨l0,c0_0,c0_1,c0_2⟩:=At.three B3
    have hSd:Below W3.heap.size W3 W3.drew:=Below.drew (Below.refl _ _)
    refine tkX (S:=fun X=>Below W3.heap.size W3 X) 18 ?_ ?_
    · exact hSd
    intro hx
    clear hSd
    refine tkB 0 ?_
    refine tkB 1 ?_
    refine tkB 2 ?_
    refine tkB 3 ?_
    refine tkB 4 ?_
    refine tkB 5 ?_
    refine tkB 6 ?_
    refine tkB 7 ?_
    refine tkB 8 ?_
    refine tkB 9 ?_
    refine tkB 10 ?_
    refine tkB 11 ?_
    refine tkB 12 ?_
    refine tkB 13 ?_
    refine tkB 14 ?_
    refine tkB 15 ?_
    refine tk1 16 ?_
    refine Drawn.Step.call tkL (len_any (sx.c 3) (sx.c 4) i0 (sx.c 53) _) ?_
    rintro e' w5 ⟨rfl,hb⟩
    replace hx:=Below.after2 hx (Nat.le_refl _) hb
    clear hb
    refine ⟨_,rfl,fun _=>hx,?_⟩
    (try simp only [tkp,tka,tkz,tks])
    refine tkB 17 ?_
    refine tkE ?_
    have hb35:Below wr.heap.size wr w5:=Below.after2 hb3 (Nat.le_refl _) hx
    have AQ5:=AQ.keep hx
    have hA5:=hAr.keep hb35
    have hS5:=HSr.out.after hb35
    have B5:=A0.keep hb35
    have C5:=A4.keep hb35
    have HBX5:=Lib.hid (BxAt.keep HBX.out hb35)
    have HBZ5:=Lib.hid (BxAt.keep hBZ.out hb35)
    clear cQ cb3 cb4 cb53 lbx lQ l0 c0_0 c0_1 c0_2 hx AQ HBX3 B3 A0 A4 hAr hBZ HBX HSr hb3
    obtain ⟨base,hbase⟩:∃ t,Fx.len (sx.c 3) (sx.c 4) i0 (sx.c 53)=t:=⟨_,rfl⟩
    rw [hbase]
    obtain ⟨it,hit⟩:∃ t,Fw.asI sx 0 base i0=t:=⟨_,rfl⟩
    have keyT:∀ X,Calls Tryz.prog 142 #[.agg #[.int .i64 (sx.c 3),.int .i64 (sx.c 4),.int .i64 (sx.c 7),.int .i64 (sx.c 8),.int .i64 (sx.c 11),.int .i64 (sx.c 12)],.agg (cells sx),.int .i64 base,.int .i64 i0] X fun e X'=>e = .returned (.agg (itv it))∧Below X.heap.size X X':=fun X=>by
     rw [← hit]
     exact fasitem _ _ _ _ _ _ sx base i0 X
    have lbx:=BxAt.lt HBX5.out
    have lR5:=hA5.lt
    have lQ:=AQ5.lt
    have cQ:w5.cell? ⟨Q,12,none⟩=some (.pointer (some ⟨x.bx,0,none⟩)):=(AQ5.cell 12).trans rfl
    have nQ:Q≠R:=by omega
    have n2:w.heap.size≠R:=by omega
    obtain ⟨l0,c0_0,c0_1,c0_2⟩:=At.three B5
    have HFI2:=Lib.hid (show q + k * 17 + 5≤cs'.size by have:=hC.out.1;rw [chg_length] at this;have h2:k * 17 + 17≤xs0.length * 17:=Z3f;omega)
    have hSd:Out (fun b=>b=R) w5 w5.drew:=(Out.refl _ _).drew
    go_upto_region 7 with (fail)
    refine tkX (S:=fun X=>Out (fun b=>b=R) w5 X) 21 ?_ ?_
    · exact hSd
    intro hx
    clear hSd
    refine tkO 0 ?_
    refine tkO 1 ?_
    refine tkO 2 ?_
    refine tkO 3 ?_
    refine tkO 4 ?_
    refine tkO 5 ?_
    refine tkO 6 ?_
    refine tkR 7 rfl (reads_ext0 (.tmp 59) Z3n rfl rfl (fun X h=>At.out HBX5.out n4 h)) ?_
    refine tkO 8 ?_
    refine tkO 9 ?_
    refine tkO 10 ?_
    refine tkO 11 ?_
    refine tkR 12 rfl (reads_load_sty Z3n (.tmp 64) rfl rfl (fun X h=>BxAt.style (At.out HBX5.out n4 h))) ?_
    refine tkO 13 ?_
    refine tkO 14 ?_
    refine tkO 15 ?_
    refine tkO 16 ?_
    refine tk1 17 ?_
    refine Drawn.Step.call tkL (keyT _) ?_
    rintro e' w13 ⟨rfl,hb⟩
    have hA13:At w13 R (.cells cs' 203):=At.keep (At.drew hA5) hb
    have hO13:Out (fun b=>b=R) w5 w13:=Out.trans' ((Out.refl _ w5).drew) (Out.of_below (M:=fun _=>False) hb) fun _ _ q=>q.elim
    refine ⟨_,rfl,fun _=>hO13,?_⟩
    (try simp only [tkp,tka,tkz,tks])
    refine tkO 18 ?_
    refine tkO 19 ?_
    refine tk1 20 ?_
    refine Drawn.Step.skip (exec_store_at (q:=q + k * 17) siz_fi (.tmp 72) (.tmp 70) rfl rfl rfl hA13 (itv_size it) HFI2.out (itv_one it)) ?_
    have hA14:=At.setRow hA13 (splice cs' (q + k * 17) (itv it))
    have hO14:Out (fun b=>b=R) w13 (w13.setRow R (splice cs' (q + k * 17) (itv it))):=Out.setRow (M:=fun b=>b=R) (Out.refl _ _) rfl _
    refine ⟨fun _=>hO13.trans hO14,?_⟩
    (try simp only [tkp,tka,tkz,tks])
    refine tkE ?_
    have hOn:=hO13.trans hO14
    have hput2:=hC.out.putIt hkc it
    rw [chg_get _ _ hkx,HX.out] at hput2
    have hC14:Hid (ISub (splice cs' (q + k * 17) (itv it)) q (chg (rwG B i0) xs0 (k + 1))):=Lib.hid (by
     rw [← chg_succ _ _ hkx,HX.out]
     have e:rwG B i0 x={ x with it:=it }:=by
      unfold rwG Fw.rowIt
      rw [HSX.out, ← hit, ← hbase]
     rw [e]
     exact hput2.1)
    have hS14:=hS5.own (M:=fun b=>b=R) hOn fun b hb h=>by subst h;exact ⟨hPR,by omega⟩
    have B14:=B5.out (M:=fun b=>b=R) n2 hOn
    have C14:=C5.out (M:=fun b=>b=R) Z3f hOn
    have HBZ14:=Lib.hid (At.out (M:=fun b=>b=R) HBZ5.out n0R hOn)
    generalize w13.setRow R (splice cs' (q + k * 17) (itv it))=w14 at *
    generalize splice cs' (q + k * 17) (itv it)=cs4 at *
    clear hx hput2 hA5 hA13 hO13 hO14 hOn hS5 B5 C5 HBX5 HBZ5 l0 c0_0 c0_1 c0_2 keyT lbx lR5 lQ cQ hbase hit hC AQ5 hb35
    go_wp2
    go_roundw
    case rel=>exact ⟨k + 1,cs4,by omega,by go_num,hS14,hA14,hC14,B14,C14,HBZ14⟩
    case measure=>simp [intOf];omega
  · obtain rfl:k=m:=by omega
    have hC1:Hid (ISub cs' q xs1):=Lib.hid (by
     have:=hC.out
     rw [← HL0.out,chg_all, ← HXG.out] at this
     exact this)
    have HSr:=Lib.hid hSr
    have HRR:=Lib.hid (hSr.ro hKO HR0.out hkm)
    have lRr:=hAr.lt
    obtain ⟨l0,c0_0,c0_1,c0_2⟩:=At.three A0
    have lbz:=BxAt.lt hBZ.out
    have cz46:wr.cell? ⟨b0,46,none⟩=some (.int .i64 (s.c 46)):=BxAt.int hBZ.out 46 Z3f rfl
    have cz45:wr.cell? ⟨b0,45,none⟩=some (.bool (s.b 45)):=(At.cell hBZ.out 45).trans (by rw [bxc_sty _ _ _ _ Z3f];rfl)
    clear hC hSr hlt
    go_upto_region 9 with (fail)
    have hSd:Below wr.heap.size wr wr.drew:=Below.drew (Below.refl _ _)
    refine tkX (S:=fun X=>Below wr.heap.size wr X) 18 ?_ ?_
    · exact hSd
    intro hx
    clear hSd
    refine tkB 0 ?_
    refine tkB 3 ?_
    refine tkB 4 ?_
    refine tkB 5 ?_
    refine tkB 6 ?_
    refine tkB 7 ?_
    refine tkB 8 ?_
    refine tkB 9 ?_
    refine tkB 10 ?_
    refine tkB 11 ?_
    refine tkB 12 ?_
    refine tkB 13 ?_
    refine tkB 14 ?_
    refine tkB 15 ?_
    refine tk1 1 ?_
    refine Drawn.Step.call tkL (fclampf_any 0 _) ?_
    rintro e' w7 ⟨rfl,hw7⟩
    have hb7:Below wr.drew.heap.size wr.drew w7:=hw7 ▸ Below.alloc' (Below.refl _ _) _
    have AB:At w7 wr.drew.heap.size (.cells #[.int .i64 0] 3):=hw7 ▸ At.new _ _
    clear hw7
    replace hx:=Below.after2 hx (Nat.le_refl _) hb7
    generalize wr.drew.heap.size=Bq at *
    refine ⟨_,rfl,fun _=>hx,?_⟩
    (try simp only [tkp,tka,tkz,tks])
    have keyT:=ftoldC #[.pointer (some ⟨Bq,0,none⟩)] (fun i=>longs.getD i 0) (some ⟨R,q,none⟩) xs1 k w7 (hC1.out.ims (hAr.keep hx)) (by rw [HL1.out];omega) (fun i h X hb=>by
     have h':i<fl.length:=by have:=HL1.out;have:=HM.out;omega
     have ex:xs1[i]=rwI Y B i0 fl[i]:=by
      have e1:=HX1.out
      subst e1
      simp
     have el:longs.getD i 0=Fw.wr (Fe.clamp (Fw.rowIt B i0 fl[i]) (Fw.rowIt B i0 fl[i]).b + Fw.kex B i0 0 fl[i]):=by
      rw [← HLO.out,List.getD,List.getElem?_map,List.getElem?_eq_getElem h']
      rfl
     have ho:=HOK1.out xs1[i] (List.getElem_mem _)
     have hbx:=BxAt.keep ((HRR.out.box _ ho.d).1) (Below.after2 hx (Nat.le_refl _) hb)
     rw [← ho.bx] at hbx
     have h1:=fclamped xs1[i] _ _ _ _ Bq X hbx ((hb.cell (p:=⟨Bq,0,none⟩) AB.lt).trans (AB.cell 0))
     rw [el]
     rw [ex] at h1 ⊢
     exact h1)
    rw [HL1.out] at keyT
    refine tk1 2 ?_
    refine Drawn.Step.call tkL keyT ?_
    rintro e' w8 ⟨⟨bt,rfl,gbt,hT⟩,hb8⟩
    replace hx:=Below.after2 hx (Nat.le_refl _) hb8
    refine ⟨_,rfl,fun _=>hx,?_⟩
    (try simp only [tkp,tka,tkz,tks])
    have hIt:Ints w8 (some ⟨bt,0,none⟩) longs:=by
     have h1:=jints_of_made _ _ Z3y hT
     have h2:=row_self longs
     rw [HLL.out] at h2
     rw [h2] at h1
     exact h1
    have hs8:=hx.size
    have keyB:=break_any (some ⟨bt,0,none⟩) longs k k i0 (s.c 46) (s.b 45) w8 hIt HLL.out Z3f (Nat.le_refl _)
    rw [HBR.out] at keyB
    refine tk1 16 ?_
    refine Drawn.Step.call tkL keyB ?_
    rintro e' w9 ⟨v,rfl,hown,hb9⟩
    replace hx:=Below.after2 hx (Nat.le_refl _) hb9
    refine ⟨_,rfl,fun _=>hx,?_⟩
    (try simp only [tkp,tka,tkz,tks])
    have hbrne:br≠[]:=by
     rw [← HBR.out]
     unfold Li.brk
     rw [Li.tail_step _ _ _ _ (by rw [HLL.out];exact hm0)]
     exact List.cons_ne_nil _ _
    obtain ⟨g,cbr,rfl,gg,hPr⟩:=pairs_own hown hbrne
    refine tkB 17 ?_
    refine tkE ?_
    obtain ⟨nb,hnb⟩:∃ n,br.length=n:=⟨_,rfl⟩
    rw [hnb]
    have HNB:=Lib.hid hnb
    have hnb64:nb≤64:=by
     have h1:=Li.brk_length i0 (s.c 46) (s.b 45) longs
     rw [HBR.out,hnb,HLL.out] at h1
     omega
    have gg2:wr.heap.size≤g:=by omega
    have HPR9:=Lib.hid hPr
    have hA9:=hAr.keep hx
    have hS9:=HSr.out.after hx
    have B9:=A0.keep hx
    have C9:=A4.keep hx
    have HBZ9:=Lib.hid (BxAt.keep hBZ.out hx)
    have hE:=HHH.out
    rw [hnb] at hE
    have HHE:=Lib.hid hE
    have hsz9:=hx.size
    clear keyT keyB hIt hT gbt hown hb7 hb8 hb9 AB hx HSr hAr A0 A4 hBZ HRR cz46 cz45 lbz l0 c0_0 c0_1 c0_2 hPr hnb hE gg hs8 hbrne
    obtain ⟨l0,c0_0,c0_1,c0_2⟩:=At.three B9
    go_upto_if 93 with (fail)
    go_cut [11] from 91 to 97 (fun v w2=>v = .int .i64 hh∧Below w9.heap.size w9 w2)
    case first =>
     by_cases hq:nb=1
     · have e1:=HHE.out
       rw [if_pos hq] at e1
       have E1:=Lib.hid e1
       have hq1:(nb:Int)=1:=by omega
       have hq2:((nb:Int) == 1)=true:=by rw [hq1];rfl
       exact Z1m
     · have e1:=HHE.out
       rw [if_neg hq] at e1
       have E1:=Lib.hid e1
       have hq1:¬ (nb:Int)=1:=by omega
       have hq2:((nb:Int) == 1)=false:=by rw [beq_eq_false_iff_ne];exact hq1
       exact Z1m
    case rest =>
     obtain ⟨rfl,hb10⟩:=hcut
     have hS10:=hS9.after hb10
     have hA10:=hA9.keep hb10
     have B10:=B9.keep hb10
     have C10:=C9.keep hb10
     have HBZ10:=Lib.hid (BxAt.keep HBZ9.out hb10)
     have HPR10:=Lib.hid (PrAt.out (M:=fun _=>False) HPR9.out (Out.of_below hb10) fun h=>h)
     have hbld:∀ X,(Instr.build 144 #[]).run Tryz.prog X = .ok (.agg #[.slice none 0 0,.int .i64 0]) X:=fun _=>by kernel_rfl
     have hsz10:=hb10.size
     clear hS9 hA9 B9 C9 HBZ9 HPR9 hb10 l0 c0_0 c0_1 c0_2 HHE
     go_upto_region 15 with (fail)
     generalize hW:World.alloc _ _=w11
     obtain ⟨Cb,hCb⟩:∃ b,wc.heap.size=b:=⟨_,rfl⟩
     have AC:At w11 Cb (.cells #[.slice none 0 0,.int .i64 0] 144):=hW ▸ At.new' _ hCb.symm
     have hb11:Below wc.heap.size wc w11:=hW ▸ Below.alloc' (Below.refl _ _) _
     rw [hCb]
     have hS11:=hS10.after hb11
     have hA11:=hA10.keep hb11
     have B11:=B10.keep hb11
     have C11:=C10.keep hb11
     have HBZ11:=Lib.hid (BxAt.keep HBZ10.out hb11)
     have HPR11:=Lib.hid (PrAt.out (M:=fun _=>False) HPR10.out (Out.of_below hb11) fun h=>h)
     obtain ⟨N5,hN5⟩:∃ N,w11.heap.size=N:=⟨_,rfl⟩
     have lC5:Cb<N5:=by have:=AC.lt;omega
     have lR5:R<N5:=by have:=hA11.lt;omega
     have lg5:g<N5:=by have:=HPR11.out.1;omega
     have nCR:Cb≠R:=by have:=hA10.lt;omega
     have nCg:Cb≠g:=by have:=HPR10.out.1;omega
     have nRg:R≠g:=by omega
     have nC0:b0<R:=by omega
     have nCw:w.heap.size + 1<Cb:=by have:=C10.lt;omega
     have HN5:=Lib.hid hN5
     have hP5:=Lib.hid (show ∀ b,P b→b<w.heap.size from hP)
     have H0:Hid (br.drop 0=Li.tail i0 (s.c 46) (s.b 45) longs 0∧0≤k∧([]:List Fw.Ld).length=0∧(xs,hi)=([] ++ (Fw.rowLines B (Fw.lay B f) z i0 i1 hh fl (decide (0=0)) 0 (br.drop 0)).1,(Fw.rowLines B (Fw.lay B f) z i0 i1 hh fl (decide (0=0)) 0 (br.drop 0)).2)):=Lib.hid ⟨by rw [← HBR.out];rfl,Nat.zero_le _,rfl,by rw [← HMR.out];rfl⟩
     clear hW hbld hb11 hS10 hA10 B10 C10 HBZ10 HPR10 hCb hN5 hsz10 hsz9
     go_loopw [100] (fun iv wr=>∃ (k2 n':Nat) (P':Nat→Prop) (cs2:Array Value) (v:Value) (y:Int) (out:List Fw.Ld) (at_:Nat),k2≤nb∧iv = .int .i64 k2∧Hid (br.drop k2=Li.tail i0 (s.c 46) (s.b 45) longs at_∧at_≤k∧out.length=at_∧(xs,hi)=(out ++ (Fw.rowLines B (Fw.lay B f) z i0 i1 hh fl (decide (k2=0)) y (br.drop k2)).1,(Fw.rowLines B (Fw.lay B f) z i0 i1 hh fl (decide (k2=0)) y (br.drop k2)).2))∧n'≤n + 2 * csum B f xs1 at_∧LSt Y B F w P n' P' wr∧Hid (∀ b,b<N5→P' b→P b)∧N5≤wr.heap.size∧At wr R (.cells cs2 203)∧Hid (ISub cs2 (q + at_ * 17) (xs1.drop at_))∧At wr Cb (.cells #[v,.int .i64 y] 144)∧Hid (wr.ownsRow N5 94 7 v out.length (ldcs out))∧Hid (∀ b,v.ownBlock=some b→¬ P' b)∧At wr w.heap.size (.cells #[.int .i64 z,.int .i64 i0,.int .i64 i1] 92)∧At wr (w.heap.size + 1) (.cells #[.slice none 0 0,.int .i64 0] 144)∧Hid (BxAt wr b0 s zvf zva zib)∧Hid (PrAt wr g br)) (fun iv _=>nb - (intOf iv).toNat)
     case atStart=>exact ⟨0,n,P,cs',.slice none 0 0,0,[],0,Nat.zero_le _,rfl,H0,by omega,hS11,Lib.hid fun b _ h=>h,by rw [HN5.out];exact Nat.le_refl _,hA11,Lib.hid (by simpa using hC1.out),AC,Lib.hid (World.ownsRow_nil _ _ _ _),Lib.hid (fun b h=>by simp [Value.ownBlock] at h),B11,C11,HBZ11,HPR11⟩
     case round =>
      clear hS11 hA11 AC B11 C11 HBZ11 HPR11 H0 hC1
      obtain ⟨k2,n',P',cs2,v,y,out,at_,hk2,rfl,hTT,hn',hSr,hPn,hNr,hAr,hC,AC,hown,hvg,A0,A4,hBZ,hPr⟩:=hrel
      by_cases hlt:k2<nb
      · have hltz:(k2:Int)<(nb:Int):=by omega
        have HK2:Hid (k2<nb):=Lib.hid hlt
        have hkb:k2<br.length:=by rw [HNB.out];exact hlt
        have hat:at_<longs.length:=Classical.byContradiction fun h=>by
         have h1:=hTT.out.1
         rw [Li.tail_end _ _ _ _ Z3f] at h1
         have h2:=congrArg List.length h1
         rw [List.length_drop] at h2
         simp at h2
         omega
        obtain ⟨en,hen⟩:∃ e,Li.stop i0 (s.c 46) (s.b 45) longs at_=e:=⟨_,rfl⟩
        have hgt:at_<en:=by rw [← hen];exact Li.stop_gt _ _ _ _ _
        have hle:en≤k:=by rw [← hen, ← HLL.out];exact Li.stop_le _ _ _ _ hat
        have hdr:br.drop k2=(at_,en) :: Li.tail i0 (s.c 46) (s.b 45) longs en:=by rw [hTT.out.1,Li.tail_step _ _ _ _ hat,hen]
        have hb2:br[k2]=(at_,en)∧br.drop (k2 + 1)=Li.tail i0 (s.c 46) (s.b 45) longs en:=by
         rw [List.drop_eq_getElem_cons hkb] at hdr
         injection hdr with h1 h2
         exact ⟨h1,h2⟩
        obtain ⟨lg,hpc⟩:=hPr.out
        have hp2:=hpc k2 hkb
        rw [hb2.1] at hp2
        obtain ⟨cg0,cg1⟩:=hp2
        have HB2:=Lib.hid hb2
        have HDR:=Lib.hid hdr
        have HSr:=Lib.hid hSr
        obtain ⟨y1,hy1⟩:∃ t,(if (decide (k2=0))=true then y else Fw.wr (y + s.c 46))=t:=⟨_,rfl⟩
        have HY1:=Lib.hid hy1
        clear hpc hb2 hdr hen hSr hy1 hat
        go_upto_region 17 with (fail)
        generalize hW:World.alloc _ _=W2
        obtain ⟨L,hL2⟩:∃ b,wr.heap.size=b:=⟨_,rfl⟩
        have AL:At W2 L (.cells #[.int .i64 (at_:Int),.int .i64 (en:Int)] 35):=hW ▸ At.new' _ hL2.symm
        have hb2:Below wr.heap.size wr W2:=hW ▸ Below.alloc' (Below.refl _ _) _
        have gL:N5≤L:=by omega
        rw [hL2]
        have AC2:=AC.keep hb2
        have HBZ2:=Lib.hid (BxAt.keep hBZ.out hb2)
        have lCb:=AC2.lt
        clear hW hL2 lg cg0 cg1
        go_upto_if 106 with (fail)
        go_cut [] from 105 to 116 (fun w2=>At w2 Cb (.cells #[v,.int .i64 y1] 144)∧Out (fun b=>b=Cb) W2 w2)
        case first =>
         by_cases hk0:k2=0
         · have hk0z:¬ (0:Int)<(k2:Int):=by omega
           have e1:=HY1.out
           rw [if_pos (by simp [hk0])] at e1
           have E1:=Lib.hid e1
           clear e1 hk0
           go_wp2
           go_meet
           case rel=>exact ⟨by rw [← E1.out];exact AC2,Out.refl _ _⟩
         · have hk0z:(0:Int)<(k2:Int):=by omega
           have e1:=HY1.out
           rw [if_neg (by simp [hk0]), ← wri] at e1
           have E1:=Lib.hid e1
           have cz46:W2.cell? ⟨b0,46,none⟩=some (.int .i64 (s.c 46)):=BxAt.int HBZ2.out 46 Z3f rfl
           have lbz:=BxAt.lt HBZ2.out
           obtain ⟨lC,cC0,cC1⟩:=At.two AC2
           have zC1:=AC2.thaw 1
           clear e1 hk0
           go_upto_region 18 with (fail)
           have hSd:Below W2.heap.size W2 W2.drew:=Below.drew (Below.refl _ _)
           refine tkX (S:=fun X=>Below W2.heap.size W2 X) 9 ?_ ?_
           · exact hSd
           intro hx
           clear hSd
           refine tkB 0 ?_
           refine tkB 1 ?_
           refine tkB 2 ?_
           refine tkB 3 ?_
           refine tkB 4 ?_
           refine tkB 5 ?_
           refine tkB 6 ?_
           refine tkB 7 ?_
           refine tkB 8 ?_
           refine tk1 9 ?_
           refine Drawn.Step.skip tkL ?_
           generalize hW:World.setCell _ _ _=W3
           have AC3:At W3 Cb (.cells #[v,.int .i64 y1] 144):=by
            rw [← hW, ← E1.out]
            exact At.set AC2 1 _
           have hO3:Out (fun b=>b=Cb) W2 W3:=by
            rw [← hW]
            exact Out.set (M:=fun b=>b=Cb) (Out.refl _ _) rfl 1 _
           refine ⟨by intro hlt;exact absurd hlt Z3i,?_⟩
           (try simp only [tkp,tka,tkz,tks])
           refine tkE ?_
           clear hW lC cC0 cC1 zC1 hx cz46 lbz
           go_wp2
           go_meet
           case rel=>exact ⟨At.drew AC3,Out.drew hO3⟩
        case rest =>
         obtain ⟨AC3,hO3⟩:=hcut
         have hPC:¬ P' Cb:=fun h=>by have:=hP5.out _ (hPn.out _ lC5 h);omega
         have hPR':¬ P' R:=fun h=>by have:=hP5.out _ (hPn.out _ lR5 h);omega
         have hS3:=(HSr.out.after hb2).own hO3 fun b hb h=>by subst h;exact ⟨hPC,by omega⟩
         have hOA:Out (fun b=>b=Cb) wr wc:=(Out.of_below hb2).trans hO3
         have hA3:=hAr.out (M:=fun b=>b=Cb) (Ne.symm nCR) hOA
         have B3:=A0.out (M:=fun b=>b=Cb) Z3f hOA
         have C3:=A4.out (M:=fun b=>b=Cb) Z3f hOA
         have HBZ3:=Lib.hid (At.out (M:=fun b=>b=Cb) hBZ.out Z3f hOA)
         have HPR3:=Lib.hid (PrAt.out (M:=fun b=>b=Cb) hPr.out hOA (Ne.symm nCg))
         have AL3:=AL.out (M:=fun b=>b=Cb) Z3f hO3
         have hown3:=Lib.hid (ownsRow_out (M:=fun b=>b=Cb) hown.out (fun g' hg' e=>by have:=(hown.out.lt g' hg').1;omega) hOA)
         have hN3:N5≤wc.heap.size:=Nat.le_trans hNr hOA.size
         obtain ⟨lL,cL0,cL1⟩:=At.two AL3
         have hcp:¬ k=at_:=by omega
         have hle1:at_≤en:=by omega
         have hle3:at_≤k:=by omega
         have hle1z:(at_:Int)≤(en:Int):=by omega
         have hle2z:(en:Int)≤(k:Int):=by omega
         clear AC2 HBZ2 AL hO3 hOA hAr A0 A4 hBZ hPr hown hb2 HSr lCb
         obtain ⟨d,hd⟩:∃ d,en - at_=d:=⟨_,rfl⟩
         have hd0:0<d:=by omega
         have hd64:d≤64:=by omega
         have HDD:Hid (at_ + d=en):=Lib.hid Z3f
         go_upto_region 20 with (fail)
         have HD:=Lib.hid hd
         clear hd hle1 hle3 hle1z hle2z hcp cL0 cL1 lL AL3
         obtain ⟨xsl,hxsl⟩:∃ l,(xs1.drop at_).take d=l:=⟨_,rfl⟩
         have hxll:xsl.length=d:=by rw [← hxsl,List.length_take,List.length_drop,HL1.out];have:=HDD.out;omega
         obtain ⟨X1,hX1⟩:∃ l,lnLaid B f s i0 i1 hh xsl=l:=⟨_,rfl⟩
         obtain ⟨deep,hdeep⟩:∃ l,lnDeep hh X1=l:=⟨_,rfl⟩
         obtain ⟨X2,hX2⟩:∃ l,lnHigh B f s i0 i1 deep X1=l:=⟨_,rfl⟩
         obtain ⟨bs,hbs⟩:∃ l,lnBegun s i0 deep X2=l:=⟨_,rfl⟩
         have hmap:xsl=((fl.drop at_).take d).map (rwI Y B i0):=by rw [← hxsl,HX1.out, ← List.map_drop, ← List.map_take]
         have HRL:Hid (Fw.rowLine B (Fw.lay B f) z i0 i1 hh ((fl.drop at_).take d)=(bs.map (·.ld),deep)):=Lib.hid (by
          rw [← hbs]
          exact rowLine_items Y B f z i0 i1 hh _ s HSS.out X1 X2 deep (by rw [← hmap];exact hX1) hdeep hX2)
         have HBL:Hid (bs.length=d):=Lib.hid (by
          have h1:X1.length=d:=by rw [← hX1];unfold lnLaid;rw [List.length_mapIdx,hxll]
          have h2:X2.length=d:=by
           rw [← hX2]
           unfold lnHigh
           split
           · rw [List.length_map,h1]
           · exact h1
          rw [← hbs]
          unfold lnBegun
          rw [List.length_mapIdx,h2])
         have hcs:csum B f xsl xsl.length + csum B f xs1 at_=csum B f xs1 en:=by
          unfold csum
          rw [List.take_length, ← hxsl, ← HDD.out,List.take_add,List.map_append,List.sum_append]
          omega
         have hcs2:=csum_le B f xs1 en
         rw [HL1.out,HCS.out] at hcs2
         have hnn:=HN.out
         have keyN:=fline hL hK hKO HR0.out hkm R (q + at_ * 17) (k - at_) z i0 i1 hh hz xsl cs2 wc n' P' hS3 hA3 (by rw [← hxsl];exact hC.out.front (by rw [List.length_drop,HL1.out];have:=HDD.out;omega)) (fun x hx=>HOK1.out x (List.mem_of_mem_drop (List.mem_of_mem_take (hxsl.symm ▸ hx)))) hPR' Z3f Z3f Z3f s HSS.out X1 X2 deep hX1 hdeep hX2
         rw [hxll,hbs] at keyN
         rw [hxll] at hcs
         obtain ⟨l0,c0_0,c0_1,c0_2⟩:=At.three B3
         have hC3:=Lib.hid hC.out
         clear hX1 hdeep hX2 hbs hmap hxsl hS3 hA3 hC
         go_upto_region 22 with (go_at_call 146;(with_reducible refine keyN.mono ?_);rintro e' w6 ⟨rfl,n2,P2,cs3,hn2,hS6,hPR2,hP2,hA6,hI6,hM6,hO6⟩)
         have hs6:=hO6.size
         have npm:Y.pm<w.heap.size:=hpl
         have hoff6:∀ b,b≠R→w.heap.size≤b→¬ (b=Y.pm∨b=R):=fun b h1 h2 h=>by rcases h with h | h <;> omega
         have AC6:=AC3.out (hoff6 Cb nCR Z3f) hO6
         have B6:=B3.out (hoff6 _ Z3f Z3f) hO6
         have C6:=C3.out (hoff6 _ Z3f Z3f) hO6
         have HBZ6:=Lib.hid (At.out (M:=fun b=>b=Y.pm∨b=R) HBZ3.out (by rintro (h | h);exact n0p h;exact n0R h) hO6)
         have HPR6:=Lib.hid (PrAt.out HPR3.out hO6 (hoff6 g (Ne.symm nRg) Z3f))
         have hown6:=Lib.hid (ownsRow_out (M:=fun b=>b=Y.pm∨b=R) hown3.out (fun g' hg'=>hoff6 g' (by have:=(hown3.out.lt g' hg').1;omega) (by have:=(hown3.out.lt g' hg').1;omega)) hO6)
         have hPn6:Hid (∀ b,b<N5→P2 b→P b):=Lib.hid fun b hb h=>hPn.out b hb (hP2 b Z3f h)
         have hvg6:Hid (∀ b,v.ownBlock=some b→¬ P2 b):=Lib.hid fun b h hp=>hvg.out b h (hP2 b (hown3.out.lt b h).2 hp)
         have HIS6:Hid (ISub cs3 (q + en * 17) (xs1.drop en)):=Lib.hid (by
          have h1:=hC3.out.rest hM6 (by rw [List.length_drop,HL1.out];have:=HDD.out;omega)
          rw [List.drop_drop,HDD.out] at h1
          have e:q + at_ * 17 + d * 17=q + en * 17:=by have:=HDD.out;omega
          rw [e] at h1
          exact h1)
         have HI6:=Lib.hid hI6
         have hN6:N5≤w6.heap.size:=Nat.le_trans hN3 hs6
         have HN2:Hid (n2≤n + 2 * csum B f xs1 en):=Lib.hid Z3f
         obtain ⟨sh,hsh⟩:∃ l:List Fw.Ld,(bs.map (·.ld)).map (fun x=>{ x with a1:=Fw.wr (x.a1 + y1) })=l:=⟨_,rfl⟩
         have HSH:=Lib.hid hsh
         have HSL:Hid (sh.length=d):=Lib.hid (by rw [← hsh,List.length_map,List.length_map,HBL.out])
         have HOL:=Lib.hid hTT.out.2.2.1
         clear keyN hn2 hP2 hI6 hM6 hO6 AC3 B3 C3 HBZ3 HPR3 hown3 hvg hPn hN3 hoff6 hsh hcs hcs2 hn' hC3 l0 c0_0 c0_1 c0_2 hPR' hPC hNr
         go_loopw [129] (fun iv wr=>∃ (i:Nat) (v3:Value),i≤d∧iv = .int .i64 i∧LSt Y B F w P n2 P2 wr∧At wr R (.cells cs3 203)∧At wr Cb (.cells #[v3,.int .i64 y1] 144)∧Hid (wr.ownsRow N5 94 7 v3 (out ++ sh.take i).length (ldcs (out ++ sh.take i)))∧Hid (∀ b,v3.ownBlock=some b→¬ P2 b)∧At wr w.heap.size (.cells #[.int .i64 z,.int .i64 i0,.int .i64 i1] 92)∧At wr (w.heap.size + 1) (.cells #[.slice none 0 0,.int .i64 0] 144)∧Hid (BxAt wr b0 s zvf zva zib)∧Hid (PrAt wr g br)∧N5≤wr.heap.size) (fun iv _=>d - (intOf iv).toNat)
         case atStart=>exact ⟨0,v,Nat.zero_le _,rfl,hS6,hA6,AC6,Lib.hid (by simpa using hown6.out),hvg6,B6,C6,HBZ6,HPR6,hN6⟩
         case round =>
          clear hS6 hA6 AC6 hown6 hvg6 B6 C6 HBZ6 HPR6 hN6
          obtain ⟨i,v3,hid3,rfl,hSr,hAr,AC,hown,hvg,A0,A4,hBZ,hPr,hNr⟩:=hrel
          by_cases hlt:i<d
          · have hltz:(i:Int)<(d:Int):=by omega
            have hix:i<bs.length:=by rw [HBL.out];exact hlt
            have hIm:=HI6.out.at_ hAr hix
            obtain ⟨x,hx⟩:∃ x,bs[i]=x:=⟨_,rfl⟩
            rw [hx] at hIm
            have HX:=Lib.hid hx
            have HSr:=Lib.hid hSr
            have hPlt:=Lib.hid hSr.lt
            have lRr:=hAr.lt
            clear hx hSr
            go_upto_region 24 with (first | (refine wpList_load_im Z3n _ rfl rfl (by with_reducible assumption) ?_) | (refine wpList_alloc_im Z3n rfl ?_) | (refine wpList_store_im0 Z3n _ _ rfl rfl rfl Z4f ?_))
            generalize hW:World.setRow _ _ _=W3
            obtain ⟨Q,hQ⟩:∃ b,wr.heap.size=b:=⟨_,rfl⟩
            have AQ:At W3 Q (.cells (imc x) 203):=hW ▸ hQ ▸ At.setRow (At.new _ _) _
            have hb3:Below wr.heap.size wr W3:=hW ▸ setRow_below (Below.alloc' (Below.refl _ _) _) (Nat.le_refl _) _
            have gQ:wr.heap.size≤Q:=Nat.le_of_eq hQ
            rw [hQ]
            clear hW hQ hIm lRr
            obtain ⟨p,hp⟩:∃ v2,IntKind.i64.wrap (x.ld.a1 + y1)=v2:=⟨_,rfl⟩
            obtain ⟨y',hy'⟩:∃ y:Fw.Ld,{ x.ld with a1:=p }=y:=⟨_,rfl⟩
            have HTK:Hid (sh.take (i + 1)=sh.take i ++ [y']):=Lib.hid (by
             have hxi:i<sh.length:=by rw [HSL.out];exact hlt
             rw [List.take_succ_eq_append_getElem hxi]
             congr 2
             have e:=HSH.out
             have e2:sh[i]={ bs[i].ld with a1:=Fw.wr (bs[i].ld.a1 + y1) }:=by subst e;simp
             rw [e2,HX.out, ← wri,hp,hy'])
            have AC3:=AC.keep hb3
            have lQ:=AQ.lt
            have c11:W3.cell? ⟨Q,11,none⟩=some (.int .i64 x.ld.a1):=(AQ.cell 11).trans rfl
            have z11:=AQ.thaw 11
            obtain ⟨lC,cC0,cC1⟩:=At.two AC3
            go_upto_region 25 with (fail)
            generalize hW:World.setCell _ _ _=W9
            have AQ9:At W9 Q (.cells (imc { x with ld:=y' }) 203):=by
             rw [← hW, ← hy']
             exact At.set AQ 11 _
            have hb9:Below wr.heap.size wr W9:=by
             rw [← hW]
             exact Below.setCell hb3 gQ _
            clear hW lQ c11 z11 AQ hb3 hp hy' AC3 lC cC0 cC1
            have hown9:=ownsRow_out (M:=fun _=>False) hown.out (fun _ _ q=>q) (Out.of_below hb9)
            have hs9:=hb9.size
            obtain ⟨g',c',w',hr,hown',hOa,hgg⟩:=append_ld2 y' hown9 Z3f (by rw [List.length_append,HOL.out,List.length_take,HSL.out];omega)
            obtain ⟨ln,hln⟩:∃ n,(out ++ sh.take i).length + 1=n:=⟨_,rfl⟩
            rw [hln] at hr hown'
            clear hln
            have hrun:=Lib.hid hr
            have hQL:∀ j,j<7→W9.cell? ⟨Q,5 + j,none⟩=(ldc y')[j]? := fun j hj=>by
             rw [AQ9.cell]
             exact Z2h
            have hob:∀ b,v3.ownBlock=some b→N5≤b:=fun b h=>(hown.out.lt b h).1
            have AC9:=AC.keep hb9
            have ACn:At w' Cb (.cells #[v3,.int .i64 y1] 144):=At.out (M:=fun b=>v3.ownBlock=some b) (AC9.alloc _) (fun h=>by have:=hob Cb h;omega) hOa
            obtain ⟨lC9,cC90,cC91⟩:=At.two AC9
            obtain ⟨lCn,cCn0,cCn1⟩:=At.two ACn
            have zCn0:=ACn.thaw 0
            have lQ9:=AQ9.lt
            have HQL:=Lib.hid hQL
            clear hr hown9 hQL
            go_upto_region 26 with (first | (refine wpList_load_at agg_ld siz_ld Z3n _ rfl rfl (ldc_size y') HQL.out ?_) | (refine wpList_built_ld Z3n _ rfl rfl ?_) | (at_builtin;refine wpList_append_run Z3n _ _ 142 rfl rfl rfl hrun.out ?_))
            generalize hW:World.setCell _ _ _=W10
            have AC10:At W10 Cb (.cells #[.slice (some ⟨g',0,none⟩) ln c',.int .i64 y1] 144):=hW ▸ At.set ACn 0 _
            have hOs:Out (fun b=>b=Cb) w' W10:=hW ▸ Out.set (M:=fun b=>b=Cb) (Out.refl _ _) rfl 0 _
            have hown10:Hid (W10.ownsRow N5 94 7 (.slice (some ⟨g',0,none⟩) ln c') (out ++ sh.take (i + 1)).length (ldcs (out ++ sh.take (i + 1)))):=Lib.hid (by
             rw [HTK.out, ← List.append_assoc]
             exact ownsRow_out (M:=fun b=>b=Cb) hown' (fun g hg e=>by have:=(hown'.lt g hg).1;omega) hOs)
            have hvg10:Hid (∀ b,(Value.slice (some ⟨g',0,none⟩) ln c').ownBlock=some b→¬ P2 b):=Lib.hid fun b h hp=>by
             have e:g'=b:=by simpa [Value.ownBlock] using h
             subst e
             rcases hgg with h1 | h1
             · exact hvg.out _ h1 hp
             · have:=hPlt.out _ hp;omega
            have hOt:Out (fun b=>v3.ownBlock=some b∨b=Cb) wr W10:=(Out.of_below (Below.alloc' hb9 _)).trans ((hOa.mono fun b _ h => .inl h).trans (hOs.mono fun b _ h => .inr h))
            have hoff:∀ b,b<N5→b≠Cb→¬ (v3.ownBlock=some b∨b=Cb):=fun b hb hn h=>by
             rcases h with h | h
             · have:=hob b h;omega
             · exact hn h
            have hS10:=HSr.out.own hOt fun b hb h=>by
             rcases h with h | h
             · have h1:=hob b h
               exact ⟨hvg.out b h,by omega⟩
             · subst h
               exact ⟨fun hp=>by have:=hP5.out _ (hPn6.out _ lC5 hp);omega,by omega⟩
            have hA10:=hAr.out (hoff R lR5 (Ne.symm nCR)) hOt
            have B10:=A0.out (hoff _ Z3f Z3f) hOt
            have C10:=A4.out (hoff _ Z3f Z3f) hOt
            have HBZ10:=Lib.hid (At.out hBZ.out (hoff b0 Z3f Z3f) hOt)
            have HPR10:=Lib.hid (PrAt.out hPr.out hOt (hoff g lg5 (Ne.symm nCg)))
            have hN10:N5≤W10.heap.size:=Nat.le_trans hNr hOt.size
            clear hW ACn hOs hown' hOa hOt hoff AC9 lC9 cC90 cC91 lCn cCn0 cCn1 zCn0 lQ9 HQL hb9 hs9 AQ9 hown hAr A0 A4 AC hBZ hPr hrun hvg hgg
            go_wp2
            go_roundw
            case rel=>exact ⟨i + 1,_,by omega,by go_num,hS10,hA10,AC10,hown10,hvg10,B10,C10,HBZ10,HPR10,hN10⟩
            case measure=>simp [intOf];omega
          · obtain rfl:i=d:=by omega
            have hfull:sh.take i=sh:=List.take_of_length_le (by rw [HSL.out];exact Nat.le_refl _)
            rw [hfull] at hown
            have lC:=AC.lt
            obtain ⟨lC,cC0,cC1⟩:=At.two AC
            have zC1:=AC.thaw 1
            obtain ⟨y2,hy2⟩:∃ t,IntKind.i64.wrap (y1 + deep)=t:=⟨_,rfl⟩
            go_upto_region 28 with (fail)
            generalize hW:World.setCell _ _ _=W12
            have AC12:At W12 Cb (.cells #[v3,.int .i64 y2] 144):=hW ▸ At.set AC 1 _
            have hOs:Out (fun b=>b=Cb) wr W12:=hW ▸ Out.set (M:=fun b=>b=Cb) (Out.refl _ _) rfl 1 _
            have hS12:=hSr.own hOs fun b hb h=>by
             subst h
             exact ⟨fun hp=>by have:=hP5.out _ (hPn6.out _ lC5 hp);omega,by omega⟩
            have hA12:=hAr.out (M:=fun b=>b=Cb) (Ne.symm nCR) hOs
            have B12:=A0.out (M:=fun b=>b=Cb) Z3f hOs
            have C12:=A4.out (M:=fun b=>b=Cb) Z3f hOs
            have HBZ12:=Lib.hid (At.out (M:=fun b=>b=Cb) hBZ.out Z3f hOs)
            have HPR12:=Lib.hid (PrAt.out (M:=fun b=>b=Cb) hPr.out hOs (Ne.symm nCg))
            have hown12:=Lib.hid (ownsRow_out (M:=fun b=>b=Cb) hown.out (fun g' hg' e=>by have:=(hown.out.lt g' hg').1;omega) hOs)
            have hN12:N5≤W12.heap.size:=Nat.le_trans hNr hOs.size
            have hT12:Hid (br.drop (k2 + 1)=Li.tail i0 (s.c 46) (s.b 45) longs en∧en≤k∧(out ++ sh).length=en∧(xs,hi)=((out ++ sh) ++ (Fw.rowLines B (Fw.lay B f) z i0 i1 hh fl (decide (k2 + 1=0)) y2 (br.drop (k2 + 1))).1,(Fw.rowLines B (Fw.lay B f) z i0 i1 hh fl (decide (k2 + 1=0)) y2 (br.drop (k2 + 1))).2)):=Lib.hid ⟨HB2.out.2,hle,by rw [List.length_append,HOL.out,HSL.out];have:=HDD.out;omega,by
             have h1:=hTT.out.2.2.2
             rw [HDR.out, ← HB2.out.2] at h1
             have h2:=rowLines_step (y1:=y1) (l:=bs.map (·.ld)) (d:=deep) h1 (by rw [HSS.out];exact HY1.out) (by rw [show ((at_,en):Nat × Nat).2 - ((at_,en):Nat × Nat).1=i from HD.out];exact HRL.out)
             rw [HSH.out, ← wri,hy2] at h2
             exact h2⟩
            clear hW lC cC0 cC1 zC1 hOs hown hAr A0 A4 AC hBZ hPr hSr hfull hy2
            go_wp2
            go_roundw
            case rel=>exact ⟨k2 + 1,n2,P2,cs3,v3,y2,out ++ sh,en,by have:=HK2.out;omega,by go_num,hT12,HN2.out,hS12,hPn6,hN12,hA12,HIS6,AC12,hown12,hvg,B12,C12,HBZ12,HPR12⟩
            case measure=>have:=HK2.out;simp [intOf];omega
      · obtain rfl:k2=nb:=by omega
        have hend:br.drop k2=[]:=by rw [← HNB.out];exact List.drop_length
        have h4:=hTT.out.2.2.2
        rw [hend,rowLines_nil,List.append_nil] at h4
        have hxo:xs=out∧hi=y:=by injection h4 with h1 h2;exact ⟨h1,h2⟩
        obtain ⟨Rr,cap,csr,rfl,hob,gR',AR,hRC⟩:=ldcs_row hown.out (by rw [← hxo.1];exact HXL.out)
        obtain ⟨lC,cC0,cC1⟩:=At.two AC
        obtain ⟨l4,c4_0,c4_1⟩:=At.two A4
        have z4_0:=A4.thaw 0
        have z4_1:=A4.thaw 1
        have lw:w.heap.size + 1<wr.heap.size:=A4.lt
        have HRC:=Lib.hid hRC
        have HSr:=Lib.hid hSr
        have HXO:=Lib.hid hxo
        have hPRr:=Lib.hid (hvg.out Rr rfl)
        have hPN:=Lib.hid (show ¬ P' (w.heap.size + 1) from fun h=>by have:=hP5.out _ (hPn.out _ Z3f h);omega)
        have HN2:Hid (n'≤n + 2 * (fl.map (Fw.cst B f)).sum):=Lib.hid (by
         have h1:=csum_le B f xs1 at_
         rw [HL1.out,HCS.out] at h1
         omega)
        clear hRC hown hSr hAr A0 hBZ hPr h4 hxo hend
        go_wp2
        generalize hW:World.setCell _ _ _=W6
        replace A4:At W6 (w.heap.size + 1) (.cells #[.slice (some ⟨Rr,0,none⟩) out.length cap,.int .i64 y] 144):=hW ▸ At.set (At.set A4 0 _) 1 _
        have hOf:Out (fun b=>b=w.heap.size + 1) wr W6:=by
         exact Z2i
        clear hW c4_0 c4_1 z4_0 z4_1 lC cC0 cC1 AC
        have AR6:=AR.out (M:=fun b=>b=w.heap.size + 1) Z3f hOf
        have hS6:=HSr.out.own hOf fun b hb h=>by subst h;exact ⟨hPN.out,by omega⟩
        obtain ⟨l4,c4_0,c4_1⟩:=At.two A4
        have hO6:=hS6.fin
        have hK6:=hS6.kp
        have hNw:=hS6.new
        refine bodyPost_ret (v:= .agg #[.slice (some ⟨Rr,0,none⟩) out.length cap,.int .i64 y]) (by simp [results,Tryz.results104,go_sem,c4_0,c4_1,l4];first | done | exact ⟨rfl,rfl⟩ | rfl) rfl ⟨Rr,cap,csr,P',n',by rw [HXO.out.1,HXO.out.2],by omega,AR6,by rw [HXO.out.1];exact HRC.out,HN2.out,hK6,hNw,hPRr.out,hO6⟩
end
end Go.Proofs.YteggipnplbkijaaGreat.Fix
