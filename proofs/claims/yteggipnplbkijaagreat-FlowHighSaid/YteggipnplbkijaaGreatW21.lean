/- Boxes laid by the program: what its functions do, part 21. -/
import Derived.Test.YteggipnplbkijaaGreatWK
import Derived.Test.YteggipnplbkijaaGreatW19
import Derived.Test.YteggipnplbkijaaGreatW20
set_option linter.unusedVariables false
set_option linter.unusedSimpArgs false
set_option linter.unusedSectionVars false
set_option maxRecDepth 100000
namespace Go.Proofs.YteggipnplbkijaaGreat.Fix
open Go.ChangeShapes Go.WideShapes Go.ChangeAt Go.RowKit
theorem ints_out {M:Nat→Prop} {W W':World} {b off:Nat} {l:List Int} (h:Ints W (some ⟨b,off,none⟩) l) (k:Out M W W') (hm:¬ M b):Ints W' (some ⟨b,off,none⟩) l:=by
 refine ⟨h.1,fun h0 => ?_⟩
 obtain ⟨b',off',e,hc⟩:=h.2 h0
 obtain ⟨rfl,rfl, -⟩:b=b'∧off=off'∧True:=by injection e with e;injection e with e1 e2;exact ⟨e1,e2,trivial⟩
 exact ⟨b,off,rfl,fun i hi=>(Out.cell k (off + i) (World.block_lt_of_cell? _ _ (hc i hi)) hm).trans (hc i hi)⟩
theorem lints {w:World} {b:Nat} {l:List Int} (h:Ints w (some ⟨b,0,none⟩) l) {k:Nat} (hk:k<l.length):b<w.heap.size∧w.cell? ⟨b,k,none⟩=some (.int .i64 (l.getD k 0)):=by
 obtain ⟨b',off,e,hl,hc⟩:=h.at_ hk
 injection e with e
 injection e with e1 e2
 subst e1 e2
 rw [Nat.zero_add] at hc
 exact ⟨hl,hc⟩
def chgI (g:Nat→Im→Im) (l:List Im) (k:Nat):List Im:=(l.take k).mapIdx g ++ l.drop k
theorem chgI_length (g:Nat→Im→Im) (l:List Im) (k:Nat):(chgI g l k).length=l.length:=by simp [chgI];omega
theorem chgI_get (g:Nat→Im→Im) (l:List Im) {k:Nat} (hk:k<l.length):(chgI g l k)[k]'(by rw [chgI_length];exact hk)=l[k]:=by
 unfold chgI
 rw [List.getElem_append_right Z3p]
 simp
 congr 1
 omega
theorem chgI_succ (g:Nat→Im→Im) (l:List Im) {k:Nat} (hk:k<l.length):(chgI g l k).set k (g k l[k])=chgI g l (k + 1):=by
 unfold chgI
 exact Z22
theorem chgI_zero (g:Nat→Im→Im) (l:List Im):chgI g l 0=l:=by simp [chgI]
theorem chgI_all (g:Nat→Im→Im) (l:List Im):chgI g l l.length=l.mapIdx g:=by simp [chgI]
instance:Inhabited Im:=⟨⟨⟨0,0,0,0,0⟩,⟨0,0,0,0,0,0,0⟩,0,0,0,0,0⟩⟩
theorem row_self (l:List Int):Ju.row (fun i=>l.getD i 0) l.length=l:=by
 unfold Ju.row
 exact List.ext_getElem Z3t fun i h1 h2=>by simp [List.getD,List.getElem?_eq_getElem h2]
theorem outs0_length (l:List Im):(outs0 l).length=l.length:=by simp [outs0]
def lnF (B:Int→Fw.Bx) (f:Nat) (i0 i1:Int) (sz:List Int) (i:Nat) (x:Im):Im:={ x with ld:=Fw.lay B f x.ld.id i0 i1 (Fw.wr (sz.getD i 0 + Fw.eds (B x.ld.id).sty 0)) (-1) }
def lnB (al deep:Int) (st:List Int) (i:Nat) (x:Im):Im:={ x with ld:={ x.ld with a0:=Fw.wr (st.getD i 0 + x.m0),a1:=Fw.wr (Ju.across al (outr1 x) deep + x.m2) } }
def lnS (B:Int→Fw.Bx) (i0 gap:Int) (xs:List Im):List Int:=sizesOf (fun i=>(xs.getD i default).it) xs.length (lfts (Fw.wr (i0 - Fw.wr (gap * Fw.wr ((xs.length:Int) - 1)))) (fun i=>ext0 (xs.getD i default) (B (xs.getD i default).ld.id).sty) xs.length)
def lnDeep (high:Int) (xs:List Im):Int:=if high = -1 then (outs1 xs).foldl max 0 else high
def lnLaid (B:Int→Fw.Bx) (f:Nat) (s:Re.St) (i0 i1 high:Int) (xs:List Im):List Im:=xs.mapIdx (lnF B f i0 i1 (lnS B i0 (s.c 46) xs))
def lnHigh (B:Int→Fw.Bx) (f:Nat) (s:Re.St) (i0 i1 deep:Int) (ys:List Im):List Im:=if s.c 44=0 then ys.map (strF B f i0 i1 deep) else ys
def lnBegun (s:Re.St) (i0 deep:Int) (ys:List Im):List Im:=ys.mapIdx (lnB (s.c 44) deep (Ju.row (Ju.starts (s.c 43) i0 (s.c 46) (outs0 ys)) ys.length))
theorem exec_alloc_sty {o:Oper} {a:Act} {w:World} (ho:o.op = .alloc 37):(execOp a.eval o).run Tryz.prog w = .ok (.value (.pointer (some ⟨w.heap.size,0,none⟩))) (w.alloc (.cells (cells Re.zero) 37)):=by
 unfold execOp;simp only [ho,Sem.run_bind,alloc_style,Result.andThen_ok,Sem.run_pure]
theorem exec_store_sty {o:Oper} {a:Act} {w:World} (x y:Operand) (ho:o.op = .store 37 x y) {b:Nat} (hx:a.eval x = .pointer (some ⟨b,0,none⟩)) {s t:Re.St} (hy:a.eval y = .agg (cells t)) (hs:At w b (.cells (cells s) 37)):(execOp a.eval o).run Tryz.prog w = .ok .skip (w.setRow b (cells t)):=by
 unfold execOp;simp only [ho,hx,hy,Sem.run_bind,store_style hs,Result.andThen_ok,Sem.run_pure]
section
variable {Y:Lyt} {B:Int→Fw.Bx} {F:Int→Nat} {D:Int→Prop} {KM:World→Nat→Prop} {f:Nat} {w0:World} {P0:Nat→Prop}
theorem iok_lnF {i0 i1:Int} {sz:List Int} {x:Im} (i:Nat) (h:IOK Y B D F f i0 x):IOK Y B D F f i0 (lnF B f i0 i1 sz i x):=⟨h.d,h.f,h.bx,h.m0,h.m1,h.m2,h.m3⟩
set_option maxHeartbeats 16000000 in
theorem fline (hL:LayOK Y B F D KM f) (hK:∀ (X X':World) (b:Nat),KM X b→Below X.heap.size X X'→KM X' b) (hKO:∀ (X X':World) (b:Nat),KM X b→Out (fun q=>q≠b) X X'→KM X' b) (hR0:RO w0 Y B D KM) (hkm:Y.km<w0.heap.size)
  (R q c:Nat) (z i0 i1 high:Int) (hz:D z) (xs:List Im) (cs:Array Value) (w:World) (n:Nat) (P:Nat→Prop) (hS:LSt Y B F w0 P0 n P w) (hA:At w R (.cells cs 203)) (hI:ISub cs q xs) (hok:∀ x ∈ xs,IOK Y B D F f i0 x) (hPR:¬ P R) (hR1:w0.heap.size≤R) (hn:n + 2 * csum B f xs xs.length<maxLen) (hl:xs.length≤64) (s:Re.St) (hs:(B z).sty=s) (xs1 xs2:List Im) (deep:Int) (hx1:lnLaid B f s i0 i1 high xs=xs1) (hdp:lnDeep high xs1=deep) (hx2:lnHigh B f s i0 i1 deep xs1=xs2) :
  Calls Tryz.prog 146 #[.pointer (some ⟨Y.lb,0,none⟩),.agg #[.int .i64 z,.int .i64 i0,.int .i64 i1],.slice (some ⟨R,q,none⟩) xs.length c,.int .i64 high] w fun e w'=>e = .returned (.int .i64 deep) ∧
   ∃ n' P' cs',n'≤n + 2 * csum B f xs xs.length∧LSt Y B F w0 P0 n' P' w'∧¬ P' R∧(∀ b,b<w.heap.size→P' b→P b)∧At w' R (.cells cs' 203)∧ISub cs' q (lnBegun s i0 deep xs2)∧ISame q xs.length cs cs'∧Out (fun b=>b=Y.pm∨b=R) w w':=by
 obtain ⟨es0,ck0,hpm0⟩:=hR0.pmo
 have hpmR:Y.pm<R:=Nat.lt_of_lt_of_le hpm0.lt hR1
 obtain ⟨m,hm⟩:∃ m,xs.length=m:=⟨_,rfl⟩
 have HM:=Lib.hid hm
 have HN:=Lib.hid hn
 have HOK:=Lib.hid hok
 have HR0:=Lib.hid hR0
 have HX1:=Lib.hid hx1
 have HDP:=Lib.hid hdp
 have HX2:=Lib.hid hx2
 have hRl:=hA.lt
 have hRw:=hS.ro hKO hR0 hkm
 have hlook:=hRw.look hz
 obtain ⟨b0,hb0⟩:∃ b0,Y.bl z=b0:=⟨_,rfl⟩
 rw [hb0] at hlook
 have hbx:=(hRw.box z hz).1
 rw [hb0,hs] at hbx
 have hSty:=Lib.hid hbx.style
 have hly:=hRw.lay
 have lb0:=hbx.lt
 obtain ⟨lY,cY0,cY1,cY2,cY3,cY4,cY5⟩:=At.six hly
 have b1:Below w.heap.size w (w.alloc (.cells #[.int .i64 z,.int .i64 i0,.int .i64 i1] 92)):=Below.alloc' (Below.refl _ _) _
 have A0:At (w.alloc (.cells #[.int .i64 z,.int .i64 i0,.int .i64 i1] 92)) w.heap.size (.cells #[.int .i64 z,.int .i64 i0,.int .i64 i1] 92):=At.new _ _
 have hS1:=hS.after b1
 have hA1:=hA.keep b1
 have hlw:=hRw.keep hK b1
 rw [hm] at hl ⊢
 clear hn hok hR0 hS hA hm hpm0 hx1 hdp hx2 hs hbx cY0 cY1 cY2 cY3 cY4 cY5 hlook hly lY
 go_enter Tryz.func146,Tryz.ntmps146
 go_upto_region 1 with (fail)
 generalize w.alloc (.cells #[.int .i64 z,.int .i64 i0,.int .i64 i1] 92)=w1 at *
 have A0lt:w.heap.size<w1.heap.size:=A0.lt
 have hsz:=b1.size
 have hlk:=fun X (h:Below w1.heap.size w1 X)=>(hlw.keep hK h).look hz
 simp only [hb0] at hlk
 have hst1:=Lib.hid (fun j hj=>(b1.cell (p:=⟨b0,0 + j,none⟩) lb0).trans (hSty.out j hj):StyAt w1 b0 0 s)
 have lb1:b0<w1.heap.size:=Nat.lt_of_lt_of_le lb0 hsz
 obtain ⟨lY,cY0,cY1,cY2,cY3,cY4,cY5⟩:=At.six hlw.lay
 obtain ⟨l0,c0_0,c0_1,c0_2⟩:=At.three A0
 have hSd:Below w1.heap.size w1 w1.drew:=Below.drew (Below.refl _ _)
 refine tkX (S:=fun X=>Below w1.heap.size w1 X) 12 ?_ ?_
 · exact hSd
 intro hx
 clear hSd
 refine tkB 0 ?_
 refine tkB 1 ?_
 refine tkB 2 ?_
 refine tkB 3 ?_
 refine tkB 4 ?_
 refine tkB 5 ?_
 refine tkR 6 rfl (reads_lookup Z3n rfl rfl rfl (fun X h=>hlk X h)) ?_
 refine tkB 7 ?_
 refine tkB 8 ?_
 refine tkR 9 rfl (reads_load_sty Z3n (.tmp 26) rfl rfl (fun X h=>fun j hj=>(h.cell (p:=⟨b0,0 + j,none⟩) lb1).trans (hst1.out j hj))) ?_
 refine tk1 10 ?_
 refine Drawn.Step.value (exec_alloc_sty rfl) ?_
 obtain ⟨w2,hw2,AS,hb2,gT⟩:∃ w2,w2=w1.drew.alloc (.cells (cells Re.zero) 37)∧At w2 w1.drew.heap.size (.cells (cells Re.zero) 37)∧Below w1.drew.heap.size w1.drew w2∧w1.heap.size≤w1.drew.heap.size:=⟨_,rfl,At.new _ _,Below.alloc' (Below.refl _ _) _,hx.size⟩
 rw [← hw2]
 clear hw2
 replace hx:=Below.after2 hx (Nat.le_refl _) hb2
 generalize w1.drew.heap.size=T at *
 refine ⟨fun _=>hx,?_⟩
 (try simp only [tkp,tka,tkz,tks])
 refine tk1 11 ?_
 refine Drawn.Step.skip (exec_store_sty (.tmp 9) (.tmp 27) rfl rfl rfl AS) ?_
 replace AS:At (w2.setRow T (cells s)) T (.cells (cells s) 37):=At.setRow AS _
 have hx2:Below w1.heap.size w1 (w2.setRow T (cells s)):=setRow_below hx gT _
 generalize w2.setRow T (cells s)=w3 at *
 refine ⟨fun _=>hx2,?_⟩
 (try simp only [tkp,tka,tkz,tks])
 refine tkE ?_
 have hsz3:=hx2.size
 have hO3:Out (fun b=>b=Y.pm∨b=R) w w3:=Out.of_below (b1.trans (hx2.mono hsz))
 have hS3:=hS1.after hx2
 have hA3:=hA1.keep hx2
 have B3:=A0.keep hx2
 have hR3:=hS3.ro hKO HR0.out hkm
 have hPw:=hS3.lt
 obtain ⟨sz,hszz⟩:∃ l,lnS B i0 (s.c 46) xs=l:=⟨_,rfl⟩
 have HX1':Hid (xs.mapIdx (lnF B f i0 i1 sz)=xs1):=Lib.hid (by rw [← hszz];exact HX1.out)
 have HI:=Lib.hid hI
 have keyF:Calls Tryz.prog 185 #[.slice (some ⟨R,q,none⟩) m c,.int .i64 0,.agg #[.int .i64 i0,.int .i64 i1],.int .i64 (s.c 46)] w3 fun e w'=>(∃ b,e = .returned (.slice (some ⟨b,0,none⟩) m m)∧w3.heap.size≤b∧Ints w' (some ⟨b,0,none⟩) sz)∧Below w3.heap.size w3 w':=by
  have e:=HM.out
  subst e
  have hg:∀ i (h:i<xs.length),xs.getD i default=xs[i]:=fun i h=>by rw [List.getD,List.getElem?_eq_getElem h];rfl
  have k:=fflexed0 (some ⟨R,q,none⟩) xs c i0 i1 (s.c 46) (fun i=>(xs.getD i default).it) (fun i=>ext0 (xs.getD i default) (B (xs.getD i default).ld.id).sty) (fun i=>(B (xs.getD i default).ld.id).sty) w3 (hI.ims hA3) hl (fun i h=>by simp only [hg i h]) (fun i h=>by simp only [hg i h]) (fun i h=>by
   have ho:=HOK.out xs[i] (List.getElem_mem _)
   have hb:=(hR3.box _ ho.d).1
   rw [← ho.bx] at hb
   simp only [hg i h]
   exact ⟨_,_,_,hb⟩)
  rw [← hszz]
  exact k
 have hszl:sz.length=m:=by rw [← hszz, ← HM.out];unfold lnS sizesOf;simp
 have cS46:w3.cell? ⟨T,46,none⟩=some (.int .i64 (s.c 46)):=(AS.cell 46).trans (cells_int s Z3f rfl)
 obtain ⟨l0,c0_0,c0_1,c0_2⟩:=At.three B3
 have lT:=AS.lt
 clear hI b1 A0 hS1 hA1 hlw hst1 hlk cY0 cY1 cY2 cY3 cY4 cY5 lY hSty hRw hb2 hszz hx
 have HRR:=Lib.hid hR3
 clear hR3
 go_upto_region 3 with (go_at_call 185;(with_reducible refine keyF.mono ?_);rintro e' w4 ⟨⟨bz,rfl,gbz,hIz⟩,hb4⟩)
 clear keyF
 have hIz4:=Lib.hid hIz
 have hO4:Out (fun b=>b=Y.pm∨b=R) w w4:=Out.trans' hO3 (Out.of_below (M:=fun _=>False) hb4) fun _ _ q=>q.elim
 have hS4:=hS3.after hb4
 have hA4:=hA3.keep hb4
 have B4:=B3.keep hb4
 have hST4:=Lib.hid (AS.keep hb4)
 have hsz4:=hb4.size
 have gT2:w.heap.size<T:=by have:=B3.lt;have h2:=A0lt;omega
 clear hb4 hIz AS B3 hA3 hS3 hO3 hx2 HRR
 go_loopw [35] (fun iv wr=>∃ (k n':Nat) (P':Nat→Prop) (cs':Array Value),k≤m∧iv = .int .i64 k∧n'≤n + csum B f xs k∧LSt Y B F w0 P0 n' P' wr∧¬ P' R∧(∀ b,b<w.heap.size→P' b→P b)∧At wr R (.cells cs' 203)∧Hid (ISub cs' q (chgI (lnF B f i0 i1 sz) xs k)∧ISame q m cs cs')∧At wr w.heap.size (.cells #[.int .i64 z,.int .i64 i0,.int .i64 i1] 92)∧Hid (At wr T (.cells (cells s) 37))∧Hid (Ints wr (some ⟨bz,0,none⟩) sz)∧Out (fun b=>b=Y.pm∨b=R) w wr) (fun iv _=>m - (intOf iv).toNat)
 case atStart=>exact ⟨0,n,P,cs,Nat.zero_le _,rfl,by simp [csum],hS4,hPR,fun b hb h=>h,hA4,Lib.hid ⟨by rw [chgI_zero];exact HI.out,ISame.refl _ _ _⟩,B4,hST4,hIz4,hO4⟩
 case round =>
  clear hS4 hA4 B4 hST4 hIz4 hO4 l0 c0_0 c0_1 c0_2 lT cS46
  obtain ⟨k,n',P',cs',hk,rfl,hn',hSr,hPR',hPn,hAr,hC,A0,hST,hIz,hO⟩:=hrel
  by_cases hlt:k<m
  · have hltz:(k:Int)<(m:Int):=by omega
    have hkx:k<xs.length:=by rw [HM.out];exact hlt
    have hkc:k<(chgI (lnF B f i0 i1 sz) xs k).length:=by rw [chgI_length];exact hkx
    have hIm:=hC.out.1.at_ hAr hkc
    rw [chgI_get _ _ hkx] at hIm
    obtain ⟨x,hx⟩:∃ x,xs[k]=x:=⟨_,rfl⟩
    have hxok:=Lib.hid (HOK.out x (hx ▸ List.getElem_mem _))
    rw [hx] at hIm
    have HX:=Lib.hid hx
    have hRr:=hSr.ro hKO HR0.out hkm
    have hbx:=(hRr.box x.ld.id hxok.out.d).1
    rw [← hxok.out.bx] at hbx
    obtain ⟨sx,hsx⟩:∃ s,(B x.ld.id).sty=s:=⟨_,rfl⟩
    rw [hsx] at hbx
    generalize Y.vf x.ld.id=vf at hbx
    generalize Y.va x.ld.id=va at hbx
    generalize (B x.ld.id).ib=ib at hbx
    have HSX:=Lib.hid hsx
    have HIM:=Lib.hid hIm
    have HSr:=Lib.hid hSr
    obtain ⟨l2,c2_0,c2_1,c2_2,c2_3,c2_4,c2_5,c2_6,c2_7⟩:=At.bx0 hbx
    clear c2_0 c2_1 c2_2 c2_3 c2_4 c2_5
    have lRr:=hAr.lt
    have cbx:wr.cell? ⟨R,q + k * 17 + 12,none⟩=some (.pointer (some ⟨x.bx,0,none⟩)):=(hIm 12 Z3f).trans rfl
    have cid:wr.cell? ⟨R,q + k * 17 + 5,none⟩=some (.int .i64 x.ld.id):=(hIm 5 Z3f).trans rfl
    obtain ⟨lz,cz⟩:=lints hIz.out (by rw [hszl];exact hlt)
    obtain ⟨v,hv⟩:∃ v,sz.getD k 0=v:=⟨_,rfl⟩
    rw [hv] at cz
    obtain ⟨l0,c0_0,c0_1,c0_2⟩:=At.three A0
    clear hRr hbx hIm hsx hx
    go_upto_region 6 with (fail)
    have HSd2:=Lib.hid (HSr.out.after ((Below.refl wr.heap.size wr).drew))
    have hcs1:=csum_succ B f xs hkx
    rw [HX.out] at hcs1
    have hcs2:=csum_le B f xs (k + 1)
    have hnn:=HN.out
    have keyA:=fun X=>fall_any (Fw.ed sx 3) (Fw.ed sx 1) X
    obtain ⟨e31,he31⟩:∃ v,Fw.wr (Fw.ed sx 3 + Fw.ed sx 1)=v:=⟨_,rfl⟩
    simp only [he31] at keyA
    have heds:Fw.eds sx 0=e31:=he31
    clear he31
    obtain ⟨t0,ht0⟩:∃ t,IntKind.i64.wrap (v + e31)=t:=⟨_,rfl⟩
    have hlid:(Fw.lay B f x.ld.id i0 i1 t0 (-1)).id=x.ld.id:=rfl
    obtain ⟨ly,hly⟩:∃ y,Fw.lay B f x.ld.id i0 i1 t0 (-1)=y:=⟨_,rfl⟩
    have HLF:=Lib.hid (show lnF B f i0 i1 sz k x={ x with ld:=ly } by unfold lnF;rw [HSX.out,hv,heds, ← wri (v + e31),ht0,hly])
    have hlyid:ly.id=x.ld.id:=by rw [← hly];rfl
    clear hlid heds hv
    have HFI:=Lib.hid (show q + k * 17 + 5 + 7≤cs'.size by have:=hC.out.1.1;rw [chgI_length] at this;have h2:k * 17 + 17≤xs.length * 17:=Z3f;omega)
    have n1:w.heap.size≠Y.pm:=by omega
    have n2:w.heap.size≠R:=by omega
    have n34:=HR0.out.box x.ld.id hxok.out.d
    rw [← hxok.out.bx] at n34
    have n3:x.bx≠Y.pm:=fun e=>by
     obtain ⟨es1,ck1,hp1⟩:=HR0.out.pmo
     have h1:=n34.1
     rw [e] at h1
     exact absurd (h1.symm.trans hp1) Z3t
    have n4:x.bx≠R:=by have:=n34.1.lt;omega
    clear n34
    have n5:bz≠Y.pm:=by omega
    have n6:bz≠R:=by omega
    have hSd:Out (fun b=>b=Y.pm∨b=R) wr wr.drew∧wr.drew.cell? ⟨R,q + k * 17 + 5,none⟩=some (.int .i64 x.ld.id)∧wr.drew.cell? ⟨R,q + k * 17 + 12,none⟩=some (.pointer (some ⟨x.bx,0,none⟩)):=⟨(Out.refl _ _).drew,cid,cbx⟩
    refine tkX (S:=fun X=>Out (fun b=>b=Y.pm∨b=R) wr X∧X.cell? ⟨R,q + k * 17 + 5,none⟩=some (.int .i64 x.ld.id)∧X.cell? ⟨R,q + k * 17 + 12,none⟩=some (.pointer (some ⟨x.bx,0,none⟩))) 26 ?_ ?_
    · exact hSd
    intro hx
    clear hSd
    refine tkQ 0 ?_
    refine tkQ 1 ?_
    refine tkQ 2 ?_
    refine tkQ 3 ?_
    refine tkQ 4 ?_
    refine tkQ 5 ?_
    refine tkQ 6 ?_
    refine tkQ 7 ?_
    refine tkQ 8 ?_
    refine tkQ 9 ?_
    refine tkQ 10 ?_
    refine tkQ 11 ?_
    refine tkQ 12 ?_
    refine tkQ 13 ?_
    refine tkQ 14 ?_
    refine tkQ 15 ?_
    refine tkQ 16 ?_
    refine tkQ 17 ?_
    refine tkQ 18 ?_
    refine tk1 19 ?_
    refine Drawn.Step.call tkL (keyA _) ?_
    rintro e' w6 ⟨rfl,hb6⟩
    have hO6:Out (fun b=>b=Y.pm∨b=R) wr w6:=Out.trans' ((Out.refl _ wr).drew) (Out.of_below (M:=fun _=>False) hb6) fun _ _ q=>q.elim
    have hS6:=HSd2.out.after hb6
    have hA6:=hAr.keep ((Below.drew (Below.refl _ wr)).trans hb6)
    have B6:=A0.keep ((Below.drew (Below.refl _ wr)).trans hb6)
    have hid6:w6.cell? ⟨R,q + k * 17 + 5,none⟩=some (.int .i64 x.ld.id):=(hb6.cell (p:=⟨R,_,none⟩) lRr).trans cid
    have hbx6:w6.cell? ⟨R,q + k * 17 + 12,none⟩=some (.pointer (some ⟨x.bx,0,none⟩)):=(hb6.cell (p:=⟨R,_,none⟩) lRr).trans cbx
    have hx6:Out (fun b=>b=Y.pm∨b=R) wr w6∧w6.cell? ⟨R,q + k * 17 + 5,none⟩=some (.int .i64 x.ld.id)∧w6.cell? ⟨R,q + k * 17 + 12,none⟩=some (.pointer (some ⟨x.bx,0,none⟩)):=⟨hO6,hid6,hbx6⟩
    refine ⟨_,rfl,fun _=>hx6,?_⟩
    (try simp only [tkp,tka,tkz,tks])
    refine tkQ 20 ?_
    refine tkQ 21 ?_
    have keyY:=lay_call hL hKO HR0.out hkm hS6 x.ld.id i0 i1 t0 (-1) hxok.out.d hxok.out.f Z3f
    rw [hly] at keyY
    refine tk1 22 ?_
    refine Drawn.Step.call tkL keyY ?_
    rintro e' w10 ⟨rfl,n2',P2,hn2,hS10,hPs,hO10⟩
    have hA10:=hA6.out (M:=fun b=>b=Y.pm) Z3f hO10
    have lR6:=hA6.lt
    have hid10:w10.cell? ⟨R,q + k * 17 + 5,none⟩=some (.int .i64 x.ld.id):=(Out.cell hO10 (q + k * 17 + 5) lR6 Z3f).trans hid6
    have hbx10:w10.cell? ⟨R,q + k * 17 + 12,none⟩=some (.pointer (some ⟨x.bx,0,none⟩)):=(Out.cell hO10 (q + k * 17 + 12) lR6 Z3f).trans hbx6
    have B10:=B6.out (M:=fun b=>b=Y.pm) n1 hO10
    have hO10r:Out (fun b=>b=Y.pm∨b=R) wr w10:=hO6.trans (hO10.mono fun b _ h => .inl h)
    have hx10:Out (fun b=>b=Y.pm∨b=R) wr w10∧w10.cell? ⟨R,q + k * 17 + 5,none⟩=some (.int .i64 x.ld.id)∧w10.cell? ⟨R,q + k * 17 + 12,none⟩=some (.pointer (some ⟨x.bx,0,none⟩)):=⟨hO10r,hid10,hbx10⟩
    refine ⟨_,rfl,fun _=>hx10,?_⟩
    (try simp only [tkp,tka,tkz,tks])
    refine tkQ 23 ?_
    refine tkQ 24 ?_
    refine tk1 25 ?_
    refine Drawn.Step.skip (exec_store_at siz_ld (.tmp 67) (.tmp 65) rfl rfl rfl hA10 (ldc_size ly) HFI.out (ldc_one ly)) ?_
    have hA11:At (w10.setRow R (splice cs' (q + k * 17 + 5) (ldc ly))) R (.cells (splice cs' (q + k * 17 + 5) (ldc ly)) 203):=At.setRow hA10 _
    have hO11:Out (fun b=>b=R) w10 (w10.setRow R (splice cs' (q + k * 17 + 5) (ldc ly))):=Out.setRow (M:=fun b=>b=R) (Out.refl _ _) rfl _
    have hid11:(w10.setRow R (splice cs' (q + k * 17 + 5) (ldc ly))).cell? ⟨R,q + k * 17 + 5,none⟩=some (.int .i64 x.ld.id):=by
     exact Z1v
    have hbx11:(w10.setRow R (splice cs' (q + k * 17 + 5) (ldc ly))).cell? ⟨R,q + k * 17 + 12,none⟩=some (.pointer (some ⟨x.bx,0,none⟩)):=by
     exact Z2v
    refine ⟨fun _=>⟨hO10r.trans (hO11.mono fun b _ h => .inr h),hid11,hbx11⟩,?_⟩
    (try simp only [tkp,tka,tkz,tks])
    refine tkE ?_
    have hPR2:¬ P2 R:=fun h=>hPR' (hPs R lR6 h)
    have hput:=hC.out.1.putLd hkc ly
    rw [chgI_get _ _ hkx,HX.out] at hput
    have hC11:Hid (ISub (splice cs' (q + k * 17 + 5) (ldc ly)) q (chgI (lnF B f i0 i1 sz) xs (k + 1))∧ISame q m cs (splice cs' (q + k * 17 + 5) (ldc ly))):=Lib.hid ⟨by
     rw [← chgI_succ _ _ hkx,HX.out,HLF.out]
     exact hput.1,hC.out.2.trans (by have:=hput.2;rw [chgI_length,HM.out] at this;exact this)⟩
    have hS11:=hS10.own (M:=fun b=>b=R) hO11 fun b hb h=>by subst h;exact ⟨hPR2,hR1⟩
    have hO12:Out (fun b=>b=Y.pm∨b=R) w (w10.setRow R (splice cs' (q + k * 17 + 5) (ldc ly))):=(hO.trans hO10r).trans (hO11.mono fun b _ h => .inr h)
    have B11:=B10.out (M:=fun b=>b=R) n2 hO11
    have hOr:Out (fun b=>b=Y.pm∨b=R) wr (w10.setRow R (splice cs' (q + k * 17 + 5) (ldc ly))):=hO10r.trans (hO11.mono fun b _ h => .inr h)
    have hST11:=Lib.hid (hST.out.out (M:=fun b=>b=Y.pm∨b=R) Z3f hOr)
    have hIz11:=Lib.hid (ints_out hIz.out hOr Z3f)
    have hPw2:∀ b,b<w.heap.size→P2 b→P b:=fun b hb h=>hPn b hb (hPs b (Nat.lt_of_lt_of_le hb (Nat.le_trans hO.size hO6.size)) h)
    generalize w10.setRow R (splice cs' (q + k * 17 + 5) (ldc ly))=w11 at *
    generalize splice cs' (q + k * 17 + 5) (ldc ly)=cs2 at *
    clear hx hx6 hx10 hput hA10 hO11 hid11 hid10 hbx10 hbx11 B10 B6 A0 hA6 hS6 hO6 hO10 hO10r hid6 hbx6 l0 c0_0 c0_1 c0_2 l2 c2_6 c2_7 cz lz cbx cid hOr hPs hS10
    go_wp2
    go_roundw
    case rel=>exact ⟨k + 1,n2',P2,cs2,by omega,by go_num,by omega,hS11,hPR2,hPw2,hA11,hC11,B11,hST11,hIz11,hO12⟩
    case measure=>simp [intOf];omega
  · obtain rfl:k=m:=by omega
    have hlen1:xs1.length=k:=by rw [← HX1'.out,List.length_mapIdx,HM.out]
    have hC1:Hid (ISub cs' q xs1∧ISame q k cs cs'):=Lib.hid (by
     have:=hC.out
     rw [← HM.out,chgI_all,HX1'.out] at this
     rw [← HM.out]
     exact this)
    have HOK1:Hid (∀ x ∈ xs1,IOK Y B D F f i0 x):=Lib.hid (by
     rw [← HX1'.out]
     intro x hx
     obtain ⟨i,hi,e⟩:=List.mem_mapIdx.1 hx
     rw [← e]
     exact iok_lnF i (HOK.out _ (List.getElem_mem _)))
    have HCS1:Hid (csum B f xs1 xs1.length=csum B f xs xs.length):=Lib.hid (by
     rw [← HX1'.out]
     unfold csum
     rw [List.take_length,List.take_length]
     congr 1
     exact List.ext_getElem Z3t fun i h1 h2=>by simp [lnF];rfl)
    have hn1:n'≤n + csum B f xs xs.length:=by have:=hn';rw [HM.out];exact this
    have HL1:=Lib.hid hlen1
    have HDP1:Hid (deep=if high = -1 then (outs1 xs1).foldl max 0 else high):=Lib.hid HDP.out.symm
    have keyH:=fhighest (some ⟨R,q,none⟩) xs1 c wr (hC1.out.1.ims hAr) Z3f
    rw [hlen1] at keyH
    clear hlen1 hC hn' hlt HX1 HX1' HDP HI
    have HSr:=Lib.hid hSr
    go_upto_if 70 with (fail)
    go_cut [3] from 69 to 73 (fun v w2=>v = .int .i64 deep∧Below wr.heap.size wr w2)
    case first =>
     by_cases hh:high = -1
     · have e1:=HDP1.out
       rw [if_pos hh] at e1
       have E1:=Lib.hid e1
       clear e1
       go_wp2_with (go_at_call 186;(with_reducible refine keyH.mono ?_);rintro e' w5 ⟨rfl,hb⟩)
       go_meet
       case rel=>exact ⟨by rw [E1.out],hb⟩
     · have e1:=HDP1.out
       rw [if_neg hh] at e1
       exact Z3e
    case rest =>
     obtain ⟨rfl,hb5⟩:=hcut
     have hs5:=hb5.size
     have hwr:=hO.size
     have hS5:=HSr.out.after hb5
     have hA5:=hAr.keep hb5
     have B5:=A0.keep hb5
     have hST5:=Lib.hid (hST.out.keep hb5)
     have hO5:Out (fun b=>b=Y.pm∨b=R) w wc:=Out.trans' hO (Out.of_below (M:=fun _=>False) hb5) fun _ _ q=>q.elim
     have cS44:wc.cell? ⟨T,44,none⟩=some (.int .i64 (s.c 44)):=(hST5.out.cell 44).trans (cells_int s Z3f rfl)
     have lT:=hST5.out.lt
     obtain ⟨l0,c0_0,c0_1,c0_2⟩:=At.three B5
     have keyS:=fstretch hL hK hKO HR0.out hkm R q c i0 i0 i1 deep xs1 cs' wc n' P' hS5 hA5 hC1.out.1 HOK1.out hPR' hR1 (by rw [HCS1.out];have:=HN.out;omega) (by rw [HL1.out];omega)
     rw [HCS1.out,HL1.out] at keyS
     have hPc:∀ b,b<w.heap.size→b<wc.heap.size:=fun b h=>by omega
     have HPC:=Lib.hid hPc
     clear keyH hPc
     go_upto_if 75 with (fail)
     go_cut [] from 73 to 82 (fun w2=>∃ (n2:Nat) (P2:Nat→Prop) (cs2:Array Value),n2≤n + 2 * csum B f xs xs.length∧LSt Y B F w0 P0 n2 P2 w2∧¬ P2 R∧(∀ b,b<w.heap.size→P2 b→P b)∧At w2 R (.cells cs2 203)∧Hid (ISub cs2 q xs2∧ISame q k cs cs2)∧Out (fun b=>b=Y.pm∨b=R) wc w2)
     case first =>
      by_cases hh:s.c 44=0
      · have e1:=HX2.out
        unfold lnHigh at e1
        rw [if_pos hh] at e1
        have E1:=Lib.hid e1
        clear e1
        go_wp2_with (go_at_call 187;(with_reducible refine keyS.mono ?_);rintro e' w6 ⟨rfl,n2,P2,cs2,hn2,hS6,hPR2,hP2,hA6,hI6,hM6,hO6⟩)
        go_meet
        case rel=>exact ⟨n2,P2,cs2,by omega,hS6,hPR2,fun b hb h=>hPn b hb (hP2 b (HPC.out b hb) h),hA6,Lib.hid ⟨by rw [← E1.out];exact hI6,hC1.out.2.trans hM6⟩,hO6⟩
      · have e1:=HX2.out
        unfold lnHigh at e1
        rw [if_neg hh] at e1
        have E1:=Lib.hid e1
        clear e1
        go_wp2
        go_meet
        case rel=>exact ⟨n',P',cs',by omega,hS5,hPR',hPn,hA5,Lib.hid (by rw [← E1.out];exact hC1.out),Out.refl _ _⟩
     case rest =>
      obtain ⟨n2,P2,cs2,hn2,hS6,hPR2,hP2,hA6,hC6,hO6⟩:=hcut
      have HL2:Hid (xs2.length=k):=Lib.hid (by
       rw [← HX2.out]
       unfold lnHigh
       split
       · rw [List.length_map,HL1.out]
       · exact HL1.out)
      have hs6:=hO6.size
      have B6:=B5.out (M:=fun b=>b=Y.pm∨b=R) Z3f hO6
      have hST6:=Lib.hid (hST5.out.out (M:=fun b=>b=Y.pm∨b=R) Z3f hO6)
      have hO6w:Out (fun b=>b=Y.pm∨b=R) w wc:=hO5.trans hO6
      clear keyS hO6 hO5 hST5 B5 hA5 hS5 hn1 HX2 HOK1 HCS1 hPR' hPn cS44 l0 c0_0 c0_1 c0_2 hO hST hIz A0 hAr HSr hSr hC1 hb5
      have cS43:wc.cell? ⟨T,43,none⟩=some (.int .i64 (s.c 43)):=(hST6.out.cell 43).trans (cells_int s Z3f rfl)
      have cS46:wc.cell? ⟨T,46,none⟩=some (.int .i64 (s.c 46)):=(hST6.out.cell 46).trans (cells_int s Z3f rfl)
      have lT6:=hST6.out.lt
      have lR6:=hA6.lt
      obtain ⟨l0,c0_0,c0_1,c0_2⟩:=At.three B6
      have hSd:Below wc.heap.size wc wc.drew:=Below.drew (Below.refl _ _)
      go_upto_region 12 with (fail)
      refine tkX (S:=fun X=>Below wc.heap.size wc X) 12 ?_ ?_
      · exact hSd
      intro hx
      clear hSd
      refine tkB 0 ?_
      refine tkB 1 ?_
      refine tkB 2 ?_
      refine tkB 5 ?_
      refine tkB 6 ?_
      refine tkB 7 ?_
      refine tkB 8 ?_
      refine tkB 9 ?_
      refine tk1 3 ?_
      refine Drawn.Step.call tkL (fouterf_any 0 _) ?_
      rintro e' w7 ⟨rfl,hw7⟩
      have hb7:Below wc.drew.heap.size wc.drew w7:=hw7 ▸ Below.alloc' (Below.refl _ _) _
      have AQ:At w7 wc.drew.heap.size (.cells #[.int .i64 0] 3):=hw7 ▸ At.new _ _
      clear hw7
      replace hx:=Below.after2 hx (Nat.le_refl _) hb7
      generalize wc.drew.heap.size=Bq at *
      refine ⟨_,rfl,fun _=>hx,?_⟩
      (try simp only [tkp,tka,tkz,tks])
      have keyT:=ftout0 (some ⟨R,q,none⟩) xs2 c Bq w7 (hC6.out.1.ims (hA6.keep hx)) (by rw [HL2.out];omega) (AQ.cell 0) AQ.lt
      rw [HL2.out] at keyT
      refine tk1 4 ?_
      refine Drawn.Step.call tkL keyT ?_
      rintro e' w8 ⟨⟨bt,rfl,gbt,hT⟩,hb8⟩
      replace hx:=Below.after2 hx (Nat.le_refl _) hb8
      refine ⟨_,rfl,fun _=>hx,?_⟩
      (try simp only [tkp,tka,tkz,tks])
      have keyJ:=starts_new (some ⟨bt,0,none⟩) (outs0 xs2) k k (s.c 43) i0 (s.c 46) w8 (by
       have h1:=jints_of_made _ _ Z3y hT
       have h2:=row_self (outs0 xs2)
       rw [outs0_length,HL2.out] at h2
       rw [h2] at h1
       exact h1) (by rw [outs0_length,HL2.out]) (Nat.le_refl _) Z3f
      refine tk1 10 ?_
      refine Drawn.Step.call tkL keyJ ?_
      rintro e' w9 ⟨⟨bst,rfl,gst,hIst⟩,hb9⟩
      replace hx:=Below.after2 hx (Nat.le_refl _) hb9
      refine ⟨_,rfl,fun _=>hx,?_⟩
      (try simp only [tkp,tka,tkz,tks])
      refine tkB 11 ?_
      refine tkE ?_
      have hs9:=hx.size
      have gst9:wc.heap.size≤bst:=by
       have h1:=hb7.size
       have h2:=hb8.size
       simp only [World.size_drew] at h1
       omega
      have hA9:=hA6.keep hx
      have hS9:=hS6.after hx
      have hST9:=Lib.hid (hST6.out.keep hx)
      have hO9:Out (fun b=>b=Y.pm∨b=R) w w9:=Out.trans' hO6w (Out.of_below (M:=fun _=>False) hx) fun _ _ q=>q.elim
      obtain ⟨stl,hstl⟩:∃ l,Ju.row (Ju.starts (s.c 43) i0 (s.c 46) (outs0 xs2)) k=l:=⟨_,rfl⟩
      rw [hstl] at hIst
      have hstk:stl.length=k:=by rw [← hstl,Ju.row_length]
      have HBG:Hid (lnBegun s i0 deep xs2=xs2.mapIdx (lnB (s.c 44) deep stl)):=Lib.hid (by unfold lnBegun;rw [HL2.out,hstl])
      have HSTK:=Lib.hid hstk
      have hIs9:=Lib.hid hIst
      have hgT:T<w9.heap.size:=Nat.lt_of_lt_of_le lT6 hs9
      clear hstl hstk hIst hx hA6 hS6 hST6 hO6w B6 keyT keyJ hT gbt gst hb7 hb8 hb9 AQ cS43 cS46 l0 c0_0 c0_1 c0_2 lT6 lR6
      go_upto_region 14 with (fail)
      go_loopw [95] (fun iv wr=>∃ (j:Nat) (cs3:Array Value),j≤k∧iv = .int .i64 j∧LSt Y B F w0 P0 n2 P2 wr∧At wr R (.cells cs3 203)∧Hid (ISub cs3 q (chgI (lnB (s.c 44) deep stl) xs2 j)∧ISame q k cs cs3)∧Hid (At wr T (.cells (cells s) 37))∧Hid (Ints wr (some ⟨bst,0,none⟩) stl)∧Out (fun b=>b=Y.pm∨b=R) w wr) (fun iv _=>k - (intOf iv).toNat)
      case atStart=>exact ⟨0,cs2,Nat.zero_le _,rfl,hS9,hA9,Lib.hid ⟨by rw [chgI_zero];exact hC6.out.1,hC6.out.2⟩,hST9,hIs9,hO9⟩
      case round =>
       clear hS9 hA9 hST9 hIs9 hO9 hC6
       obtain ⟨j,cs3,hj,rfl,hSr,hAr,hC,hST,hIz,hO⟩:=hrel
       by_cases hlt:j<k
       · have hltz:(j:Int)<(k:Int):=by omega
         have hkx:j<xs2.length:=by rw [HL2.out];exact hlt
         have hkc:j<(chgI (lnB (s.c 44) deep stl) xs2 j).length:=by rw [chgI_length];exact hkx
         have hIm:=hC.out.1.at_ hAr hkc
         rw [chgI_get _ _ hkx] at hIm
         obtain ⟨x,hx⟩:∃ x,xs2[j]=x:=⟨_,rfl⟩
         rw [hx] at hIm
         have HX:=Lib.hid hx
         have HIM:=Lib.hid hIm
         have HSr:=Lib.hid hSr
         have lRr:=hAr.lt
         obtain ⟨lz,cz⟩:=lints hIz.out (by rw [HSTK.out];exact hlt)
         obtain ⟨v,hv⟩:∃ v,stl.getD j 0=v:=⟨_,rfl⟩
         rw [hv] at cz
         have HV:=Lib.hid hv
         have cS44:wr.cell? ⟨T,44,none⟩=some (.int .i64 (s.c 44)):=(hST.out.cell 44).trans (cells_int s Z3f rfl)
         have lTr:=hST.out.lt
         clear hIm hx hv hSr
         go_upto_region 17 with (fail)
         have hSd:Below wr.heap.size wr wr.drew:=Below.drew (Below.refl _ _)
         refine tkX (S:=fun X=>Below wr.heap.size wr X) 10 ?_ ?_
         · exact hSd
         intro hx
         clear hSd
         refine tkB 0 ?_
         refine tkB 1 ?_
         refine tkB 3 ?_
         refine tkB 4 ?_
         refine tkR 5 rfl (reads_im (.tmp 107) Z3n rfl rfl (fun X h=>ImAt.keep HIM.out h lRr)) ?_
         refine tkB 7 ?_
         refine tk1 2 ?_
         refine Drawn.Step.call tkL (fouterf_any 1 _) ?_
         rintro e' w7 ⟨rfl,hw7⟩
         have hb7:Below wr.drew.heap.size wr.drew w7:=hw7 ▸ Below.alloc' (Below.refl _ _) _
         have AQ:At w7 wr.drew.heap.size (.cells #[.int .i64 1] 3):=hw7 ▸ At.new _ _
         clear hw7
         replace hx:=Below.after2 hx (Nat.le_refl _) hb7
         generalize wr.drew.heap.size=Bq at *
         refine ⟨_,rfl,fun _=>hx,?_⟩
         (try simp only [tkp,tka,tkz,tks])
         refine tk1 6 ?_
         refine Drawn.Step.call tkL (fouter1 x Bq w7 (AQ.cell 0)) ?_
         rintro e' w8 ⟨rfl,hb8⟩
         replace hx:=Below.after2 hx (Nat.le_refl _) hb8
         refine ⟨_,rfl,fun _=>hx,?_⟩
         (try simp only [tkp,tka,tkz,tks])
         refine tk1 8 ?_
         refine Drawn.Step.call tkL (jacross_any (s.c 44) (outr1 x) deep w8) ?_
         rintro e' w9 ⟨rfl,rfl⟩
         refine ⟨_,rfl,fun _=>hx,?_⟩
         (try simp only [tkp,tka,tkz,tks])
         refine tkB 9 ?_
         refine tkE ?_
         have hs8:=hx.size
         have hA8:=hAr.keep hx
         have hS8:=HSr.out.after hx
         have hST8:=Lib.hid (hST.out.keep hx)
         have hIz8:=Lib.hid (hIz.out.keep hx fun _ a ha=>by injection ha with ha;rw [← ha];exact lz)
         have hO8:Out (fun b=>b=Y.pm∨b=R) w w8:=Out.trans' hO (Out.of_below (M:=fun _=>False) hx) fun _ _ q=>q.elim
         have HIM8:=Lib.hid (ImAt.keep (x:=x) HIM.out hx lRr)
         have c13:w8.cell? ⟨R,q + j * 17 + 13,none⟩=some (.int .i64 x.m0):=(HIM8.out 13 Z3f).trans rfl
         have c15:w8.cell? ⟨R,q + j * 17 + 15,none⟩=some (.int .i64 x.m2):=(HIM8.out 15 Z3f).trans rfl
         obtain ⟨la,hla⟩:∃ v,Ju.across (s.c 44) (outr1 x) deep=v:=⟨_,rfl⟩
         rw [hla]
         obtain ⟨p0,hp0⟩:∃ v2,IntKind.i64.wrap (v + x.m0)=v2:=⟨_,rfl⟩
         obtain ⟨p1,hp1⟩:∃ v2,IntKind.i64.wrap (la + x.m2)=v2:=⟨_,rfl⟩
         have HLB:=Lib.hid (show lnB (s.c 44) deep stl j x={ x with ld:={ x.ld with a0:=p0,a1:=p1 } } by unfold lnB;rw [HV.out,hla, ← wri (v + x.m0), ← wri (la + x.m2),hp0,hp1])
         have hFI:q + j * 17 + 10 + 2≤cs3.size:=by
          have:=hC.out.1.1
          rw [chgI_length] at this
          have h2:j * 17 + 17≤xs2.length * 17:=by omega
          omega
         have HFI:=Lib.hid hFI
         clear hla hb7 hb8 AQ hx hAr hST hIz hO HIM HSr cz lz cS44 lTr hFI HV lRr
         have lR8:=hA8.lt
         go_upto_region 18 with (fail)
         have hSd:Out (fun b=>b=R) w8 w8.drew∧w8.drew.cell? ⟨R,q + j * 17 + 13,none⟩=some (.int .i64 x.m0)∧w8.drew.cell? ⟨R,q + j * 17 + 15,none⟩=some (.int .i64 x.m2):=⟨(Out.refl _ _).drew,c13,c15⟩
         refine tkX (S:=fun X=>Out (fun b=>b=R) w8 X∧X.cell? ⟨R,q + j * 17 + 13,none⟩=some (.int .i64 x.m0)∧X.cell? ⟨R,q + j * 17 + 15,none⟩=some (.int .i64 x.m2)) 22 ?_ ?_
         · exact hSd
         intro hx
         clear hSd
         refine tkC 0 ?_
         refine tkC 1 ?_
         refine tkC 2 ?_
         refine tkC 3 ?_
         refine tkC 4 ?_
         refine tkC 5 ?_
         refine tkC 6 ?_
         refine tkC 7 ?_
         refine tkC 8 ?_
         refine tkC 9 ?_
         refine tkC 10 ?_
         refine tkC 11 ?_
         refine tkC 12 ?_
         refine tkC 13 ?_
         refine tkC 14 ?_
         refine tkC 15 ?_
         refine tkC 16 ?_
         refine tkC 17 ?_
         refine tkC 18 ?_
         refine tkC 19 ?_
         refine tkC 20 ?_
         refine tk1 21 ?_
         have hA8d:At w8.drew R (.cells cs3 203):=hA8
         refine Drawn.Step.skip (exec_store_at siz_sz (.tmp 132) (.tmp 129) rfl rfl rfl hA8d rfl HFI.out Z45) ?_
         have hA11:=At.setRow hA8d (splice cs3 (q + j * 17 + 10) #[.int .i64 p0,.int .i64 p1])
         have hO11:Out (fun b=>b=R) w8.drew (w8.drew.setRow R (splice cs3 (q + j * 17 + 10) #[.int .i64 p0,.int .i64 p1])):=Out.setRow (M:=fun b=>b=R) (Out.refl _ _) rfl _
         have c13n:(w8.drew.setRow R (splice cs3 (q + j * 17 + 10) #[.int .i64 p0,.int .i64 p1])).cell? ⟨R,q + j * 17 + 13,none⟩=some (.int .i64 x.m0):=by
          have h1:=splice_out (cs:=cs3) (vs:=#[.int .i64 p0,.int .i64 p1]) (q:=q + j * 17 + 10) (k:=q + j * 17 + 13) HFI.out (.inr Z3t)
          rw [hA11.cell,h1, ← hA8d.cell]
          exact c13
         have c15n:(w8.drew.setRow R (splice cs3 (q + j * 17 + 10) #[.int .i64 p0,.int .i64 p1])).cell? ⟨R,q + j * 17 + 15,none⟩=some (.int .i64 x.m2):=by
          have h1:=splice_out (cs:=cs3) (vs:=#[.int .i64 p0,.int .i64 p1]) (q:=q + j * 17 + 10) (k:=q + j * 17 + 15) HFI.out (.inr Z3t)
          rw [hA11.cell,h1, ← hA8d.cell]
          exact c15
         refine ⟨fun _=>⟨((Out.refl _ w8).drew).trans hO11,c13n,c15n⟩,?_⟩
         (try simp only [tkp,tka,tkz,tks])
         refine tkE ?_
         have hOn:Out (fun b=>b=R) w8 (w8.drew.setRow R (splice cs3 (q + j * 17 + 10) #[.int .i64 p0,.int .i64 p1])):=((Out.refl _ w8).drew).trans hO11
         have hput:=hC.out.1.putAt hkc p0 p1
         rw [chgI_get _ _ hkx,HX.out] at hput
         have hC11:Hid (ISub (splice cs3 (q + j * 17 + 10) #[.int .i64 p0,.int .i64 p1]) q (chgI (lnB (s.c 44) deep stl) xs2 (j + 1))∧ISame q k cs (splice cs3 (q + j * 17 + 10) #[.int .i64 p0,.int .i64 p1])):=Lib.hid ⟨by
          rw [← chgI_succ _ _ hkx,HX.out,HLB.out]
          exact hput.1,hC.out.2.trans (by have:=hput.2;rw [chgI_length,HL2.out] at this;exact this)⟩
         have hS11:=hS8.own (M:=fun b=>b=R) hOn fun b hb h=>by subst h;exact ⟨hPR2,hR1⟩
         have hO12:Out (fun b=>b=Y.pm∨b=R) w (w8.drew.setRow R (splice cs3 (q + j * 17 + 10) #[.int .i64 p0,.int .i64 p1])):=hO8.trans (hOn.mono fun b _ h => .inr h)
         have hST11:=Lib.hid (hST8.out.out (M:=fun b=>b=R) Z3f hOn)
         have hIz11:=Lib.hid (ints_out hIz8.out hOn Z3f)
         generalize w8.drew.setRow R (splice cs3 (q + j * 17 + 10) #[.int .i64 p0,.int .i64 p1])=w11 at *
         generalize splice cs3 (q + j * 17 + 10) #[.int .i64 p0,.int .i64 p1]=cs4 at *
         clear hx hput hA8 hA8d hO11 hOn c13 c15 c13n c15n hS8 hST8 hIz8 hO8 HIM8 hp0 hp1
         go_wp2
         go_roundw
         case rel=>exact ⟨j + 1,cs4,by omega,by go_num,hS11,hA11,hC11,hST11,hIz11,hO12⟩
         case measure=>simp [intOf];omega
       · obtain rfl:j=k:=by omega
         go_wp2
         go_ret
         refine ⟨rfl,n2,P2,cs3,by rw [HM.out] at hn2;exact hn2,hSr,hPR2,hP2,hAr,?_,hC.out.2,hO⟩
         have:=hC.out.1
         rw [← HL2.out,chgI_all, ← HBG.out] at this
         exact this
end
def colSz (it:Nat→Fe.It) (ex:Nat→Int) (n:Nat) (r1 gap:Int):List Int :=
 if r1 ≠ -1∧n≤64 then sizesOf it n (lfts (Fw.wr (r1 - Fw.wr (gap * Fw.wr ((n:Int) - 1)))) ex n) else Ju.row (fun i=>Fe.clamp (it i) (it i).b) n
theorem colSz_length (it:Nat→Fe.It) (ex:Nat→Int) (n:Nat) (r1 gap:Int):(colSz it ex n r1 gap).length=n:=by
 unfold colSz
 split
 · simp [sizesOf]
 · exact Ju.row_length _ _
set_option maxHeartbeats 4000000 in
theorem fcolszs (A:Option Addr) (xs:List Im) (c:Nat) (r0 r1 gap:Int) (it:Nat→Fe.It) (ex:Nat→Int) (st:Nat→Re.St) (w:World) (hx:Ims w A xs) (hl:xs.length≤10000) (hit:∀ i (h:i<xs.length),it i=xs[i].it) (hex:∀ i (h:i<xs.length),ex i=ext1 xs[i] (st i)) (hbx:∀ i (h:i<xs.length),∃ fl ap ib,BxAt w xs[i].bx (st i) fl ap ib) :
  Calls Tryz.prog 148 #[.slice A xs.length c,.agg #[.int .i64 r0,.int .i64 r1],.int .i64 gap] w fun e w' =>
   (∃ b,e = .returned (.slice (some ⟨b,0,none⟩) xs.length xs.length)∧w.heap.size≤b∧Ints w' (some ⟨b,0,none⟩) (colSz it ex xs.length r1 gap))∧Below w.heap.size w w':=by
 have b1:Below w.heap.size w (w.alloc (.cells #[.int .i64 r0,.int .i64 r1] 88)):=Below.alloc' (Below.refl _ _) _
 have A0:At (w.alloc (.cells #[.int .i64 r0,.int .i64 r1] 88)) w.heap.size (.cells #[.int .i64 r0,.int .i64 r1] 88):=At.new _ _
 obtain ⟨w1,hw1⟩:∃ W,w.alloc (.cells #[.int .i64 r0,.int .i64 r1] 88)=W:=⟨_,rfl⟩
 rw [hw1] at b1 A0
 have hx1:Ims w1 A xs:=hx.after b1
 have key1:=fun h64=>fflexed1 A xs c r0 r1 gap it ex st w1 hx1 h64 hit hex (fun i h=>by
  obtain ⟨fl,ap,ib,q⟩:=hbx i h
  exact ⟨fl,ap,ib,BxAt.keep q b1⟩)
 have key2:=ftoldZ #[] (fun i=>Fe.clamp (it i) (it i).b) A xs c w1 hx1 hl (fun i h X hb=>by
  simp only [hit i h]
  exact fcolsz xs[i] X)
 obtain ⟨m,hm⟩:∃ m,xs.length=m:=⟨_,rfl⟩
 rw [hm] at hl key1 key2 ⊢
 have HW1:=Lib.hid hw1
 have HB1:=Lib.hid b1
 have hsz:=b1.size
 clear hx hx1 hit hex hbx hm hw1 b1
 obtain ⟨l0,c0_0,c0_1⟩:=At.two A0
 obtain ⟨ans,hans⟩:∃ l,colSz it ex m r1 gap=l:=⟨_,rfl⟩
 rw [hans]
 unfold colSz at hans
 go_enter Tryz.func148,Tryz.ntmps148
 go_upto_region 1 with (fail)
 rw [HW1.out]
 by_cases hc:r1 = -1
 · rw [if_neg Z3f] at hans
   have HANS:=Lib.hid hans
   clear hans key1
   exact Z2g
 · by_cases h64:m≤64
   · rw [if_pos ⟨hc,h64⟩] at hans
     replace key1:=key1 h64
     rw [hans] at key1
     clear key2 hans
     have hm64:(m:Int)≤64:=by omega
     go_wp2_with (go_at_call 185;(with_reducible refine key1.mono ?_);rintro e' w4 ⟨⟨b,rfl,gb,hT⟩,hb4⟩)
     go_ret
     exact ⟨⟨b,rfl,Nat.le_trans hsz gb,hT⟩,HB1.out.trans (hb4.mono hsz)⟩
   · rw [if_neg Z3f] at hans
     have HANS:=Lib.hid hans
     clear hans key1
     have hm64:¬ (m:Int)≤64:=by omega
     exact Z2g
end Go.Proofs.YteggipnplbkijaaGreat.Fix
