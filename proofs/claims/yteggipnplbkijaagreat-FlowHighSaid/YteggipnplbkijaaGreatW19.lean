/- Boxes laid by the program: what its functions do, part 19. -/
import Derived.Test.YteggipnplbkijaaGreatWK
import Derived.Test.YteggipnplbkijaaGreatW01
import Derived.Test.YteggipnplbkijaaGreatW05
import Derived.Test.YteggipnplbkijaaGreatW17
import Derived.Test.YteggipnplbkijaaGreatW18
set_option linter.unusedVariables false
set_option linter.unusedSimpArgs false
set_option linter.unusedSectionVars false
set_option maxRecDepth 100000
namespace Go.Proofs.YteggipnplbkijaaGreat.Fix
open Go.ChangeShapes Go.WideShapes Go.ChangeAt Go.RowKit
theorem reads_im {ops:Array Oper} {S:World→Prop} {o:Oper} {a:Act} (p:Operand) {R q:Nat} {x:Im} (hw:Region.wanted o (yielded ops a.tmps)=true) (ho:o.op = .load 203 p) (hp:a.eval p = .pointer (some ⟨R,q,none⟩)) (h:∀ X,S X→ImAt X R q x):Drawn.Reads Tryz.prog ops S o (.agg (imc x)) a :=
 .inl ⟨hw,fun X hX=>exec_load_at agg_im siz_im p ho hp (imc_size x) (h X hX)⟩
structure IOK (Y:Lyt) (B:Int→Fw.Bx) (D:Int→Prop) (F:Int→Nat) (f:Nat) (i0:Int) (x:Im):Prop where
 d:D x.ld.id
 f:F x.ld.id=f
 bx:x.bx=Y.bl x.ld.id
 m0:x.m0=Fw.mg (B x.ld.id).sty 0 0 i0
 m1:x.m1=Fw.mg (B x.ld.id).sty 0 1 i0
 m2:x.m2=Fw.mg (B x.ld.id).sty 1 0 i0
 m3:x.m3=Fw.mg (B x.ld.id).sty 1 1 i0
def strF (B:Int→Fw.Bx) (f:Nat) (r0 r1 high:Int) (x:Im):Im :=
 if Fx.fixd ((B x.ld.id).sty.c 5) r1=true then x else { x with ld:=Fw.lay B f x.ld.id r0 r1 x.ld.s0 (Fw.wr (Fx.limit (max (Fw.wr (high - ext1 x (B x.ld.id).sty)) 0) ((B x.ld.id).sty.c 9) ((B x.ld.id).sty.c 10) ((B x.ld.id).sty.c 13) ((B x.ld.id).sty.c 14) r1 + Fw.wr (Fw.ed (B x.ld.id).sty 0 + Fw.ed (B x.ld.id).sty 2))) }
def chg (g:Im→Im) (l:List Im) (k:Nat):List Im:=(l.take k).map g ++ l.drop k
theorem chg_length (g:Im→Im) (l:List Im) (k:Nat):(chg g l k).length=l.length:=by simp [chg];omega
theorem chg_get (g:Im→Im) (l:List Im) {k:Nat} (hk:k<l.length):(chg g l k)[k]'(by rw [chg_length];exact hk)=l[k]:=by
 unfold chg
 rw [List.getElem_append_right Z3p]
 simp
 congr 1
 omega
theorem chg_succ (g:Im→Im) (l:List Im) {k:Nat} (hk:k<l.length):(chg g l k).set k (g l[k])=chg g l (k + 1):=by
 unfold chg
 have e:((l.take k).map g).length=k:=by simp;omega
 rw [List.set_append,if_neg Z3f,e,Nat.sub_self,List.drop_eq_getElem_cons hk,List.set_cons_zero,List.take_succ_eq_append_getElem hk,List.map_append,List.append_assoc]
 rfl
theorem chg_zero (g:Im→Im) (l:List Im):chg g l 0=l:=by simp [chg]
theorem chg_all (g:Im→Im) (l:List Im):chg g l l.length=l.map g:=by simp [chg]
theorem chg_same (g:Im→Im) (l:List Im) {k:Nat} (hk:k<l.length) (h:g l[k]=l[k]):chg g l (k + 1)=chg g l k:=by
 rw [← chg_succ g l hk,h]
 exact List.ext_getElem Z3t fun i h1 h2=>by
  by_cases e:k=i
  · subst e;rw [List.getElem_set_self,chg_get g l hk]
  · rw [List.getElem_set_ne e]
def csum (B:Int→Fw.Bx) (f:Nat) (l:List Im) (k:Nat):Nat:=((l.take k).map fun x=>Fw.cst B f x.ld.id).sum
theorem csum_succ (B:Int→Fw.Bx) (f:Nat) (l:List Im) {k:Nat} (hk:k<l.length):csum B f l (k + 1)=csum B f l k + Fw.cst B f l[k].ld.id:=by
 unfold csum
 rw [List.take_succ_eq_append_getElem hk]
 exact Z2n
theorem csum_le (B:Int→Fw.Bx) (f:Nat) (l:List Im) (k:Nat):csum B f l k≤csum B f l l.length:=by
 unfold csum
 rw [List.take_length]
 conv=>rhs;rw [← List.take_append_drop k l,List.map_append,List.sum_append]
 omega
section
variable {Y:Lyt} {B:Int→Fw.Bx} {F:Int→Nat} {D:Int→Prop} {KM:World→Nat→Prop} {f:Nat} {w0:World} {P0:Nat→Prop}
theorem lay_call (hL:LayOK Y B F D KM f) (hKO:∀ (X X':World) (b:Nat),KM X b→Out (fun q=>q≠b) X X'→KM X' b) (hR0:RO w0 Y B D KM) (hkm:Y.km<w0.heap.size) {n:Nat} {P:Nat→Prop} {W:World} (h:LSt Y B F w0 P0 n P W) (z r0 r1 t0 t1:Int) (hz:D z) (hf:F z=f) (hn:n + Fw.cst B f z<maxLen) :
  Calls Tryz.prog 45 #[.pointer (some ⟨Y.lb,0,none⟩),.int .i64 z,.agg #[.int .i64 r0,.int .i64 r1],.agg #[.int .i64 t0,.int .i64 t1]] W fun e W' =>
   e = .returned (.agg (ldc (Fw.lay B f z r0 r1 t0 t1)))∧∃ n' P',n'≤n + Fw.cst B f z∧LSt Y B F w0 P0 n' P' W'∧(∀ b,b<W.heap.size→P' b→P b)∧Out (fun b=>b=Y.pm) W W' :=
 (hL z r0 r1 t0 t1 W n P hz hf (h.ro hKO hR0 hkm) h.kp h.lt (Nat.lt_of_lt_of_le hkm h.size) hn).mono fun e W' ⟨h1,n',P',h2,h3,h4,h5⟩=>⟨h1,n',_,h2,h.call h3 h4 h5,fun b hb q=>by
  rcases h4 b q.1 with q | q
  · exact q
  · omega,h5⟩
set_option maxHeartbeats 16000000 in
theorem fstretch (hL:LayOK Y B F D KM f) (hK:∀ (X X':World) (b:Nat),KM X b→Below X.heap.size X X'→KM X' b) (hKO:∀ (X X':World) (b:Nat),KM X b→Out (fun q=>q≠b) X X'→KM X' b) (hR0:RO w0 Y B D KM) (hkm:Y.km<w0.heap.size)
  (R q c:Nat) (i0 r0 r1 high:Int) (xs:List Im) (cs:Array Value) (w:World) (n:Nat) (P:Nat→Prop) (hS:LSt Y B F w0 P0 n P w) (hA:At w R (.cells cs 203)) (hI:ISub cs q xs) (hok:∀ x ∈ xs,IOK Y B D F f i0 x) (hPR:¬ P R) (hR1:w0.heap.size≤R) (hn:n + csum B f xs xs.length<maxLen) (hl:xs.length≤10000) :
  Calls Tryz.prog 187 #[.pointer (some ⟨Y.lb,0,none⟩),.slice (some ⟨R,q,none⟩) xs.length c,.agg #[.int .i64 r0,.int .i64 r1],.int .i64 high] w fun e w'=>e = .returned (.tuple #[]) ∧
   ∃ n' P' cs',n'≤n + csum B f xs xs.length∧LSt Y B F w0 P0 n' P' w'∧¬ P' R∧(∀ b,b<w.heap.size→P' b→P b)∧At w' R (.cells cs' 203)∧ISub cs' q (xs.map (strF B f r0 r1 high))∧ISame q xs.length cs cs'∧Out (fun b=>b=Y.pm∨b=R) w w':=by
 obtain ⟨es0,ck0,hpm0⟩:=hR0.pmo
 have hpmR:Y.pm<R:=Nat.lt_of_lt_of_le hpm0.lt hR1
 obtain ⟨m,hm⟩:∃ m,xs.length=m:=⟨_,rfl⟩
 have HM:=Lib.hid hm
 have HN:=Lib.hid hn
 have HOK:=Lib.hid hok
 have HR0:=Lib.hid hR0
 have hRl:=hA.lt
 have b1:Below w.heap.size w (w.alloc (.cells #[.int .i64 r0,.int .i64 r1] 88)):=Below.alloc' (Below.refl _ _) _
 have A0:At (w.alloc (.cells #[.int .i64 r0,.int .i64 r1] 88)) w.heap.size (.cells #[.int .i64 r0,.int .i64 r1] 88):=At.new _ _
 have hS1:=hS.after b1
 have hA1:=hA.keep b1
 have hsz:=b1.size
 have hPw:=hS.lt
 rw [hm] at hl ⊢
 clear hn hok hR0 hS hA hm hpm0
 go_enter Tryz.func187,Tryz.ntmps187
 go_upto_region 1 with (fail)
 generalize w.alloc (.cells #[.int .i64 r0,.int .i64 r1] 88)=w1 at *
 go_upto_region 2 with (fail)
 go_loopw [15] (fun iv wr=>∃ (k n':Nat) (P':Nat→Prop) (cs':Array Value),k≤m∧iv = .int .i64 k∧n'≤n + csum B f xs k∧LSt Y B F w0 P0 n' P' wr∧¬ P' R∧(∀ b,b≤w.heap.size→P' b→P b)∧At wr R (.cells cs' 203)∧Hid (ISub cs' q (chg (strF B f r0 r1 high) xs k)∧ISame q m cs cs')∧At wr w.heap.size (.cells #[.int .i64 r0,.int .i64 r1] 88)∧Out (fun b=>b=Y.pm∨b=R) w wr) (fun iv _=>m - (intOf iv).toNat)
 case atStart=>exact ⟨0,n,P,cs,Nat.zero_le _,rfl,by simp [csum],hS1,hPR,fun b hb h=>h,hA1,Lib.hid ⟨by rw [chg_zero];exact hI,ISame.refl _ _ _⟩,A0,Out.of_below b1⟩
 case round =>
  clear hS1 hA1 A0 b1 hI hsz
  obtain ⟨k,n',P',cs',hk,rfl,hn',hSr,hPR',hPn,hAr,hC,A0,hO⟩:=hrel
  by_cases hlt:k<m
  · have hltz:(k:Int)<(m:Int):=by omega
    have hkx:k<xs.length:=by rw [HM.out];exact hlt
    have hkc:k<(chg (strF B f r0 r1 high) xs k).length:=by rw [chg_length];exact hkx
    have hIm:=hC.out.1.at_ hAr hkc
    rw [chg_get _ _ hkx] at hIm
    obtain ⟨x,hx⟩:∃ x,xs[k]=x:=⟨_,rfl⟩
    have hxok:=Lib.hid (HOK.out x (hx ▸ List.getElem_mem _))
    rw [hx] at hIm
    have HX:=Lib.hid hx
    have hsR:True:=trivial
    have hRr:=hSr.ro hKO HR0.out hkm
    have hbx:=(hRr.box x.ld.id hxok.out.d).1
    rw [← hxok.out.bx] at hbx
    obtain ⟨s,hs⟩:∃ s,(B x.ld.id).sty=s:=⟨_,rfl⟩
    rw [hs] at hbx
    generalize Y.vf x.ld.id=vf at hbx
    generalize Y.va x.ld.id=va at hbx
    generalize (B x.ld.id).ib=ib at hbx
    have HS:=Lib.hid hs
    have HBX:=Lib.hid hbx
    have HIM:=Lib.hid hIm
    have HSr:=Lib.hid hSr
    obtain ⟨l2,c2_0,c2_1,c2_2,c2_3,c2_4,c2_5,c2_6,c2_7⟩:=At.bx1 hbx
    have lRr:=hAr.lt
    have cbx:wr.cell? ⟨R,q + k * 17 + 12,none⟩=some (.pointer (some ⟨x.bx,0,none⟩)):=(hIm 12 Z3f).trans rfl
    have l0:=A0.lt
    clear hRr hbx hIm hs hx
    go_upto_region 6 with (fail)
    have b5:Below wr.heap.size wr (wr.alloc (.cells #[.int .i64 (s.c 5),.int .i64 (s.c 6),.int .i64 (s.c 9),.int .i64 (s.c 10),.int .i64 (s.c 13),.int .i64 (s.c 14)] 136)):=Below.alloc' (Below.refl _ _) _
    have AE:At (wr.alloc (.cells #[.int .i64 (s.c 5),.int .i64 (s.c 6),.int .i64 (s.c 9),.int .i64 (s.c 10),.int .i64 (s.c 13),.int .i64 (s.c 14)] 136)) wr.heap.size (.cells #[.int .i64 (s.c 5),.int .i64 (s.c 6),.int .i64 (s.c 9),.int .i64 (s.c 10),.int .i64 (s.c 13),.int .i64 (s.c 14)] 136):=At.new _ _
    generalize wr.alloc (.cells #[.int .i64 (s.c 5),.int .i64 (s.c 6),.int .i64 (s.c 9),.int .i64 (s.c 10),.int .i64 (s.c 13),.int .i64 (s.c 14)] 136)=W1 at *
    obtain ⟨e,he⟩:∃ e,wr.heap.size=e:=⟨_,rfl⟩
    rw [he] at AE
    have hel:wr.heap.size≤e:=Nat.le_of_eq he
    have hel2:e≤wr.heap.size:=Nat.le_of_eq he.symm
    rw [he]
    have B0:=A0.keep b5
    have hB1:=hAr.keep b5
    have hS1:=hSr.after b5
    have hO1:Out (fun b=>b=Y.pm∨b=R) w W1:=Out.trans' hO (Out.of_below (M:=fun _=>False) b5) fun _ _ q=>q.elim
    have HBX1:=Lib.hid (HBX.out.keep b5)
    have HIM1:=Lib.hid (fun j hj=>(ImAt.keep HIM.out b5 lRr) j hj)
    have hwrw:w.heap.size<wr.heap.size:=A0.lt
    clear he l2 c2_0 c2_1 c2_2 c2_3 c2_4 c2_5 c2_6 c2_7 cbx l0
    obtain ⟨l0,c0_0,c0_1⟩:=At.two B0
    obtain ⟨l1,e0,e1,e2,e3,e4,e5⟩:=At.six AE
    cases hfx:Fx.fixd (s.c 5) r1 with
    | true =>
      have hsame:Hid (strF B f r0 r1 high xs[k]=xs[k]):=Lib.hid (by rw [HX.out];unfold strF;rw [HS.out,hfx];rfl)
      have HFX:=Lib.hid hfx
      clear hfx
      go_wp2_with (go_at_call 110;(with_reducible refine (ffix_any _ _ _ _ _ _ _ _).mono ?_);rintro e' w5 ⟨rfl,hb⟩;rw [HFX.out])
      go_roundw
      case rel=>exact ⟨k + 1,n',P',cs',by omega,by go_num,by rw [csum_succ B f xs hkx];omega,hS1.after hb,hPR',hPn,hB1.keep hb,Lib.hid (by rw [chg_same _ _ hkx hsame.out];exact hC.out),B0.keep hb,Out.trans' hO1 (Out.of_below (M:=fun _=>False) hb) fun _ _ q=>q.elim⟩
      case measure=>simp [intOf];omega
    | false =>
      have HFX:=Lib.hid hfx
      clear hfx
      go_upto_region 7 with (go_at_call 110;(with_reducible refine (ffix_any _ _ _ _ _ _ _ _).mono ?_);rintro e' w5 ⟨rfl,hb⟩;rw [HFX.out])
      have hw15:=hb.size
      have b15:=b5.size
      have B5:=B0.keep hb
      have AE5:=AE.keep hb
      have hA5:=hB1.keep hb
      have hS5:=hS1.after hb
      have hO5:Out (fun b=>b=Y.pm∨b=R) w w5:=Out.trans' hO1 (Out.of_below (M:=fun _=>False) hb) fun _ _ q=>q.elim
      have HBX5:=Lib.hid (HBX1.out.keep hb)
      have HIM5:=Lib.hid (ImAt.keep (x:=x) HIM1.out hb Z3f)
      have HSF:=Lib.hid (show strF B f r0 r1 high x={ x with ld:=Fw.lay B f x.ld.id r0 r1 x.ld.s0 (Fw.wr (Fx.limit (max (Fw.wr (high - ext1 x s)) 0) (s.c 9) (s.c 10) (s.c 13) (s.c 14) r1 + Fw.wr (Fw.ed s 0 + Fw.ed s 2))) } by unfold strF;rw [HS.out,HFX.out];rfl)
      clear hb l0 c0_0 c0_1 l1 e0 e1 e2 e3 e4 e5 B0 AE hB1 hS1 hO1 HBX1 HIM1 b5
      have hSd:Below w5.heap.size w5 w5.drew:=Below.drew (Below.refl _ _)
      have keyE:=fun X (h:Below w5.heap.size w5 X)=>fextra1 x s vf va ib X (HBX5.out.keep h)
      obtain ⟨ex1,hex1⟩:∃ v,ext1 x s=v:=⟨_,rfl⟩
      rw [hex1, ← wri (high - ex1)] at HSF
      simp only [hex1] at keyE
      obtain ⟨d1,hd1⟩:∃ v,IntKind.i64.wrap (high - ex1)=v:=⟨_,rfl⟩
      rw [hd1] at HSF
      obtain ⟨lm,hlm⟩:∃ v,Fx.limit (max d1 0) (s.c 9) (s.c 10) (s.c 13) (s.c 14) r1=v:=⟨_,rfl⟩
      rw [hlm] at HSF
      have keyL:=fun X=>flim_any (s.c 5) (s.c 6) (s.c 9) (s.c 10) (s.c 13) (s.c 14) (max d1 0) r1 X
      simp only [hlm] at keyL
      clear hex1 hlm
      obtain ⟨l0,c0_0,c0_1⟩:=At.two B5
      obtain ⟨l1,e0,e1,e2,e3,e4,e5⟩:=At.six AE5
      have lR5:=hA5.lt
      refine tkX (S:=fun X=>Below w5.heap.size w5 X) 12 ?_ ?_
      · exact hSd
      intro hx
      clear hSd
      refine tkB 0 ?_
      refine tkB 1 ?_
      refine tkB 2 ?_
      refine tkB 3 ?_
      refine tkB 8 ?_
      refine tkB 9 ?_
      refine tkR 4 rfl (reads_im (.tmp 36) Z3n rfl rfl (fun X h=>ImAt.keep HIM5.out h lR5)) ?_
      refine tk1 5 ?_
      refine Drawn.Step.call tkL (keyE _ hx) ?_
      rintro e' w6 ⟨rfl,hb⟩
      replace hx:=Below.after2 hx (Nat.le_refl _) hb
      clear hb
      refine ⟨_,rfl,fun _=>hx,?_⟩
      (try simp only [tkp,tka,tkz,tks])
      refine tkB 6 ?_
      refine tkB 7 ?_
      refine tk1 10 ?_
      refine Drawn.Step.call tkL (keyL _) ?_
      rintro e' w7 ⟨rfl,hb⟩
      replace hx:=Below.after2 hx (Nat.le_refl _) hb
      clear hb
      refine ⟨_,rfl,fun _=>hx,?_⟩
      (try simp only [tkp,tka,tkz,tks])
      refine tkB 11 ?_
      refine tkE ?_
      have b7s:=hx.size
      have B7:=B5.keep hx
      have hA7:=hA5.keep hx
      have hS7:=hS5.after hx
      have hO7:Out (fun b=>b=Y.pm∨b=R) w w7:=Out.trans' hO5 (Out.of_below (M:=fun _=>False) hx) fun _ _ q=>q.elim
      have HBX7:=Lib.hid (HBX5.out.keep hx)
      have HIM7:=Lib.hid (ImAt.keep (x:=x) HIM5.out hx lR5)
      clear hx l0 c0_0 c0_1 l1 e0 e1 e2 e3 e4 e5 B5 AE5 hA5 hS5 hO5 HBX5 HIM5 keyE keyL lR5 hd1
      have keyA:=fun X=>fall_any (Fw.ed s 0) (Fw.ed s 2) X
      obtain ⟨e02,he02⟩:∃ v,Fw.wr (Fw.ed s 0 + Fw.ed s 2)=v:=⟨_,rfl⟩
      rw [he02, ← wri (lm + e02)] at HSF
      simp only [he02] at keyA
      obtain ⟨hh,hhh⟩:∃ v,IntKind.i64.wrap (lm + e02)=v:=⟨_,rfl⟩
      rw [hhh] at HSF
      clear he02
      have cs0:w7.cell? ⟨R,q + k * 17 + 8,none⟩=some (.int .i64 x.ld.s0):=(HIM7.out 8 Z3f).trans rfl
      have cbx:w7.cell? ⟨R,q + k * 17 + 12,none⟩=some (.pointer (some ⟨x.bx,0,none⟩)):=(HIM7.out 12 Z3f).trans rfl
      have lR7:=hA7.lt
      obtain ⟨l2,c2_0,c2_1,c2_2,c2_3,c2_4,c2_5,c2_6,c2_7⟩:=At.bx1 HBX7.out
      clear c2_0 c2_1 c2_2 c2_3 c2_4 c2_5
      go_upto_region 8 with (fail)
      refine Drawn.wp_behind (fun a0 a W5=>∃ (T:Nat) (u44 u45 u46 u47 u48 u49 u50 u51 u52 u53 u54 u55 u56 u57 u58 u59 u60 u61:Value),a={ a0 with tmps:=((((((((((((((((((a0.tmps.setIfInBounds 44 u44).setIfInBounds 45 u45).setIfInBounds 46 u46).setIfInBounds 47 u47).setIfInBounds 48 u48).setIfInBounds 49 u49).setIfInBounds 50 u50).setIfInBounds 51 u51).setIfInBounds 52 u52).setIfInBounds 53 u53).setIfInBounds 54 u54).setIfInBounds 55 u55).setIfInBounds 56 u56).setIfInBounds 57 u57).setIfInBounds 58 u58).setIfInBounds 59 u59).setIfInBounds 60 u60).setIfInBounds 61 u61).setIfInBounds 12 (.pointer (some ⟨T,0,none⟩)) }∧w7.heap.size≤T∧At W5 T (.cells #[.int .i64 x.ld.s0,.int .i64 hh] 88)∧Below w7.heap.size w7 W5) ?_ ?_
      · have hSd:Below w7.heap.size w7 w7.drew:=Below.drew (Below.refl _ _)
        refine tkX (S:=fun X=>Below w7.heap.size w7 X) 20 ?_ ?_
        · exact hSd
        intro hx
        clear hSd
        refine tkB 0 ?_
        refine tkB 1 ?_
        refine tkB 2 ?_
        refine tkB 3 ?_
        refine tkB 4 ?_
        refine tkB 5 ?_
        refine tkB 6 ?_
        refine tkB 7 ?_
        refine tkB 8 ?_
        refine tkB 9 ?_
        refine tkB 10 ?_
        refine tkB 11 ?_
        refine tkB 12 ?_
        refine tkB 13 ?_
        refine tkB 14 ?_
        clear l2 c2_6 c2_7 cs0 cbx lR7 HIM7 HBX7 hO7 hS7 hA7 B7
        refine tk2 15 18 ?_ ?_
        · refine Drawn.Step.call tkL (keyA _) ?_
          rintro e' w9 ⟨rfl,hb⟩
          replace hx:=Below.after2 hx (Nat.le_refl _) hb
          clear hb
          refine ⟨_,rfl,fun _=>hx,?_⟩
          (try simp only [tkp,tka,tkz,tks])
          refine tkB 16 ?_
          refine tkB 17 ?_
          refine tk1 18 ?_
          refine Drawn.Step.value (u:= .pointer (some ⟨w9.heap.size,0,none⟩)) (w':=w9.alloc (.cells #[.int .i64 0,.int .i64 0] 88)) tkL ?_
          obtain ⟨w10,hw9,AT,hb9,gT⟩:∃ w10,w10=w9.alloc (.cells #[.int .i64 0,.int .i64 0] 88)∧At w10 w9.heap.size (.cells #[.int .i64 0,.int .i64 0] 88)∧Below w9.heap.size w9 w10∧w7.heap.size≤w9.heap.size:=⟨_,rfl,At.new _ _,Below.alloc' (Below.refl _ _) _,hx.size⟩
          rw [← hw9]
          clear hw9
          replace hx:=Below.after2 hx (Nat.le_refl _) hb9
          generalize w9.heap.size=T at *
          refine ⟨fun _=>hx,?_⟩
          (try simp only [tkp,tka,tkz,tks])
          exact Z1e
        · refine Drawn.Step.value (u:= .pointer (some ⟨w7.drew.heap.size,0,none⟩)) (w':=w7.drew.alloc (.cells #[.int .i64 0,.int .i64 0] 88)) tkL ?_
          obtain ⟨w10,hw9,AT,hb9,gT⟩:∃ w10,w10=w7.drew.alloc (.cells #[.int .i64 0,.int .i64 0] 88)∧At w10 w7.drew.heap.size (.cells #[.int .i64 0,.int .i64 0] 88)∧Below w7.drew.heap.size w7.drew w10∧w7.heap.size≤w7.drew.heap.size:=⟨_,rfl,At.new _ _,Below.alloc' (Below.refl _ _) _,hx.size⟩
          rw [← hw9]
          clear hw9
          replace hx:=Below.after2 hx (Nat.le_refl _) hb9
          generalize w7.drew.heap.size=T at *
          refine ⟨fun _=>hx,?_⟩
          (try simp only [tkp,tka,tkz,tks])
          refine tk1 15 ?_
          refine Drawn.Step.call tkL (keyA _) ?_
          rintro e' w9 ⟨rfl,hb⟩
          replace hx:=Below.after2 hx (Nat.le_refl _) hb
          replace AT:=AT.keep hb
          clear hb
          refine ⟨_,rfl,fun _=>hx,?_⟩
          (try simp only [tkp,tka,tkz,tks])
          refine tkB 16 ?_
          refine tkB 17 ?_
          exact Z1e
      · rintro a W9 ⟨T,u44,u45,u46,u47,u48,u49,u50,u51,u52,u53,u54,u55,u56,u57,u58,u59,u60,u61,rfl,gT,AT,hb9⟩
        simp only [List.setIfInBounds_toArray,List.set_cons_zero,List.set_cons_succ]
        clear keyA hhh l2 c2_6 c2_7 cs0 cbx
        have b9s:=hb9.size
        have B9:=B7.keep hb9
        have hA9:=hA7.keep hb9
        have hS9:=(hS7.after hb9).after ((Below.refl W9.heap.size W9).drew)
        have hO9:Out (fun b=>b=Y.pm∨b=R) w W9:=Out.trans' hO7 (Out.of_below (M:=fun _=>False) hb9) fun _ _ q=>q.elim
        have hid:W9.cell? ⟨R,q + k * 17 + 5,none⟩=some (.int .i64 x.ld.id):=(ImAt.keep HIM7.out hb9 lR7 5 Z3f).trans rfl
        have lR9:=hA9.lt
        have hcs1:=csum_succ B f xs hkx
        rw [HX.out] at hcs1
        have hcs2:=csum_le B f xs (k + 1)
        have hnn:=HN.out
        have keyY:=lay_call hL hKO HR0.out hkm hS9 x.ld.id r0 r1 x.ld.s0 hh hxok.out.d hxok.out.f Z3f
        have HFI:=Lib.hid (show q + k * 17 + 5 + 7≤cs'.size by have:=hC.out.1.1;rw [chg_length] at this;have h2:k * 17 + 17≤xs.length * 17:=Z3f;omega)
        have hlid:Fw.lay B f x.ld.id r0 r1 x.ld.s0 hh={ Fw.lay B f x.ld.id r0 r1 x.ld.s0 hh with id:=x.ld.id }:=rfl
        obtain ⟨ly,hly⟩:∃ y,Fw.lay B f x.ld.id r0 r1 x.ld.s0 hh=y:=⟨_,rfl⟩
        have hlyid:ly.id=x.ld.id:=by rw [← hly];rfl
        rw [hly] at keyY
        have HSF2:=Lib.hid (show strF B f r0 r1 high x={ x with ld:=ly } by rw [HSF.out, ← hly])
        clear hlid hly HSF hS7 hA7 B7 hO7 HIM7 HBX7 hb9 lR7
        obtain ⟨l0,c0_0,c0_1⟩:=At.two B9
        obtain ⟨lT,cT0,cT1⟩:=At.two AT
        have n1:w.heap.size≠Y.pm:=by omega
        have n2:w.heap.size≠R:=by omega
        have n3:T≠Y.pm:=by omega
        have n4:T≠R:=by omega
        have hSd:Out (fun b=>b=Y.pm∨b=R) W9 W9.drew∧W9.drew.cell? ⟨R,q + k * 17 + 5,none⟩=some (.int .i64 x.ld.id):=⟨(Out.refl _ _).drew,hid⟩
        go_upto_region 9 with (fail)
        refine tkX (S:=fun X=>Out (fun b=>b=Y.pm∨b=R) W9 X∧X.cell? ⟨R,q + k * 17 + 5,none⟩=some (.int .i64 x.ld.id)) 14 ?_ ?_
        · exact hSd
        intro hx
        clear hSd
        refine tkQ 0 ?_
        refine tkQ 1 ?_
        refine tkQ 2 ?_
        refine tkQ 3 ?_
        refine tkQ 4 ?_
        refine tkQ 5 ?_
        refine tkQ 6 ?_
        refine tkQ 7 ?_
        refine tkQ 8 ?_
        refine tkQ 9 ?_
        refine tk1 10 ?_
        refine Drawn.Step.call tkL keyY ?_
        rintro e' w10 ⟨rfl,n2',P2,hn2,hS10,hPs,hO10⟩
        have hO9d:Out (fun b=>b=Y.pm) W9 w10:=(Out.refl _ W9).drew.trans hO10
        have hA10:=hA9.out (M:=fun b=>b=Y.pm) Z3f hO9d
        have hid10:w10.cell? ⟨R,q + k * 17 + 5,none⟩=some (.int .i64 x.ld.id):=(Out.cell hO9d (q + k * 17 + 5) lR9 Z3f).trans hid
        have B10:=B9.out (M:=fun b=>b=Y.pm) n1 hO9d
        have hx10:Out (fun b=>b=Y.pm∨b=R) W9 w10∧w10.cell? ⟨R,q + k * 17 + 5,none⟩=some (.int .i64 x.ld.id):=⟨hO9d.mono fun b _ h => .inl h,hid10⟩
        refine ⟨_,rfl,fun _=>hx10,?_⟩
        (try simp only [tkp,tka,tkz,tks])
        refine tkQ 11 ?_
        refine tkQ 12 ?_
        refine tk1 13 ?_
        refine Drawn.Step.skip (exec_store_at siz_ld (.tmp 74) (.tmp 72) rfl rfl rfl hA10 (ldc_size ly) HFI.out (ldc_one ly)) ?_
        have hA11:At (w10.setRow R (splice cs' (q + k * 17 + 5) (ldc ly))) R (.cells (splice cs' (q + k * 17 + 5) (ldc ly)) 203):=At.setRow hA10 _
        have hO11:Out (fun b=>b=R) w10 (w10.setRow R (splice cs' (q + k * 17 + 5) (ldc ly))):=Out.setRow (M:=fun b=>b=R) (Out.refl _ _) rfl _
        have hid11:(w10.setRow R (splice cs' (q + k * 17 + 5) (ldc ly))).cell? ⟨R,q + k * 17 + 5,none⟩=some (.int .i64 x.ld.id):=by
         exact Z1v
        refine ⟨fun _=>⟨(hO9d.mono fun b _ h => .inl h).trans (hO11.mono fun b _ h => .inr h),hid11⟩,?_⟩
        (try simp only [tkp,tka,tkz,tks])
        refine tkE ?_
        have hPR2:¬ P2 R:=fun h=>hPR' (hPs R (by simpa using lR9) h)
        have hput:=hC.out.1.putLd hkc ly
        rw [chg_get _ _ hkx,HX.out] at hput
        have hC11:Hid (ISub (splice cs' (q + k * 17 + 5) (ldc ly)) q (chg (strF B f r0 r1 high) xs (k + 1))∧ISame q m cs (splice cs' (q + k * 17 + 5) (ldc ly))):=Lib.hid ⟨by
         rw [← chg_succ _ _ hkx,HX.out,HSF2.out]
         exact hput.1,hC.out.2.trans (by have:=hput.2;rw [chg_length,HM.out] at this;exact this)⟩
        have hS11:=hS10.own (M:=fun b=>b=R) hO11 fun b hb h=>by subst h;exact ⟨hPR2,hR1⟩
        have hO12:Out (fun b=>b=Y.pm∨b=R) w (w10.setRow R (splice cs' (q + k * 17 + 5) (ldc ly))):=(hO9.trans (hO9d.mono fun b _ h => .inl h)).trans (hO11.mono fun b _ h => .inr h)
        have B11:=B10.out (M:=fun b=>b=R) n2 hO11
        have hPw2:∀ b,b≤w.heap.size→P2 b→P b:=fun b hb h=>hPn b hb (hPs b (by simp only [World.size_drew];omega) h)
        generalize w10.setRow R (splice cs' (q + k * 17 + 5) (ldc ly))=w11 at *
        generalize splice cs' (q + k * 17 + 5) (ldc ly)=cs2 at *
        clear hx hput hA10 hO11 hid11 hid10 B10 B9 hA9 hS9 hO9 hO9d hO10 hid AT l0 c0_0 c0_1 lT cT0 cT1 hPs hS10
        go_wp2
        go_roundw
        case rel=>exact ⟨k + 1,n2',P2,cs2,by omega,by go_num,by omega,hS11,hPR2,hPw2,hA11,hC11,B11,hO12⟩
        case measure=>simp [intOf];omega
  · obtain rfl:k=m:=by omega
    go_wp2
    go_end0
    refine ⟨rfl,n',P',cs',by rw [← HM.out] at hn' ⊢; exact hn',hSr,hPR',fun b hb h=>hPn b Z3f h,hAr,?_,hC.out.2,hO⟩
    have:=hC.out.1
    rw [← HM.out,chg_all] at this
    exact this
end
theorem jacross_any (kind s room:Int) (w:World):Calls Tryz.prog 152 #[.int .i64 kind,.int .i64 s,.int .i64 room] w fun e w'=>e = .returned (.int .i64 (Ju.across kind s room))∧w=w':=by
 by_cases h2:kind=2
 · subst h2
   have Hr:Hid (Ju.across 2 s room=Fx.div (Fx.sub room s) 2):=Lib.hid (by unfold Ju.across;simp)
   exact Z1t
 · by_cases h3:kind=3
   · subst h3
     have Hr:Hid (Ju.across 3 s room=Fx.sub room s):=Lib.hid (by unfold Ju.across;simp)
     exact Z1t
   · have Hr:Hid (Ju.across kind s room=0):=Lib.hid (by unfold Ju.across;rw [if_neg h2,if_neg h3])
     have g2:(kind == 2)=false:=by simp [h2]
     have g3:(kind == 3)=false:=by simp [h3]
     exact Z1t
theorem shar_any (left p s q k:Int) (n b1 b2 b3 b4:Nat) (w:World) (c1:w.cell? ⟨b1,0,none⟩=some (.int .i64 left)) (c2:w.cell? ⟨b2,0,none⟩=some (.int .i64 p)) (c3:w.cell? ⟨b3,0,none⟩=some (.int .i64 s)) (c4:w.cell? ⟨b4,0,none⟩=some (.int .i64 q)) (p0:0≤p) (p1:p≤1) (s0:0≤s) (s2:s≤2) (k0:0≤k) (k1:k≤100000) :
  Calls Tryz.prog 210 #[.int .i64 k,.pointer (some ⟨b1,0,none⟩),.pointer (some ⟨b2,0,none⟩),.pointer (some ⟨b3,0,none⟩),.pointer (some ⟨b4,0,none⟩)] w fun e w'=>e = .returned (.int .i64 (Ju.fr left p s q k))∧Below w.heap.size w w':=by
 have l1:b1<w.heap.size:=World.block_lt_of_cell? _ _ c1
 have l2:b2<w.heap.size:=World.block_lt_of_cell? _ _ c2
 have l3:b3<w.heap.size:=World.block_lt_of_cell? _ _ c3
 have l4:b4<w.heap.size:=World.block_lt_of_cell? _ _ c4
 obtain ⟨m1,m2⟩:0≤s * k∧s * k≤2 * 100000:=Fx.mul_bd s0 s2 k0 k1
 have hw1:IntKind.i64.wrap (s * k)=s * k:=IntWalk.i64_in _ Z3f
 have hw2:IntKind.i64.wrap (p + s * k)=p + s * k:=IntWalk.i64_in _ Z3f
 go_enter Tryz.func210,Tryz.ntmps210
 go_upto_region 1 with (fail)
 refine sqt ?_
 (repeat (first | refine sqk ?_ | refine sqc ?_ (hc:=by intro w2 hS;first | with_reducible exact qaE hS (mul_any _ _ _) | with_reducible exact qaE hS (div_any _ _ _)) | refine sqv ?_))
 refine Drawn.seq_end ?_;intro w2 hS
 go_wp2
 go_ret
 exact ⟨rfl,hS⟩
structure Boxed (w:World) (b1 b2 b3 b4:Nat) (left p s q:Int):Prop where
 a1:At w b1 (.cells #[.int .i64 left] 3)
 a2:At w b2 (.cells #[.int .i64 p] 3)
 a3:At w b3 (.cells #[.int .i64 s] 3)
 a4:At w b4 (.cells #[.int .i64 q] 3)
 n12:b1≠b2
 n13:b1≠b3
 n14:b1≠b4
 n23:b2≠b3
 n24:b2≠b4
 n34:b3≠b4
theorem Boxed.keep {w w':World} {b1 b2 b3 b4:Nat} {left p s q:Int} (h:Boxed w b1 b2 b3 b4 left p s q) (hb:Below w.heap.size w w'):Boxed w' b1 b2 b3 b4 left p s q:=⟨h.a1.keep hb,h.a2.keep hb,h.a3.keep hb,h.a4.keep hb,h.n12,h.n13,h.n14,h.n23,h.n24,h.n34⟩
theorem Boxed.put2 {w:World} {b1 b2 b3 b4:Nat} {left p s q:Int} (h:Boxed w b1 b2 b3 b4 left p s q) (x:Int):Boxed (w.setCell ⟨b2,0,none⟩ (.int .i64 x)) b1 b2 b3 b4 left x s q :=
 ⟨h.a1.off h.n12 _ _,h.a2.set 0 _,h.a3.off h.n23.symm _ _,h.a4.off h.n24.symm _ _,h.n12,h.n13,h.n14,h.n23,h.n24,h.n34⟩
theorem Boxed.put3 {w:World} {b1 b2 b3 b4:Nat} {left p s q:Int} (h:Boxed w b1 b2 b3 b4 left p s q) (x:Int):Boxed (w.setCell ⟨b3,0,none⟩ (.int .i64 x)) b1 b2 b3 b4 left p x q :=
 ⟨h.a1.off h.n13 _ _,h.a2.off h.n23 _ _,h.a3.set 0 _,h.a4.off h.n34.symm _ _,h.n12,h.n13,h.n14,h.n23,h.n24,h.n34⟩
theorem Boxed.put4 {w:World} {b1 b2 b3 b4:Nat} {left p s q:Int} (h:Boxed w b1 b2 b3 b4 left p s q) (x:Int):Boxed (w.setCell ⟨b4,0,none⟩ (.int .i64 x)) b1 b2 b3 b4 left p s x :=
 ⟨h.a1.off h.n14 _ _,h.a2.off h.n24 _ _,h.a3.off h.n34 _ _,h.a4.set 0 _,h.n12,h.n13,h.n14,h.n23,h.n24,h.n34⟩
theorem boxed_made (w:World) (left:Int):Boxed ((((w.alloc (.cells #[.int .i64 left] 3)).alloc (.cells #[.int .i64 0] 3)).alloc (.cells #[.int .i64 0] 3)).alloc (.cells #[.int .i64 1] 3)) w.heap.size (w.heap.size + 1) (w.heap.size + 1 + 1) (w.heap.size + 1 + 1 + 1) left 0 0 1 :=
 ⟨At.alloc (At.alloc (At.alloc (At.new _ _) _) _) _,At.alloc (At.alloc (At.new' _ Z3t) _) _,At.alloc (At.new' _ Z3t) _,At.new' _ Z3t,by omega,by omega,by omega,by omega,by omega,by omega⟩
theorem boxed_below (w:World) (a b c d:Obj):Below w.heap.size w ((((w.alloc a).alloc b).alloc c).alloc d) :=
 Below.alloc' (Below.alloc' (Below.alloc' (Below.alloc' (Below.refl _ _) _) _) _) _
theorem Boxed.cells {w:World} {b1 b2 b3 b4:Nat} {left p s q:Int} (h:Boxed w b1 b2 b3 b4 left p s q) :
  w.cell? ⟨b1,0,none⟩=some (.int .i64 left)∧w.cell? ⟨b2,0,none⟩=some (.int .i64 p)∧w.cell? ⟨b3,0,none⟩=some (.int .i64 s)∧w.cell? ⟨b4,0,none⟩=some (.int .i64 q) :=
 ⟨h.a1.cell 0,h.a2.cell 0,h.a3.cell 0,h.a4.cell 0⟩
theorem Boxed.thaws {w:World} {b1 b2 b3 b4:Nat} {left p s q:Int} (h:Boxed w b1 b2 b3 b4 left p s q) :
  w.frozen? ⟨b2,0,none⟩=false∧w.frozen? ⟨b3,0,none⟩=false∧w.frozen? ⟨b4,0,none⟩=false∧b2<w.heap.size∧b3<w.heap.size∧b4<w.heap.size :=
 ⟨h.a2.thaw 0,h.a3.thaw 0,h.a4.thaw 0,h.a2.lt,h.a3.lt,h.a4.lt⟩
theorem share_one (left n:Int) (w:World) (n0:0≤n) (n1:n≤100000):Calls Tryz.prog 191 #[.int .i64 1,.int .i64 left,.int .i64 n] w fun e w'=>(∃ b1 b2 b3 b4,e = .returned (.func (.func 210) #[] #[.pointer (some ⟨b1,0,none⟩),.pointer (some ⟨b2,0,none⟩),.pointer (some ⟨b3,0,none⟩),.pointer (some ⟨b4,0,none⟩)])∧Boxed w' b1 b2 b3 b4 left (1) (0) (1))∧Below w.heap.size w w':=by
 have hmf:∀ (fn:Fn) (first cap:Array Value) (w:World),(Instr.makeFunc fn first cap).run Tryz.prog w = .ok (.func fn first cap) w:=fun _ _ _ _=>rfl
 go_enter Tryz.func191,Tryz.ntmps191
 go_upto_region 2 with (fail)
 generalize hW:World.alloc (World.alloc (World.alloc (World.alloc _ _) _) _) _=W1
 have hX:Boxed W1 w.heap.size (w.heap.size + 1) (w.heap.size + 1 + 1) (w.heap.size + 1 + 1 + 1) left 0 0 1:=hW ▸ boxed_made w left
 have hB:Below w.heap.size w W1:=hW ▸ boxed_below w _ _ _ _
 clear hW
 obtain ⟨m2,m3,m4⟩:w.heap.size≤w.heap.size + 1∧w.heap.size≤w.heap.size + 1 + 1∧w.heap.size≤w.heap.size + 1 + 1 + 1:=⟨by omega,by omega,by omega⟩
 generalize w.heap.size + 1 + 1 + 1=b4 at *
 generalize w.heap.size + 1 + 1=b3 at *
 generalize w.heap.size + 1=b2 at *
 have HX:=Lib.hid hX
 obtain ⟨c1,c2,c3,c4⟩:=hX.cells
 obtain ⟨z2,z3,z4,l2,l3,l4⟩:=hX.thaws
 have l1:=hX.a1.lt
 have n23:=hX.n23
 have n24:=hX.n24
 have n34:=hX.n34
 have n32:=hX.n23.symm
 have n42:=hX.n24.symm
 have n43:=hX.n34.symm
 clear hX
 go_wp2
 go_ret
 exact ⟨⟨_,_,_,_,rfl,(HX.out.put2 (1))⟩,(Below.setCell hB m2 _)⟩
theorem share_two (left n:Int) (w:World) (n0:0≤n) (n1:n≤100000):Calls Tryz.prog 191 #[.int .i64 2,.int .i64 left,.int .i64 n] w fun e w'=>(∃ b1 b2 b3 b4,e = .returned (.func (.func 210) #[] #[.pointer (some ⟨b1,0,none⟩),.pointer (some ⟨b2,0,none⟩),.pointer (some ⟨b3,0,none⟩),.pointer (some ⟨b4,0,none⟩)])∧Boxed w' b1 b2 b3 b4 left (1) (0) (2))∧Below w.heap.size w w':=by
 have hmf:∀ (fn:Fn) (first cap:Array Value) (w:World),(Instr.makeFunc fn first cap).run Tryz.prog w = .ok (.func fn first cap) w:=fun _ _ _ _=>rfl
 exact Zj
theorem share_three (left n:Int) (w:World) (n0:0≤n) (n1:n≤100000) (h1:0<left) (h2:1<n):Calls Tryz.prog 191 #[.int .i64 3,.int .i64 left,.int .i64 n] w fun e w'=>(∃ b1 b2 b3 b4,e = .returned (.func (.func 210) #[] #[.pointer (some ⟨b1,0,none⟩),.pointer (some ⟨b2,0,none⟩),.pointer (some ⟨b3,0,none⟩),.pointer (some ⟨b4,0,none⟩)])∧Boxed w' b1 b2 b3 b4 left (0) (1) (n - 1))∧Below w.heap.size w w':=by
 have hmf:∀ (fn:Fn) (first cap:Array Value) (w:World),(Instr.makeFunc fn first cap).run Tryz.prog w = .ok (.func fn first cap) w:=fun _ _ _ _=>rfl
 go_enter Tryz.func191,Tryz.ntmps191
 go_upto_region 2 with (fail)
 generalize hW:World.alloc (World.alloc (World.alloc (World.alloc _ _) _) _) _=W1
 have hX:Boxed W1 w.heap.size (w.heap.size + 1) (w.heap.size + 1 + 1) (w.heap.size + 1 + 1 + 1) left 0 0 1:=hW ▸ boxed_made w left
 have hB:Below w.heap.size w W1:=hW ▸ boxed_below w _ _ _ _
 clear hW
 obtain ⟨m2,m3,m4⟩:w.heap.size≤w.heap.size + 1∧w.heap.size≤w.heap.size + 1 + 1∧w.heap.size≤w.heap.size + 1 + 1 + 1:=⟨by omega,by omega,by omega⟩
 generalize w.heap.size + 1 + 1 + 1=b4 at *
 generalize w.heap.size + 1 + 1=b3 at *
 generalize w.heap.size + 1=b2 at *
 have HX:=Lib.hid hX
 obtain ⟨c1,c2,c3,c4⟩:=hX.cells
 obtain ⟨z2,z3,z4,l2,l3,l4⟩:=hX.thaws
 have l1:=hX.a1.lt
 have n23:=hX.n23
 have n24:=hX.n24
 have n34:=hX.n34
 have n32:=hX.n23.symm
 have n42:=hX.n24.symm
 have n43:=hX.n34.symm
 clear hX
 go_wp2
 go_ret
 exact ⟨⟨_,_,_,_,rfl,((HX.out.put3 (1)).put4 (n - 1))⟩,(Below.setCell (Below.setCell hB m3 _) m4 _)⟩
theorem share_three_no (left n:Int) (w:World) (n0:0≤n) (n1:n≤100000) (h1:left≤0):Calls Tryz.prog 191 #[.int .i64 3,.int .i64 left,.int .i64 n] w fun e w'=>(∃ b1 b2 b3 b4,e = .returned (.func (.func 210) #[] #[.pointer (some ⟨b1,0,none⟩),.pointer (some ⟨b2,0,none⟩),.pointer (some ⟨b3,0,none⟩),.pointer (some ⟨b4,0,none⟩)])∧Boxed w' b1 b2 b3 b4 left (0) (0) (1))∧Below w.heap.size w w':=by
 have hmf:∀ (fn:Fn) (first cap:Array Value) (w:World),(Instr.makeFunc fn first cap).run Tryz.prog w = .ok (.func fn first cap) w:=fun _ _ _ _=>rfl
 have e1:decide (0<left)=false:=by simp;omega
 exact Zn
theorem share_three_one (left n:Int) (w:World) (n0:0≤n) (n1:n≤100000) (h1:0<left) (h2:n≤1):Calls Tryz.prog 191 #[.int .i64 3,.int .i64 left,.int .i64 n] w fun e w'=>(∃ b1 b2 b3 b4,e = .returned (.func (.func 210) #[] #[.pointer (some ⟨b1,0,none⟩),.pointer (some ⟨b2,0,none⟩),.pointer (some ⟨b3,0,none⟩),.pointer (some ⟨b4,0,none⟩)])∧Boxed w' b1 b2 b3 b4 left (0) (0) (1))∧Below w.heap.size w w':=by
 have hmf:∀ (fn:Fn) (first cap:Array Value) (w:World),(Instr.makeFunc fn first cap).run Tryz.prog w = .ok (.func fn first cap) w:=fun _ _ _ _=>rfl
 have e2:decide (1<n)=false:=by simp;omega
 exact Zn
theorem share_four (left n:Int) (w:World) (n0:0≤n) (n1:n≤100000) (h1:0<left):Calls Tryz.prog 191 #[.int .i64 4,.int .i64 left,.int .i64 n] w fun e w'=>(∃ b1 b2 b3 b4,e = .returned (.func (.func 210) #[] #[.pointer (some ⟨b1,0,none⟩),.pointer (some ⟨b2,0,none⟩),.pointer (some ⟨b3,0,none⟩),.pointer (some ⟨b4,0,none⟩)])∧Boxed w' b1 b2 b3 b4 left (1) (2) (2 * n))∧Below w.heap.size w w':=by
 have hmf:∀ (fn:Fn) (first cap:Array Value) (w:World),(Instr.makeFunc fn first cap).run Tryz.prog w = .ok (.func fn first cap) w:=fun _ _ _ _=>rfl
 go_enter Tryz.func191,Tryz.ntmps191
 go_upto_region 2 with (fail)
 generalize hW:World.alloc (World.alloc (World.alloc (World.alloc _ _) _) _) _=W1
 have hX:Boxed W1 w.heap.size (w.heap.size + 1) (w.heap.size + 1 + 1) (w.heap.size + 1 + 1 + 1) left 0 0 1:=hW ▸ boxed_made w left
 have hB:Below w.heap.size w W1:=hW ▸ boxed_below w _ _ _ _
 clear hW
 obtain ⟨m2,m3,m4⟩:w.heap.size≤w.heap.size + 1∧w.heap.size≤w.heap.size + 1 + 1∧w.heap.size≤w.heap.size + 1 + 1 + 1:=⟨by omega,by omega,by omega⟩
 generalize w.heap.size + 1 + 1 + 1=b4 at *
 generalize w.heap.size + 1 + 1=b3 at *
 generalize w.heap.size + 1=b2 at *
 have HX:=Lib.hid hX
 obtain ⟨c1,c2,c3,c4⟩:=hX.cells
 obtain ⟨z2,z3,z4,l2,l3,l4⟩:=hX.thaws
 have l1:=hX.a1.lt
 have n23:=hX.n23
 have n24:=hX.n24
 have n34:=hX.n34
 have n32:=hX.n23.symm
 have n42:=hX.n24.symm
 have n43:=hX.n34.symm
 clear hX
 go_wp2
 go_ret
 exact ⟨⟨_,_,_,_,rfl,(((HX.out.put2 (1)).put3 (2)).put4 (2 * n))⟩,(Below.setCell (Below.setCell (Below.setCell hB m2 _) m3 _) m4 _)⟩
theorem share_four_no (left n:Int) (w:World) (n0:0≤n) (n1:n≤100000) (h1:left≤0):Calls Tryz.prog 191 #[.int .i64 4,.int .i64 left,.int .i64 n] w fun e w'=>(∃ b1 b2 b3 b4,e = .returned (.func (.func 210) #[] #[.pointer (some ⟨b1,0,none⟩),.pointer (some ⟨b2,0,none⟩),.pointer (some ⟨b3,0,none⟩),.pointer (some ⟨b4,0,none⟩)])∧Boxed w' b1 b2 b3 b4 left (1) (0) (2))∧Below w.heap.size w w':=by
 exact Z2o
theorem share_five (left n:Int) (w:World) (n0:0≤n) (n1:n≤100000) (h1:0<left):Calls Tryz.prog 191 #[.int .i64 5,.int .i64 left,.int .i64 n] w fun e w'=>(∃ b1 b2 b3 b4,e = .returned (.func (.func 210) #[] #[.pointer (some ⟨b1,0,none⟩),.pointer (some ⟨b2,0,none⟩),.pointer (some ⟨b3,0,none⟩),.pointer (some ⟨b4,0,none⟩)])∧Boxed w' b1 b2 b3 b4 left (1) (1) (n + 1))∧Below w.heap.size w w':=by
 have hmf:∀ (fn:Fn) (first cap:Array Value) (w:World),(Instr.makeFunc fn first cap).run Tryz.prog w = .ok (.func fn first cap) w:=fun _ _ _ _=>rfl
 go_enter Tryz.func191,Tryz.ntmps191
 go_upto_region 2 with (fail)
 generalize hW:World.alloc (World.alloc (World.alloc (World.alloc _ _) _) _) _=W1
 have hX:Boxed W1 w.heap.size (w.heap.size + 1) (w.heap.size + 1 + 1) (w.heap.size + 1 + 1 + 1) left 0 0 1:=hW ▸ boxed_made w left
 have hB:Below w.heap.size w W1:=hW ▸ boxed_below w _ _ _ _
 clear hW
 obtain ⟨m2,m3,m4⟩:w.heap.size≤w.heap.size + 1∧w.heap.size≤w.heap.size + 1 + 1∧w.heap.size≤w.heap.size + 1 + 1 + 1:=⟨by omega,by omega,by omega⟩
 generalize w.heap.size + 1 + 1 + 1=b4 at *
 generalize w.heap.size + 1 + 1=b3 at *
 generalize w.heap.size + 1=b2 at *
 have HX:=Lib.hid hX
 obtain ⟨c1,c2,c3,c4⟩:=hX.cells
 obtain ⟨z2,z3,z4,l2,l3,l4⟩:=hX.thaws
 have l1:=hX.a1.lt
 have n23:=hX.n23
 have n24:=hX.n24
 have n34:=hX.n34
 have n32:=hX.n23.symm
 have n42:=hX.n24.symm
 have n43:=hX.n34.symm
 clear hX
 go_wp2
 go_ret
 exact ⟨⟨_,_,_,_,rfl,(((HX.out.put2 (1)).put3 (1)).put4 (n + 1))⟩,(Below.setCell (Below.setCell (Below.setCell hB m2 _) m3 _) m4 _)⟩
theorem share_five_no (left n:Int) (w:World) (n0:0≤n) (n1:n≤100000) (h1:left≤0):Calls Tryz.prog 191 #[.int .i64 5,.int .i64 left,.int .i64 n] w fun e w'=>(∃ b1 b2 b3 b4,e = .returned (.func (.func 210) #[] #[.pointer (some ⟨b1,0,none⟩),.pointer (some ⟨b2,0,none⟩),.pointer (some ⟨b3,0,none⟩),.pointer (some ⟨b4,0,none⟩)])∧Boxed w' b1 b2 b3 b4 left (1) (0) (2))∧Below w.heap.size w w':=by
 exact Z2o
theorem share_else (kind left n:Int) (w:World) (n0:0≤n) (n1:n≤100000) (h1:¬ kind=1) (h2:¬ kind=2) (h3:¬ kind=3) (h4:¬ kind=4) (h5:¬ kind=5):Calls Tryz.prog 191 #[.int .i64 kind,.int .i64 left,.int .i64 n] w fun e w'=>(∃ b1 b2 b3 b4,e = .returned (.func (.func 210) #[] #[.pointer (some ⟨b1,0,none⟩),.pointer (some ⟨b2,0,none⟩),.pointer (some ⟨b3,0,none⟩),.pointer (some ⟨b4,0,none⟩)])∧Boxed w' b1 b2 b3 b4 left (0) (0) (1))∧Below w.heap.size w w':=by
 have hmf:∀ (fn:Fn) (first cap:Array Value) (w:World),(Instr.makeFunc fn first cap).run Tryz.prog w = .ok (.func fn first cap) w:=fun _ _ _ _=>rfl
 have g1:(kind == 1)=false:=by simp [h1]
 have g2:(kind == 2)=false:=by simp [h2]
 have g3:(kind == 3)=false:=by simp [h3]
 have g4:(kind == 4)=false:=by simp [h4]
 have g5:(kind == 5)=false:=by simp [h5]
 exact Zn
theorem jshare_any (kind left n:Int) (w:World) (n0:0≤n) (n1:n≤100000):Calls Tryz.prog 191 #[.int .i64 kind,.int .i64 left,.int .i64 n] w fun e w'=>(∃ b1 b2 b3 b4,e = .returned (.func (.func 210) #[] #[.pointer (some ⟨b1,0,none⟩),.pointer (some ⟨b2,0,none⟩),.pointer (some ⟨b3,0,none⟩),.pointer (some ⟨b4,0,none⟩)])∧Boxed w' b1 b2 b3 b4 left ((Ju.pq kind left n).1) ((Ju.pq kind left n).2.1) ((Ju.pq kind left n).2.2))∧Below w.heap.size w w':=by
 by_cases h1:kind=1
 · subst h1;exact share_one left n w n0 n1
 by_cases h2:kind=2
 · subst h2;exact share_two left n w n0 n1
 by_cases h3:kind=3
 · subst h3
   by_cases hl:0<left
   · by_cases hn:1<n
     · rw [show Ju.pq 3 left n=(0,1,n - 1) by unfold Ju.pq;simp [hl,hn]];exact share_three left n w n0 n1 hl hn
     · rw [show Ju.pq 3 left n=(0,0,1) by unfold Ju.pq;simp [hn]];exact share_three_one left n w n0 n1 hl Z3f
   · rw [show Ju.pq 3 left n=(0,0,1) by unfold Ju.pq;simp [hl]];exact share_three_no left n w n0 n1 Z3f
 by_cases h4:kind=4
 · subst h4
   by_cases hl:0<left
   · rw [show Ju.pq 4 left n=(1,2,2 * n) by unfold Ju.pq;simp [hl]];exact share_four left n w n0 n1 hl
   · rw [show Ju.pq 4 left n=(1,0,2) by unfold Ju.pq;simp [hl]];exact share_four_no left n w n0 n1 Z3f
 by_cases h5:kind=5
 · subst h5
   by_cases hl:0<left
   · rw [show Ju.pq 5 left n=(1,1,n + 1) by unfold Ju.pq;simp [hl]];exact share_five left n w n0 n1 hl
   · rw [show Ju.pq 5 left n=(1,0,2) by unfold Ju.pq;simp [hl]];exact share_five_no left n w n0 n1 Z3f
 rw [show Ju.pq kind left n=(0,0,1) by unfold Ju.pq;simp [h1,h2,h3,h4,h5]]
 exact share_else kind left n w n0 n1 h1 h2 h3 h4 h5
end Go.Proofs.YteggipnplbkijaaGreat.Fix
