/- Boxes laid by the program: what its functions do, part 28. -/
import Derived.Test.YteggipnplbkijaaGreatWK
import Derived.Test.YteggipnplbkijaaGreatW02
import Derived.Test.YteggipnplbkijaaGreatW17
import Derived.Test.YteggipnplbkijaaGreatW18
import Derived.Test.YteggipnplbkijaaGreatW23
import Derived.Test.YteggipnplbkijaaGreatW24
import Derived.Test.YteggipnplbkijaaGreatW26
import Derived.Test.YteggipnplbkijaaGreatW27
set_option linter.unusedVariables false
set_option linter.unusedSimpArgs false
set_option linter.unusedSectionVars false
set_option maxRecDepth 100000
namespace Go.Proofs.YteggipnplbkijaaGreat.Fix
open Go.ChangeShapes Go.WideShapes Go.ChangeAt Go.RowKit
structure Wk (B:Int→Fw.Bx) (F:Int→Nat) (D:Int→Prop):Prop where
 down:∀ z,D z→∀ k ∈ (B z).fl,D k∧F z=F k + 1
 len:∀ z,D z→(B z).fl.length≤64
 kind:∀ z,D z→(B z).sty.c 0=0∨(B z).sty.c 0=1∨(B z).sty.c 0=2
 deep:∀ z,D z→F z≤1000
theorem KMp.lt {X:World} {b:Nat} (h:KMp X b):b<X.heap.size:=by
 obtain ⟨n,g,h1,_⟩:=h
 exact h1.lt
section
variable {Y:Lyt} {B:Int→Fw.Bx} {F:Int→Nat} {D:Int→Prop}
def InOK (Y:Lyt) (B:Int→Fw.Bx) (F:Int→Nat) (D:Int→Prop) (f:Nat):Prop :=
 ∀ (z i0 i1:Int) (w:World) (n:Nat) (P:Nat→Prop),D z→F z=f→Wf i0→Wf i1→RO w Y B D KMp→Kp Y B F n P w→(∀ b,P b→b<w.heap.size)→n + Fw.cst B f z<maxLen →
  Calls Tryz.prog 72 #[.pointer (some ⟨Y.lb,0,none⟩),.agg #[.int .i64 z,.int .i64 i0,.int .i64 i1]] w fun e w' =>
   ∃ v n' P',e = .returned v∧CV w' P' v (Fw.cont B f z i0 i1)∧n'≤n + Fw.cst B f z∧Kp Y B F n' P' w'∧(∀ b,P' b→P b∨w.heap.size≤b)∧Out (fun b=>b=Y.pm) w w'
theorem cst_pos (B:Int→Fw.Bx) (f:Nat) (z:Int):1≤Fw.cst B f z:=by
 cases f <;> simp only [Fw.cst] <;> omega
set_option maxHeartbeats 4000000 in
theorem in_ok (W:Wk B F D) (f:Nat) (hL:∀ f',f=f' + 1→LayOK Y B F D KMp f'):InOK Y B F D f:=by
 intro z i0 i1 w n P hz hf h0 h1 hR hKp hP hn
 have hc1:=cst_pos B f z
 by_cases hne:(B z).fl=[]
 · have hc:Fw.cont B f z i0 i1=([],(B z).sty.c 54):=by
    cases f with
    | zero=>rfl
    | succ f=>simp only [Fw.cont];rw [if_pos hne]
   refine (finside_none KMp.keep z i0 i1 hz w hR hne).mono fun e w' ⟨he,hb⟩ => ?_
   refine ⟨_,n,P,he,?_,by omega,hKp.out (M:=fun _=>False) (Out.of_below hb) fun _ _ q=>q,fun b h => .inl h,Out.of_below hb⟩
   rw [hc]
   exact ⟨none,0,rfl,.inl rfl⟩
 · obtain ⟨f',rfl⟩:∃ f',f=f' + 1:=by
    cases hfl:(B z).fl with
    | nil=>exact absurd hfl hne
    | cons k l =>
      have:=(W.down z hz k (by rw [hfl];simp)).2
      exact ⟨F k,by omega⟩
   have hdn:∀ k ∈ (B z).fl,D k∧F k=f':=fun k hk=>by
    have:=W.down z hz k hk
    exact ⟨this.1,by omega⟩
   obtain ⟨hpP,g,hg,hgv⟩:=hKp
   have hKp:Kp Y B F n P w:=⟨hpP,g,hg,hgv⟩
   have hzw:=hR.wf z hz
   cases hgk:g (klit z i0 i1) with
   | some v =>
     have hcv:=hgv z i0 i1 v hzw h0 h1 hgk
     rw [hf] at hcv
     obtain ⟨A,cap,rfl,hld⟩:=hcv
     refine (finside_kept KMp.keep z i0 i1 hz w hR n h0 h1 hne g hg _ _ _ _ hgk).mono fun e w' ⟨he,hb⟩ => ?_
     exact ⟨_,n,P,he,⟨A,cap,rfl,hld.out (M:=fun _=>False) (Out.of_below hb) (fun _ _ q=>q) fun _ q=>q⟩,by omega,hKp.out (M:=fun _=>False) (Out.of_below hb) fun _ _ q=>q,fun b h => .inl h,Out.of_below hb⟩
   | none =>
     obtain ⟨xs,hxs⟩:∃ l,(Fw.kind B (Fw.lay B f') f' z i0 i1).1=l:=⟨_,rfl⟩
     obtain ⟨hi,hhi⟩:∃ l,(Fw.kind B (Fw.lay B f') f' z i0 i1).2=l:=⟨_,rfl⟩
     have hk:Fw.kind B (Fw.lay B f') f' z i0 i1=(xs,hi):=by rw [← hxs, ← hhi]
     have hids:xs.map (·.id)=(B z).fl:=by rw [← hxs];exact Fw.kind_ids B f' z i0 i1
     have hcn:Fw.cont B (F z) z i0 i1=(xs.map (Fw.mv B i0 i1),hi):=by
      rw [hf]
      simp only [Fw.cont]
      rw [if_neg hne]
      show ((Fw.kind B (Fw.lay B f') f' z i0 i1).1.map (Fw.mv B i0 i1),(Fw.kind B (Fw.lay B f') f' z i0 i1).2)=_
      rw [hxs,hhi]
     have hDx:∀ x ∈ xs,D x.id:=fun x hx=>(hdn x.id (by rw [← hids];exact List.mem_map_of_mem hx)).1
     have hlx:xs.length=(B z).fl.length:=by rw [← hids,List.length_map]
     have hl64:=W.len z hz
     have hf1000:f'≤1000:=by have:=W.deep z hz;omega
     have hcst:Fw.cst B (f' + 1) z=1 + 3 * ((B z).fl.map (Fw.cst B f')).sum:=rfl
     rw [hcst] at hn hc1 ⊢
     have hxne:xs≠[]:=fun e=>by
      rw [e] at hids
      exact hne hids.symm
     have key:∀ (kf:FuncId),(∀ (args:Array Value) (X:World),(callFunc kf args).run Tryz.prog X = .ok (.enter kf args) X)→(∀ X,KMp X Y.km→(Instr.lookup 97 (.map (some Y.km)) (.int .i64 ((B z).sty.c 0)) false).run Tryz.prog X = .ok (.func (.func kf) #[] #[]) X) →
       (∀ X,RO X Y B D KMp→Kp Y B F n P X→(∀ b,P b→b<X.heap.size)→Calls Tryz.prog kf #[.pointer (some ⟨Y.lb,0,none⟩),.agg #[.int .i64 z,.int .i64 i0,.int .i64 i1]] X fun e X'=>∃ R cap cs P' n',e = .returned (.agg #[.slice (some ⟨R,0,none⟩) xs.length cap,.int .i64 hi])∧X.heap.size≤R∧At X' R (.cells cs 94)∧RowC cs xs∧n'≤n + 2 * ((B z).fl.map (Fw.cst B f')).sum∧Kp Y B F n' P' X'∧(∀ b,P' b→P b∨X.heap.size≤b)∧¬ P' R∧Out (fun b=>b=Y.pm) X X') →
       Calls Tryz.prog 72 #[.pointer (some ⟨Y.lb,0,none⟩),.agg #[.int .i64 z,.int .i64 i0,.int .i64 i1]] w fun e w' =>
        ∃ v n' P',e = .returned v∧CV w' P' v (Fw.cont B (f' + 1) z i0 i1)∧n'≤n + (1 + 3 * ((B z).fl.map (Fw.cst B f')).sum)∧Kp Y B F n' P' w'∧(∀ b,P' b→P b∨w.heap.size≤b)∧Out (fun b=>b=Y.pm) w w':=fun kf hcf hkf hkind =>
      (finside_new KMp.keep KMp.out F z i0 i1 hz w hR n P hKp hP h0 h1 hne kf hcf hR.kinds.lt hkf xs hi hcn hDx (2 * ((B z).fl.map (Fw.cst B f')).sum) Z3f Z3f g hg hgk hkind).mono fun e w' ⟨v,P',n',h1,h2,h3,h4,h5,h6⟩=>⟨v,n',P',h1,by rw [hf] at h2;exact h2,by omega,h4,h5,h6⟩
     rcases W.kind z hz with hq | hq | hq
     · refine key 103 (fun _ _=>rfl) (fun X h=>h.look _ _ (.inl ⟨hq,rfl⟩)) fun X hRX hKX hPX => ?_
       refine fblock (hL f' rfl) KMp.keep KMp.out W.down (fun z hz=>Nat.le_trans (W.len z hz) Z3f) hf1000 hRX hRX.kinds.lt z i0 i1 hz hdn hne hl64 n hKX hPX Z3f xs hi ?_
       rw [← hk]
       unfold Fw.kind
       rw [if_neg Z3f,if_neg Z3f]
     · refine key 104 (fun _ _=>rfl) (fun X h=>h.look _ _ (.inr (.inl ⟨hq,rfl⟩))) fun X hRX hKX hPX => ?_
       refine frow (hL f' rfl) KMp.keep KMp.out hRX hRX.kinds.lt z i0 i1 hz hdn hne hl64 n hKX hPX Z3f xs hi ?_ hxne
       rw [← hk]
       unfold Fw.kind
       rw [if_pos hq]
     · refine key 105 (fun _ _=>rfl) (fun X h=>h.look _ _ (.inr (.inr ⟨hq,rfl⟩))) fun X hRX hKX hPX => ?_
       refine fcolumn (hL f' rfl) KMp.keep KMp.out hRX hRX.kinds.lt z i0 i1 hz hdn hne hl64 n hKX hPX Z3f xs hi ?_
       rw [← hk]
       unfold Fw.kind
       rw [if_neg Z3f,if_pos hq]
theorem lay_of_in (W:Wk B F D) (f:Nat) (hI:InOK Y B F D f):LayOK Y B F D KMp f:=by
 intro z r0 r1 t0 t1 w n P hz hf hR hKp hP hkm hn
 refine (flay_of (Iv:=fun P X=>Kp Y B F n P X∧∀ b,P b→b<X.heap.size) (Iv2:=fun P X=>∃ n',n'≤n + Fw.cst B f z∧Kp Y B F n' P X) KMp.keep
  (fun {P M X X'} h k hm=>⟨h.1.out k hm,fun b hb=>Nat.lt_of_lt_of_le (h.2 b hb) k.size⟩)
  (fun {P M X X'} h k hm=>by obtain ⟨n',h1,h2⟩:=h;exact ⟨n',h1,h2.out k hm⟩)
  (fun {P X} h=>⟨n,by omega,h.1⟩) P z r0 r1 t0 t1 hz w hR ⟨hKp,hP⟩ hP (Fw.cont B f) ?_).mono fun e w' ⟨he,⟨P',⟨n',h1,h2⟩,h3⟩,h4⟩=>⟨he,n',P',h1,h2,h3,h4⟩
 intro X i0 hRX hKX hi0
 have hb:=Fw.wth_bd (B z).sty 0 r0 r0 t0
 refine (hI z i0 (-1) X n P hz hf (by rw [wf_iff,hi0];omega) Z47 hRX hKX.1 hKX.2 hn).mono fun e X' ⟨v,n',P',he,hcv,hn',hK',hP',hO⟩ => ?_
 obtain ⟨A,cap,rfl,_⟩:=hcv
 exact ⟨⟨_,he⟩,⟨P',⟨n',hn',hK'⟩,hP'⟩,hO⟩
theorem both_ok (Y:Lyt) (W:Wk B F D):∀ f,InOK Y B F D f∧LayOK Y B F D KMp f:=by
 intro f
 induction f with
 | zero =>
   have h:=in_ok (Y:=Y) W 0 fun f' e=>by omega
   exact ⟨h,lay_of_in W 0 h⟩
 | succ f ih =>
   have h:=in_ok (Y:=Y) W (f + 1) fun f' e=>by obtain rfl:f=f':=Z3f;exact ih.2
   exact ⟨h,lay_of_in W (f + 1) h⟩
end
def spn (s:Re.St) (y:Nat) (ry r0:Int):Int:=if Fw.fxd s y ry=true∨Fw.inF s y 0 ry=false∨Fw.inF s y 1 ry=false then -1 else max (Fw.wr (Fw.wr (Fw.wr (ry - Fw.ins s y 0 ry) - Fw.ins s y 1 ry) - Fw.mgs s y r0)) 0
set_option maxHeartbeats 8000000 in
theorem fspan0 (b:Nat) (s:Re.St) (fl ap:Value) (ib:Bool) (r0 r1:Int) (w:World) (h:BxAt w b s fl ap ib):Calls Tryz.prog 109 #[.pointer (some ⟨b,0,none⟩),.int .i64 0,.agg #[.int .i64 r0,.int .i64 r1]] w fun x w'=>x = .returned (.int .i64 (spn s 0 r0 r0))∧Below w.heap.size w w':=by
 have i0:∀ (a b c d:Int) (w:World),(Instr.index 139 (.agg #[.int .i64 a,.int .i64 b,.int .i64 c,.int .i64 d]) (.int .i64 0)).run Tryz.prog w = .ok (.agg #[.int .i64 a,.int .i64 b]) w:=fun _ _ _ _ _=>by kernel_rfl
 have i1:∀ (a b c d:Int) (w:World),(Instr.index 139 (.agg #[.int .i64 a,.int .i64 b,.int .i64 c,.int .i64 d]) (.int .i64 1)).run Tryz.prog w = .ok (.agg #[.int .i64 c,.int .i64 d]) w:=fun _ _ _ _ _=>by kernel_rfl
 obtain ⟨ans,hans⟩:∃ a,spn s 0 r0 r0=a:=⟨_,rfl⟩
 rw [hans]
 have hfd:Fw.fxd s 0 r0=Fx.fixd (s.c 3) r0:=rfl
 unfold spn at hans
 rw [hfd] at hans
 have HANS:=Lib.hid hans
 clear hans hfd
 go_enter Tryz.func109,Tryz.ntmps109
 go_upto_region 1 with (fail)
 generalize hW:World.alloc _ _=W0
 have A0:At W0 w.heap.size (.cells #[.int .i64 r0,.int .i64 r1] 88):=hW ▸ At.new _ _
 have A2:BxAt W0 b s fl ap ib:=hW ▸ BxAt.alloc h _
 have hB:Below w.heap.size w W0:=hW ▸ Below.alloc' (Below.refl _ _) _
 clear hW h
 obtain ⟨l0,c0_0,c0_1⟩:=A0.two
 go_upto_region 2 with ((go_at_call 154;(with_reducible refine (finset00 b s fl ap ib r0 r1 _ A2).mono ?_);rintro e w3 ⟨rfl,hb⟩))
 replace A0:=A0.keep hb
 replace A2:=A2.keep hb
 replace hB:=Below.after2 hB (Nat.le_refl _) hb
 clear l0 c0_0 c0_1 hb
 obtain ⟨l0,c0_0,c0_1⟩:=A0.two
 go_upto_region 3 with ((go_at_call 154;(with_reducible refine (finset01 b s fl ap ib r0 r1 _ A2).mono ?_);rintro e w4 ⟨rfl,hb⟩))
 replace A0:=A0.keep hb
 replace A2:=A2.keep hb
 replace hB:=Below.after2 hB (Nat.le_refl _) hb
 clear l0 c0_0 c0_1 hb
 obtain ⟨l0,c0_0,c0_1⟩:=A0.two
 obtain ⟨l2,c2_0,c2_1,c2_2,c2_3,c2_4,c2_5,c2_6,c2_7⟩:=At.bx0 A2
 generalize Fw.ins s 0 0 r0=p0 at *
 generalize Fw.ins s 0 1 r0=p1 at *
 cases hfx:Fx.fixd (s.c 3) r0 with
 | true =>
   have E:Hid (-1=ans):=Lib.hid (by rw [← HANS.out,hfx];simp)
   clear HANS
   exact Zu
 | false =>
   cases hg0:Fw.inF s 0 0 r0 with
   | false =>
     have E:Hid (-1=ans):=Lib.hid (by rw [← HANS.out,hg0];simp)
     clear HANS hg0
     exact Zu
   | true =>
     cases hg1:Fw.inF s 0 1 r0 with
     | false =>
       have E:Hid (-1=ans):=Lib.hid (by rw [← HANS.out,hg1];simp)
       clear HANS hg1 hg0
       exact Zu
     | true =>
       have E:Hid (max (Fw.wr (Fw.wr (Fw.wr (r0 - p0) - p1) - Fw.mgs s 0 r0)) 0=ans):=Lib.hid (by rw [← HANS.out,hfx,hg0,hg1];simp)
       exact Z17
set_option maxHeartbeats 8000000 in
theorem fspan1 (b:Nat) (s:Re.St) (fl ap:Value) (ib:Bool) (r0 r1:Int) (w:World) (h:BxAt w b s fl ap ib):Calls Tryz.prog 109 #[.pointer (some ⟨b,0,none⟩),.int .i64 1,.agg #[.int .i64 r0,.int .i64 r1]] w fun x w'=>x = .returned (.int .i64 (spn s 1 r1 r0))∧Below w.heap.size w w':=by
 have i0:∀ (a b c d:Int) (w:World),(Instr.index 139 (.agg #[.int .i64 a,.int .i64 b,.int .i64 c,.int .i64 d]) (.int .i64 0)).run Tryz.prog w = .ok (.agg #[.int .i64 a,.int .i64 b]) w:=fun _ _ _ _ _=>by kernel_rfl
 have i1:∀ (a b c d:Int) (w:World),(Instr.index 139 (.agg #[.int .i64 a,.int .i64 b,.int .i64 c,.int .i64 d]) (.int .i64 1)).run Tryz.prog w = .ok (.agg #[.int .i64 c,.int .i64 d]) w:=fun _ _ _ _ _=>by kernel_rfl
 obtain ⟨ans,hans⟩:∃ a,spn s 1 r1 r0=a:=⟨_,rfl⟩
 rw [hans]
 have hfd:Fw.fxd s 1 r1=Fx.fixd (s.c 5) r1:=rfl
 unfold spn at hans
 rw [hfd] at hans
 have HANS:=Lib.hid hans
 clear hans hfd
 go_enter Tryz.func109,Tryz.ntmps109
 go_upto_region 1 with (fail)
 generalize hW:World.alloc _ _=W0
 have A0:At W0 w.heap.size (.cells #[.int .i64 r0,.int .i64 r1] 88):=hW ▸ At.new _ _
 have A2:BxAt W0 b s fl ap ib:=hW ▸ BxAt.alloc h _
 have hB:Below w.heap.size w W0:=hW ▸ Below.alloc' (Below.refl _ _) _
 clear hW h
 obtain ⟨l0,c0_0,c0_1⟩:=A0.two
 go_upto_region 2 with ((go_at_call 154;(with_reducible refine (finset10 b s fl ap ib r0 r1 _ A2).mono ?_);rintro e w3 ⟨rfl,hb⟩))
 replace A0:=A0.keep hb
 replace A2:=A2.keep hb
 replace hB:=Below.after2 hB (Nat.le_refl _) hb
 clear l0 c0_0 c0_1 hb
 obtain ⟨l0,c0_0,c0_1⟩:=A0.two
 go_upto_region 3 with ((go_at_call 154;(with_reducible refine (finset11 b s fl ap ib r0 r1 _ A2).mono ?_);rintro e w4 ⟨rfl,hb⟩))
 replace A0:=A0.keep hb
 replace A2:=A2.keep hb
 replace hB:=Below.after2 hB (Nat.le_refl _) hb
 clear l0 c0_0 c0_1 hb
 obtain ⟨l0,c0_0,c0_1⟩:=A0.two
 obtain ⟨l2,c2_0,c2_1,c2_2,c2_3,c2_4,c2_5,c2_6,c2_7⟩:=At.bx1 A2
 generalize Fw.ins s 1 0 r1=p0 at *
 generalize Fw.ins s 1 1 r1=p1 at *
 cases hfx:Fx.fixd (s.c 5) r1 with
 | true =>
   have E:Hid (-1=ans):=Lib.hid (by rw [← HANS.out,hfx];simp)
   clear HANS
   exact Zu
 | false =>
   cases hg0:Fw.inF s 1 0 r1 with
   | false =>
     have E:Hid (-1=ans):=Lib.hid (by rw [← HANS.out,hg0];simp)
     clear HANS hg0
     exact Zu
   | true =>
     cases hg1:Fw.inF s 1 1 r1 with
     | false =>
       have E:Hid (-1=ans):=Lib.hid (by rw [← HANS.out,hg1];simp)
       clear HANS hg1 hg0
       exact Zu
     | true =>
       have E:Hid (max (Fw.wr (Fw.wr (Fw.wr (r1 - p0) - p1) - Fw.mgs s 1 r0)) 0=ans):=Lib.hid (by rw [← HANS.out,hfx,hg0,hg1];simp)
       exact Z17
def bgn (s:Re.St) (y:Nat) (ry r0 pad long:Int):Int:=if Fw.inF s y 0 ry=true then Fw.wr (Fw.ins s y 0 ry + Fw.mg s y 0 r0) else if Fw.inF s y 1 ry=true then Fw.wr (Fw.wr (Fw.wr (ry - Fw.ins s y 1 ry) - Fw.mg s y 1 r0) - long) else Fw.wr (pad + Fw.mg s y 0 r0)
set_option maxHeartbeats 8000000 in
theorem fbegins0 (b:Nat) (s:Re.St) (fl ap:Value) (ib:Bool) (a0 a1 r0 r1 p0 p1 long:Int) (w:World) (h:BxAt w b s fl ap ib):Calls Tryz.prog 112 #[.pointer (some ⟨b,0,none⟩),.int .i64 0,.agg #[.int .i64 a0,.int .i64 a1,.int .i64 r0,.int .i64 r1,.int .i64 p0,.int .i64 p1],.int .i64 long] w fun x w'=>x = .returned (.int .i64 (bgn s 0 r0 r0 p0 long))∧Below w.heap.size w w':=by
 have i0:∀ (a b c d:Int) (w:World),(Instr.index 139 (.agg #[.int .i64 a,.int .i64 b,.int .i64 c,.int .i64 d]) (.int .i64 0)).run Tryz.prog w = .ok (.agg #[.int .i64 a,.int .i64 b]) w:=fun _ _ _ _ _=>by kernel_rfl
 have i1:∀ (a b c d:Int) (w:World),(Instr.index 139 (.agg #[.int .i64 a,.int .i64 b,.int .i64 c,.int .i64 d]) (.int .i64 1)).run Tryz.prog w = .ok (.agg #[.int .i64 c,.int .i64 d]) w:=fun _ _ _ _ _=>by kernel_rfl
 obtain ⟨ans,hans⟩:∃ a,bgn s 0 r0 r0 p0 long=a:=⟨_,rfl⟩
 rw [hans]
 unfold bgn at hans
 have HANS:=Lib.hid hans
 clear hans
 go_enter Tryz.func112,Tryz.ntmps112
 go_upto_region 1 with (fail)
 generalize hW:World.alloc _ _=W0
 have A0:At W0 w.heap.size (.cells #[.int .i64 a0,.int .i64 a1,.int .i64 r0,.int .i64 r1,.int .i64 p0,.int .i64 p1] 168):=hW ▸ At.new _ _
 have A2:BxAt W0 b s fl ap ib:=hW ▸ BxAt.alloc h _
 have hB:Below w.heap.size w W0:=hW ▸ Below.alloc' (Below.refl _ _) _
 clear hW h
 obtain ⟨l0,c0_0,c0_1,c0_2,c0_3,c0_4,c0_5⟩:=At.six A0
 go_upto_region 2 with ((go_at_call 113;(with_reducible refine (fmargins_any b s fl ap ib r0 r1 _ A2).mono ?_);rintro e w3 ⟨rfl,hb⟩))
 generalize hW:World.alloc _ _=W1
 have A1:At W1 w3.heap.size (.cells #[.int .i64 (Fw.mg s 0 0 r0),.int .i64 (Fw.mg s 0 1 r0)] 138):=hW ▸ At.new _ _
 have hb2:Below W0.heap.size W0 W1:=hW ▸ (hb.trans (Below.mono (Below.alloc' (Below.refl _ _) _) hb.size))
 clear hW hb
 generalize w3.heap.size=T at *
 replace A0:=A0.keep hb2
 replace A2:=A2.keep hb2
 replace hB:=Below.after2 hB (Nat.le_refl _) hb2
 clear l0 c0_0 c0_1 c0_2 c0_3 c0_4 c0_5 hb2
 obtain ⟨l0,c0_0,c0_1,c0_2,c0_3,c0_4,c0_5⟩:=At.six A0
 generalize Fw.mg s 0 0 r0=m0 at *
 generalize Fw.mg s 0 1 r0=m1 at *
 go_upto_region 3 with ((go_at_call 154;(with_reducible refine (finset00 b s fl ap ib r0 r1 _ A2).mono ?_);rintro e w4 ⟨rfl,hb⟩))
 replace A0:=A0.keep hb
 replace A1:=A1.keep hb
 replace A2:=A2.keep hb
 replace hB:=Below.after2 hB (Nat.le_refl _) hb
 clear l0 c0_0 c0_1 c0_2 c0_3 c0_4 c0_5 hb
 obtain ⟨l0,c0_0,c0_1,c0_2,c0_3,c0_4,c0_5⟩:=At.six A0
 obtain ⟨l1,c1_0,c1_1⟩:=A1.two
 generalize Fw.ins s 0 0 r0=q0 at *
 cases hg0:Fw.inF s 0 0 r0 with
 | true =>
   exact Z30
 | false =>
   have HG:=Lib.hid hg0
   clear hg0
   go_upto_region 6 with ((go_at_call 154;(with_reducible refine (finset01 b s fl ap ib r0 r1 _ A2).mono ?_);rintro e w5 ⟨rfl,hb⟩))
   replace A0:=A0.keep hb
   replace A1:=A1.keep hb
   replace A2:=A2.keep hb
   replace hB:=Below.after2 hB (Nat.le_refl _) hb
   clear l0 c0_0 c0_1 c0_2 c0_3 c0_4 c0_5 hb l1 c1_0 c1_1
   obtain ⟨l0,c0_0,c0_1,c0_2,c0_3,c0_4,c0_5⟩:=At.six A0
   obtain ⟨l1,c1_0,c1_1⟩:=A1.two
   generalize Fw.ins s 0 1 r0=q1 at *
   cases hg1:Fw.inF s 0 1 r0 with
   | true =>
     have E:Hid (Fw.wr (Fw.wr (Fw.wr (r0 - q1) - m1) - long)=ans):=Lib.hid Z4d
     clear HANS hg1 HG
     go_upto_region 7 with (fail)
     exact Z13
   | false =>
     have E:Hid (Fw.wr (p0 + m0)=ans):=Lib.hid Z4d
     clear HANS hg1 HG
     go_upto_region 8 with (fail)
     exact Z13
set_option maxHeartbeats 8000000 in
theorem fbegins1 (b:Nat) (s:Re.St) (fl ap:Value) (ib:Bool) (a0 a1 r0 r1 p0 p1 long:Int) (w:World) (h:BxAt w b s fl ap ib):Calls Tryz.prog 112 #[.pointer (some ⟨b,0,none⟩),.int .i64 1,.agg #[.int .i64 a0,.int .i64 a1,.int .i64 r0,.int .i64 r1,.int .i64 p0,.int .i64 p1],.int .i64 long] w fun x w'=>x = .returned (.int .i64 (bgn s 1 r1 r0 p1 long))∧Below w.heap.size w w':=by
 have i0:∀ (a b c d:Int) (w:World),(Instr.index 139 (.agg #[.int .i64 a,.int .i64 b,.int .i64 c,.int .i64 d]) (.int .i64 0)).run Tryz.prog w = .ok (.agg #[.int .i64 a,.int .i64 b]) w:=fun _ _ _ _ _=>by kernel_rfl
 have i1:∀ (a b c d:Int) (w:World),(Instr.index 139 (.agg #[.int .i64 a,.int .i64 b,.int .i64 c,.int .i64 d]) (.int .i64 1)).run Tryz.prog w = .ok (.agg #[.int .i64 c,.int .i64 d]) w:=fun _ _ _ _ _=>by kernel_rfl
 obtain ⟨ans,hans⟩:∃ a,bgn s 1 r1 r0 p1 long=a:=⟨_,rfl⟩
 rw [hans]
 unfold bgn at hans
 have HANS:=Lib.hid hans
 clear hans
 go_enter Tryz.func112,Tryz.ntmps112
 go_upto_region 1 with (fail)
 generalize hW:World.alloc _ _=W0
 have A0:At W0 w.heap.size (.cells #[.int .i64 a0,.int .i64 a1,.int .i64 r0,.int .i64 r1,.int .i64 p0,.int .i64 p1] 168):=hW ▸ At.new _ _
 have A2:BxAt W0 b s fl ap ib:=hW ▸ BxAt.alloc h _
 have hB:Below w.heap.size w W0:=hW ▸ Below.alloc' (Below.refl _ _) _
 clear hW h
 obtain ⟨l0,c0_0,c0_1,c0_2,c0_3,c0_4,c0_5⟩:=At.six A0
 go_upto_region 2 with ((go_at_call 113;(with_reducible refine (fmargins_any b s fl ap ib r0 r1 _ A2).mono ?_);rintro e w3 ⟨rfl,hb⟩))
 generalize hW:World.alloc _ _=W1
 have A1:At W1 w3.heap.size (.cells #[.int .i64 (Fw.mg s 1 0 r0),.int .i64 (Fw.mg s 1 1 r0)] 138):=hW ▸ At.new _ _
 have hb2:Below W0.heap.size W0 W1:=hW ▸ (hb.trans (Below.mono (Below.alloc' (Below.refl _ _) _) hb.size))
 clear hW hb
 generalize w3.heap.size=T at *
 replace A0:=A0.keep hb2
 replace A2:=A2.keep hb2
 replace hB:=Below.after2 hB (Nat.le_refl _) hb2
 clear l0 c0_0 c0_1 c0_2 c0_3 c0_4 c0_5 hb2
 obtain ⟨l0,c0_0,c0_1,c0_2,c0_3,c0_4,c0_5⟩:=At.six A0
 generalize Fw.mg s 1 0 r0=m0 at *
 generalize Fw.mg s 1 1 r0=m1 at *
 go_upto_region 3 with ((go_at_call 154;(with_reducible refine (finset10 b s fl ap ib r0 r1 _ A2).mono ?_);rintro e w4 ⟨rfl,hb⟩))
 replace A0:=A0.keep hb
 replace A1:=A1.keep hb
 replace A2:=A2.keep hb
 replace hB:=Below.after2 hB (Nat.le_refl _) hb
 clear l0 c0_0 c0_1 c0_2 c0_3 c0_4 c0_5 hb
 obtain ⟨l0,c0_0,c0_1,c0_2,c0_3,c0_4,c0_5⟩:=At.six A0
 obtain ⟨l1,c1_0,c1_1⟩:=A1.two
 generalize Fw.ins s 1 0 r1=q0 at *
 cases hg0:Fw.inF s 1 0 r1 with
 | true =>
   exact Z30
 | false =>
   have HG:=Lib.hid hg0
   clear hg0
   go_upto_region 6 with ((go_at_call 154;(with_reducible refine (finset11 b s fl ap ib r0 r1 _ A2).mono ?_);rintro e w5 ⟨rfl,hb⟩))
   replace A0:=A0.keep hb
   replace A1:=A1.keep hb
   replace A2:=A2.keep hb
   replace hB:=Below.after2 hB (Nat.le_refl _) hb
   clear l0 c0_0 c0_1 c0_2 c0_3 c0_4 c0_5 hb l1 c1_0 c1_1
   obtain ⟨l0,c0_0,c0_1,c0_2,c0_3,c0_4,c0_5⟩:=At.six A0
   obtain ⟨l1,c1_0,c1_1⟩:=A1.two
   generalize Fw.ins s 1 1 r1=q1 at *
   cases hg1:Fw.inF s 1 1 r1 with
   | true =>
     have E:Hid (Fw.wr (Fw.wr (Fw.wr (r1 - q1) - m1) - long)=ans):=Lib.hid Z4d
     clear HANS hg1 HG
     go_upto_region 7 with (fail)
     exact Z13
   | false =>
     have E:Hid (Fw.wr (p1 + m0)=ans):=Lib.hid Z4d
     clear HANS hg1 HG
     go_upto_region 8 with (fail)
     exact Z13
end Go.Proofs.YteggipnplbkijaaGreat.Fix
