/- Boxes laid by the program: what its functions do, part 18. -/
import Derived.Test.YteggipnplbkijaaGreatWK
import Derived.Test.YteggipnplbkijaaGreatW17
set_option linter.unusedVariables false
set_option linter.unusedSimpArgs false
set_option linter.unusedSectionVars false
set_option maxRecDepth 100000
namespace Go.Proofs.YteggipnplbkijaaGreat.Fix
open Go.ChangeShapes Go.WideShapes Go.ChangeAt Go.RowKit
theorem meas_one {k L:Nat} (h:k<L):L - (intOf (.int .i64 ((k:Int) + 1))).toNat<L - (intOf (.int .i64 (k:Int))).toNat:=by simp [intOf];omega
theorem CV.outm {W W':World} {P P' M:Nat→Prop} {v:Value} {c:List Fw.Ld × Int} {pm:Nat} {es:Array MapEntry} {ck:Nat} (h:CV W P v c) (hp:At W pm (.map es ck)) (k:Out M W W') (hm:∀ b,P b→b≠pm→¬ M b) (hq:∀ b,P b→P' b):CV W' P' v c:=by
 obtain ⟨A,cap,e,h⟩:=h
 refine ⟨A,cap,e,?_⟩
 rcases h with h | ⟨b,cs,e,hb,hA,hc⟩
 · exact .inl h
 · exact .inr ⟨b,cs,e,hq b hb,hA.out (hm b hb fun q=>by subst q;have:=At.uniq hA hp;cases this) k,hc⟩
theorem exec_mapput {o:Oper} {a:Act} {W W':World} {t:TypeId} (m x y:Operand) (ho:o.op = .mapUpdate t m x y) {vm vx vy:Value} (hm:a.eval m=vm) (hx:a.eval x=vx) (hy:a.eval y=vy) (hr:(Instr.mapUpdate t vm vx vy).run Tryz.prog W = .ok () W'):(execOp a.eval o).run Tryz.prog W = .ok .skip W':=by
 unfold execOp;simp only [ho,hm,hx,hy,Sem.run_bind,hr,Result.andThen_ok,Sem.run_pure]
section
variable {Y:Lyt} {B:Int→Fw.Bx} {D:Int→Prop} {KM:World→Nat→Prop}
set_option maxHeartbeats 16000000 in
theorem finside_new (hK:∀ (X X':World) (b:Nat),KM X b→Below X.heap.size X X'→KM X' b) (hKO:∀ (X X':World) (b:Nat),KM X b→Out (fun q=>q≠b) X X'→KM X' b) (F:Int→Nat) (z i0 i1:Int) (hz:D z) (w:World) (hR:RO w Y B D KM) (n:Nat) (P:Nat→Prop) (hw:Kp Y B F n P w) (hP:∀ b,P b→b<w.heap.size) (h0:Wf i0) (h1:Wf i1) (hne:(B z).fl≠[]) (kf:FuncId) (hcf:∀ (args:Array Value) (X:World),(callFunc kf args).run Tryz.prog X = .ok (.enter kf args) X) (hkm:Y.km<w.heap.size)
  (hkf:∀ X,KM X Y.km→(Instr.lookup 97 (.map (some Y.km)) (.int .i64 ((B z).sty.c 0)) false).run Tryz.prog X = .ok (.func (.func kf) #[] #[]) X) (xs:List Fw.Ld) (hi:Int) (hcn:Fw.cont B (F z) z i0 i1=(xs.map (Fw.mv B i0 i1),hi)) (hDx:∀ x ∈ xs,D x.id) (kk:Nat) (hnk:n + kk<maxLen) (hlx:xs.length≤10000)
  (g:Lit→Option Value) (hg:GM 92 w Y.pm n g) (hgv:g (klit z i0 i1)=none)
  (hkind:∀ X,RO X Y B D KM→Kp Y B F n P X→(∀ b,P b→b<X.heap.size)→Calls Tryz.prog kf #[.pointer (some ⟨Y.lb,0,none⟩),.agg #[.int .i64 z,.int .i64 i0,.int .i64 i1]] X fun e X'=>∃ R cap cs P' n',e = .returned (.agg #[.slice (some ⟨R,0,none⟩) xs.length cap,.int .i64 hi])∧X.heap.size≤R∧At X' R (.cells cs 94)∧RowC cs xs∧n'≤n + kk∧Kp Y B F n' P' X'∧(∀ b,P' b→P b∨X.heap.size≤b)∧¬ P' R∧Out (fun b=>b=Y.pm) X X') :
  Calls Tryz.prog 72 #[.pointer (some ⟨Y.lb,0,none⟩),.agg #[.int .i64 z,.int .i64 i0,.int .i64 i1]] w fun e w'=>∃ v P' n',e = .returned v∧CV w' P' v (Fw.cont B (F z) z i0 i1)∧n'≤n + kk + 1∧Kp Y B F n' P' w'∧(∀ b,P' b→P b∨w.heap.size≤b)∧Out (fun b=>b=Y.pm) w w':=by
 have HW:=Lib.hid hw
 have HCN:=Lib.hid hcn
 have HKF:=Lib.hid hkf
 have HKD:=Lib.hid hkind
 clear hw hcn hkf hkind
 obtain ⟨hbx,hks,_⟩:=hR.box z hz
 obtain ⟨es0,ck0,hpm⟩:=hR.pmo
 have hbig:Below w.heap.size w ((w.alloc (.cells #[.int .i64 z,.int .i64 i0,.int .i64 i1] 92)).alloc (.cells #[.slice none 0 0,.int .i64 0] 144)):=Below.alloc' (Below.alloc' (Below.refl _ _) _) _
 have hL:=fun X (hb:Below ((w.alloc (.cells #[.int .i64 z,.int .i64 i0,.int .i64 i1] 92)).alloc (.cells #[.slice none 0 0,.int .i64 0] 144)).heap.size ((w.alloc (.cells #[.int .i64 z,.int .i64 i0,.int .i64 i1] 92)).alloc (.cells #[.slice none 0 0,.int .i64 0] 144)) X)=>(hR.keep hK (Below.after hbig hb)).look hz
 have HR:=Lib.hid hR
 have A0:At ((w.alloc (.cells #[.int .i64 z,.int .i64 i0,.int .i64 i1] 92)).alloc (.cells #[.slice none 0 0,.int .i64 0] 144)) w.heap.size (.cells #[.int .i64 z,.int .i64 i0,.int .i64 i1] 92):=At.alloc (At.new _ _) _
 have A1:At ((w.alloc (.cells #[.int .i64 z,.int .i64 i0,.int .i64 i1] 92)).alloc (.cells #[.slice none 0 0,.int .i64 0] 144)) (w.heap.size + 1) (.cells #[.slice none 0 0,.int .i64 0] 144):=At.new' _ Z3s
 have A2:=hbx.keep hbig
 have AL:=hR.lay.keep hbig
 have hB:=hbig
 obtain ⟨s,hs⟩:∃ s,(B z).sty=s:=⟨_,rfl⟩
 obtain ⟨fl,hfl⟩:∃ s,(B z).fl=s:=⟨_,rfl⟩
 rw [hs] at A2
 rw [hfl] at hks
 obtain ⟨A,cp,hvf,hI,hle,hmx,hAn⟩:=hks.ints
 rw [hvf] at A2
 generalize Y.va z=va at A2
 generalize hib:(B z).ib=ib at A2
 generalize hbz:Y.bl z=bz at *
 have HS:=Lib.hid hs
 have HFL:=Lib.hid hfl
 have HBX:=Lib.hid hbx
 clear hbx hR hks hs hfl hvf hib
 go_enter Tryz.func72,Tryz.ntmps72
 go_upto_region 1 with (fail)
 generalize (w.alloc (.cells #[.int .i64 z,.int .i64 i0,.int .i64 i1] 92)).alloc (.cells #[.slice none 0 0,.int .i64 0] 144)=W0 at *
 obtain ⟨l0,c0_0,c0_1,c0_2⟩:=At.three A0
 have llb:=AL.lt
 have ly2:W0.cell? ⟨Y.lb,2,none⟩=some (.map (some Y.bm)):=AL.cell 2
 refine sqt ?_
 (repeat (first | refine sqk ?_ | refine sqc ?_ (hc:=by intro w2 hS;first | with_reducible exact qaB hS (fside00 _)) | refine sqv ?_))
 refine Drawn.seq_end ?_;intro w2 hS
 replace A0:=At.keep A0 hS
 replace A1:=At.keep A1 hS
 replace A2:=At.keep A2 hS
 replace AL:=At.keep AL hS
 replace hB:=Below.after2 hB (Nat.le_refl _) hS
 clear hS hL ly2 llb l0 c0_0 c0_1 c0_2 hbig
 have c71:w2.cell? ⟨bz,71,none⟩=some (.slice A fl.length cp):=BxAt.ext A2 16
 have l2:=A2.lt
 have c54:w2.cell? ⟨bz,54,none⟩=some (.int .i64 (s.c 54)):=BxAt.int A2 54 Z3i rfl
 have l1:=A1.lt
 have c1_0:w2.cell? ⟨w.heap.size + 1,0,none⟩=some (.slice none 0 0):=A1.cell 0
 have c1_1:w2.cell? ⟨w.heap.size + 1,1,none⟩=some (.int .i64 0):=A1.cell 1
 have z1_0:=A1.thaw 0
 have z1_1:=A1.thaw 1
 have hlz:((fl.length:Int) == 0)=false:=by rw [← HFL.out];simp;exact hne
 go_upto_region 4 with (fail)
 obtain ⟨l0,c0_0,c0_1,c0_2⟩:=At.three A0
 have llb:=AL.lt
 have ly4:w2.cell? ⟨Y.lb,4,none⟩=some (.map (some Y.pm)):=AL.cell 4
 have hzf:=HR.out.wf z hz
 have hKL:=fun X (hb:Below w2.heap.size w2 X)=>(hg.keep (Below.after2 hB (Nat.le_refl _) hb)).look_ok keyLawK Tryz.underlying98 (zero_content X) (key_k hzf h0 h1)
 simp only [hgv,Option.getD_none,Option.isSome_none,kval] at hKL
 have hS0:Below w2.heap.size w2 w2.drew:=Below.drew (Below.refl _ _)
 refine tkX (S:=fun X=>Below w2.heap.size w2 X) 12 ?_ ?_
 · exact hS0
 intro hS1
 clear hS0
 refine tkB 0 ?_
 refine tkB 1 ?_
 refine tkB 2 ?_
 refine tkB 3 ?_
 refine tkB 4 ?_
 refine tkB 5 ?_
 refine tkB 6 ?_
 refine tkB 7 ?_
 refine tkB 8 ?_
 refine tk1 9 ?_
 refine Drawn.Step.value tkL ?_
 have AN:At (w2.alloc (.cells #[.slice none 0 0,.int .i64 0] 144)).drew w2.heap.size (.cells #[.slice none 0 0,.int .i64 0] 144):=At.drew (At.new _ _)
 have hS2:Below w2.heap.size w2 (w2.alloc (.cells #[.slice none 0 0,.int .i64 0] 144)).drew:=Below.drew (Below.alloc' (Below.refl _ _) _)
 have A1':=At.keep A1 hS2
 have l1w:=l1
 refine ⟨fun _=>hS2,?_⟩
 (try simp only [tkp,tka,tkz,tks])
 generalize (w2.alloc (.cells #[.slice none 0 0,.int .i64 0] 144)).drew=w3 at *
 obtain ⟨ln,cn0,cn1⟩:=At.two AN
 have zn0:=AN.thaw 0
 have zn1:=AN.thaw 1
 clear c1_0 c1_1 z1_0 z1_1 l1
 refine tk1 10 ?_
 refine Drawn.Step.skip tkL ?_
 have hS3:Below w2.heap.size w2 ((w3.setCell ⟨w2.heap.size,0,none⟩ (.slice none 0 0)).setCell ⟨w2.heap.size,1,none⟩ (.int .i64 0)):=Below.setCell (Below.setCell hS2 Z3t _) Z3t _
 have AN2:=At.set (At.set AN 0 (.slice none 0 0)) 1 (.int .i64 0)
 replace A1':=At.off (At.off A1' (n:=w2.heap.size) Z3f 0 (.slice none 0 0)) (n:=w2.heap.size) Z3f 1 (.int .i64 0)
 refine ⟨fun _=>hS3,?_⟩
 (try simp only [Act.put])
 generalize (w3.setCell ⟨w2.heap.size,0,none⟩ (.slice none 0 0)).setCell ⟨w2.heap.size,1,none⟩ (.int .i64 0)=w4 at *
 clear hS2 AN ln cn0 cn1 zn0 zn1 hS1
 refine tkB 11 ?_
 refine tkE ?_
 replace hB:=Below.after2 hB (Nat.le_refl _) hS3
 replace A0:=At.keep A0 hS3
 replace A2:=At.keep A2 hS3
 replace AL:=At.keep AL hS3
 have hcw:w.heap.size + 1<w2.heap.size:=l1w
 clear hS3 hKL c71 l2 c54 l0 c0_0 c0_1 c0_2 llb ly4 l1w
 generalize hnc:w2.heap.size=nc at *
 clear hnc
 go_upto_region 6 with (fail)
 have hpl:=hP _ HW.out.1
 have lp0:w.heap.size≠Y.pm:=by omega
 have lp1:w.heap.size + 1≠Y.pm:=by omega
 have lpn:nc≠Y.pm:=by omega
 have lbz:bz≠Y.pm:=fun q=>by have:=At.uniq HBX.out (q ▸ hpm);cases this
 have lbp:Y.lb≠Y.pm:=fun q=>by have:=At.uniq HR.out.lay (q ▸ hpm);cases this
 have hbzw:=HBX.out.lt
 have hlbw:=HR.out.lay.lt
 have lbn:bz≠nc:=by omega
 have lln:Y.lb≠nc:=by omega
 have l0n:w.heap.size≠nc:=by omega
 obtain ⟨l0,c0_0,c0_1,c0_2⟩:=At.three A0
 have llb:=AL.lt
 have ly3:w4.cell? ⟨Y.lb,3,none⟩=some (.map (some Y.km)):=AL.cell 3
 have l2:=A2.lt
 have c00:w4.cell? ⟨bz,0,none⟩=some (.int .i64 (s.c 0)):=BxAt.int A2 0 Z3i rfl
 have hkm4:=hK _ _ _ HR.out.kinds hB
 have hkl:=fun X (hO:Out (fun b=>b=Y.pm∨b=nc) w4 X)=>HKF.out X (hKO _ _ _ hkm4 ⟨hO.1,fun b hb hn=>by
  have hb':b=Y.km:=Classical.byContradiction hn
  subst hb'
  exact hO.2 _ hb (fun q=>by rcases q with q | q;exact HR.out.pmk q.symm;omega)⟩)
 rw [HS.out] at hkl
 have hS0:Out (fun b=>b=Y.pm∨b=nc) w4 w4.drew:=(Out.refl _ _).drew
 refine tkX (S:=fun X=>Out (fun b=>b=Y.pm∨b=nc) w4 X) 14 ?_ ?_
 · exact hS0
 intro hS1
 clear hS0
 refine tkP 0 ?_
 refine tkP 1 ?_
 refine tkP 2 ?_
 refine tkP 3 ?_
 refine tkP 4 ?_
 refine tkP 5 ?_
 refine tkP 6 ?_
 refine tkP 7 ?_
 refine tkP 8 ?_
 refine tkP 9 ?_
 refine tkP 10 ?_
 refine tkP 11 ?_
 have hB4:Below w.heap.size w w4.drew:=Below.drew hB
 have hcall:=HKD.out w4.drew (HR.out.keep hK hB4) (HW.out.out (M:=fun _=>False) (Out.of_below hB4) fun _ _ q=>q) (fun b hb=>Nat.lt_of_lt_of_le (hP b hb) hB4.size)
 refine tk1 12 ?_
 refine Drawn.Step.call (f:=kf) tkL hcall ?_
 rintro e w6 ⟨R,cap,cs,P5,n5,rfl,hRn,hAR,hrow,hn5,hK5,hP5,hPR,hO5⟩
 have hO6:Out (fun b=>b=Y.pm) w4 w6:=Out.trans (Out.refl _ w4).drew hO5
 refine ⟨_,rfl,fun _=>hO6.mono fun b _ q => .inl q,?_⟩
 clear hcall hO5 hkl hS1
 (try simp only [tkp,tka,tkz,tks])
 replace A0:=A0.out lp0 hO6
 have AN3:=AN2.out lpn hO6
 obtain ⟨ln,cn0,cn1⟩:=At.two AN3
 have zn0:=AN3.thaw 0
 have zn1:=AN3.thaw 1
 refine tk1 13 ?_
 refine Drawn.Step.skip tkL ?_
 refine ⟨fun _=>Out.set (Out.set (hO6.mono fun b _ q => .inl q) (.inr rfl) 0 _) (.inr rfl) 1 _,?_⟩
 (try simp only [Act.put])
 refine tkE ?_
 have AN4:At ((w6.setCell ⟨nc,0,none⟩ (.slice (some ⟨R,0,none⟩) xs.length cap)).setCell ⟨nc,1,none⟩ (.int .i64 hi)) nc (.cells #[.slice (some ⟨R,0,none⟩) xs.length cap,.int .i64 hi] 144):=At.set (At.set AN3 0 _) 1 _
 have hRn':w4.heap.size≤R:=hRn
 have lnc4:nc<w4.heap.size:=AN2.lt
 have hQ:Out (fun b=>b=nc∨b=R) w6 ((w6.setCell ⟨nc,0,none⟩ (.slice (some ⟨R,0,none⟩) xs.length cap)).setCell ⟨nc,1,none⟩ (.int .i64 hi)):=Out.set (Out.set (Out.refl _ _) (.inl rfl) 0 _) (.inl rfl) 1 _
 replace A0:=At.off (At.off A0 (n:=nc) l0n 0 (.slice (some ⟨R,0,none⟩) xs.length cap)) (n:=nc) l0n 1 (.int .i64 hi)
 have A1'':=At.off (At.off (At.out A1' lp1 hO6) (n:=nc) Z3f 0 (.slice (some ⟨R,0,none⟩) xs.length cap)) (n:=nc) Z3f 1 (.int .i64 hi)
 have hRnc:R≠nc:=by omega
 replace hAR:=At.off (At.off hAR (n:=nc) hRnc 0 (.slice (some ⟨R,0,none⟩) xs.length cap)) (n:=nc) hRnc 1 (.int .i64 hi)
 generalize (w6.setCell ⟨nc,0,none⟩ (.slice (some ⟨R,0,none⟩) xs.length cap)).setCell ⟨nc,1,none⟩ (.int .i64 hi)=w7 at *
 clear cn0 cn1 zn0 zn1 ln AN3 l0 c0_0 c0_1 c0_2 llb ly3 l2 c00
 obtain ⟨ln,cn0,cn1⟩:=At.two AN4
 have zn0:=AN4.thaw 0
 have zn1:=AN4.thaw 1
 have hlx':=Lib.hid hlx
 have hOw7:Out (fun b=>b=Y.pm∨w.heap.size≤b) w w7:=Out.trans' ((Out.of_below hB (M:=fun b=>b=Y.pm∨w.heap.size≤b)).trans (hO6.mono fun b _ q => .inl q)) hQ fun b hb q=>by rcases q with rfl | rfl <;> omega
 obtain ⟨es7,ck7,hpm7⟩:∃ es ck,At w7 Y.pm (.map es ck):=by
  obtain ⟨g5,hg5,_⟩:=hK5.2
  obtain ⟨es,ck,q⟩:=hg5.obj
  exact ⟨es,ck,q.out (by rintro (e | e) <;> omega) hQ⟩
 have lR0:w.heap.size≠R:=by omega
 have lRn:nc≠R:=fun q=>hRnc q.symm
 have lRp:Y.pm≠R:=by omega
 clear hlx
 go_wp2
 go_loopw [56] (fun i wr=>∃ k cs',k≤xs.length∧i = .int .i64 (k:Nat)∧At wr R (.cells cs' 94)∧RowC cs' (mvd (Fw.mv B i0 i1) xs k)∧Out (fun b=>b=R) w7 wr) (fun i _=>xs.length - (intOf i).toNat)
 case atStart=>exact ⟨0,cs,by omega,rfl,hAR,by rw [mvd_zero];exact hrow,Out.refl _ _⟩
 case round =>
  obtain ⟨k,cs',hkl,rfl,hA',hrow',hO7⟩:=hrel
  have AN5:=AN4.out lRn hO7
  have A05:=A0.out lR0 hO7
  by_cases hlt:k<xs.length
  · have hrl:k<(mvd (Fw.mv B i0 i1) xs k).length:=by rw [mvd_length];exact hlt
    have hge:=mvd_get (Fw.mv B i0 i1) xs hlt
    obtain ⟨x,hx⟩:∃ x,xs[k]=x:=⟨_,rfl⟩
    have ho:=hrow'.2 k hrl 0 Z3f
    have h5:=hrow'.2 k hrl 5 Z3f
    have h6:=hrow'.2 k hrl 6 Z3f
    rw [hge,hx] at ho h5 h6
    have hstep:=fun x0 x1=>hrow'.step hrl x0 x1
    rw [hge,hx] at hstep
    have hsu:=mvd_succ (Fw.mv B i0 i1) xs hlt
    rw [hx] at hsu
    have hDk:D x.id:=hDx x (hx ▸ List.getElem_mem _)
    have hROr:RO wr Y B D KM:=HR.out.fresh hKO hkm (Out.trans' hOw7 hO7 fun b hb q=>by rcases q with rfl;omega) ⟨es7,ck7,hpm7.out lRp hO7⟩
    have hmv:=fmove_any hK x.id i0 i1 x.a0 x.a1 hDk R (k * 7) cs' wr.drew (hROr.keep hK (Below.drew (Below.refl _ _))) (At.drew hA') ho h5 h6
    have hfx:∀ a b,a=(if (B x.id).sty.c 1=1 then Fw.mv1 (B x.id).sty 0 i0 x.a0 else x.a0)→b=(if (B x.id).sty.c 1=1 then Fw.mv1 (B x.id).sty 1 i1 x.a1 else x.a1)→({ x with a0:=a,a1:=b }:Fw.Ld)=Fw.mv B i0 i1 x:=by
     rintro a b rfl rfl
     unfold Fw.mv
     split <;> rfl
    have HR9:Hid (RowC ((cs'.setIfInBounds (k * 7 + 5) (.int .i64 (if (B x.id).sty.c 1=1 then Fw.mv1 (B x.id).sty 0 i0 x.a0 else x.a0))).setIfInBounds (k * 7 + 6) (.int .i64 (if (B x.id).sty.c 1=1 then Fw.mv1 (B x.id).sty 1 i1 x.a1 else x.a1))) (mvd (Fw.mv B i0 i1) xs (k + 1))):=Lib.hid (by
     have q:=hstep (if (B x.id).sty.c 1=1 then Fw.mv1 (B x.id).sty 0 i0 x.a0 else x.a0) (if (B x.id).sty.c 1=1 then Fw.mv1 (B x.id).sty 1 i1 x.a1 else x.a1)
     rw [hfx _ _ rfl rfl,hsu] at q
     exact q)
    have HLT:=Lib.hid hlt
    have HMV:=Lib.hid hmv
    have hcmp:(k:Int)<(xs.length:Int):=by omega
    clear hstep hsu hfx hmv hge ho h5 h6 hrow' hrl hx hROr
    obtain ⟨l5,d0,d1⟩:=At.two AN5
    obtain ⟨l6,e0,e1,e2⟩:=At.three A05
    have lRr:=hA'.lt
    go_upto_region 10 with (fail)
    have hS0:Out (fun b=>b=R) wr wr.drew:=(Out.refl _ _).drew
    refine tkX (S:=fun X=>Out (fun b=>b=R) wr X) 8 ?_ ?_
    · exact hS0
    intro hS1
    clear hS0
    refine tkO 0 ?_
    refine tkO 1 ?_
    refine tkO 2 ?_
    refine tkO 3 ?_
    refine tkO 4 ?_
    refine tkO 5 ?_
    refine tkO 6 ?_
    refine tk1 7 ?_
    refine Drawn.Step.call tkL HMV.out ?_
    rintro e w8 ⟨rfl,hA8,hO8⟩
    have hO9:Out (fun b=>b=R) wr w8:=(Out.refl _ wr).drew.trans hO8
    refine ⟨_,rfl,fun _=>hO9,?_⟩
    (try simp only [tkp,tka,tkz,tks])
    refine tkE ?_
    clear hS1 hO8 d0 d1 e0 e1 e2 l5 l6
    have hwk:IntKind.i64.wrap ((k:Int) + 1)=(k:Int) + 1:=by have q1:=hlx'.out;have q2:=HLT.out;exact IntWalk.i64_in _ Z3f
    have hwk2:wrap64 ((k:Int) + 1)=(k:Int) + 1:=by rw [← IntWalk.i64_left];exact hwk
    go_wp2
    go_roundw
    case rel=>exact ⟨k + 1,_,Nat.succ_le_of_lt HLT.out,by have q1:=hlx'.out;have q2:=HLT.out;go_num,hA8,HR9.out,hO7.trans hO9⟩
    case measure=>exact meas_one HLT.out
  · obtain rfl:k=xs.length:=by omega
    have HRW:=Lib.hid hrow'
    have hOwr:Out (fun b=>b=Y.pm∨w.heap.size≤b) w wr:=Out.trans' hOw7 hO7 fun b hb q=>by rcases q with rfl;omega
    have hQr:Out (fun b=>b=nc∨b=R) w6 wr:=hQ.trans (hO7.mono fun b _ q => .inr q)
    have hKr:Kp Y B F n5 P5 wr:=hK5.out hQr fun b hb=>by
     rintro (rfl | rfl)
     · rcases hP5 _ hb with q | q
       · exact absurd (hP _ q) Z3f
       · simp only [World.size_drew] at q;omega
     · exact hPR hb
    obtain ⟨hpp,g5,hg5,hgg5⟩:=hKr
    have hzf:=HR.out.wf z hz
    obtain ⟨Wp,np,hnp,hput,hgp,hOp⟩:=(hg5.keep (Below.drew (Below.refl _ _))).put (W:=wr.drew) (v:= .agg #[.slice (some ⟨R,0,none⟩) xs.length cap,.int .i64 hi]) keyLawK Tryz.underlying98 Z3f (key_k hzf h0 h1)
    have ALr:=(AL.out lbp hO6).out (M:=fun b=>b=nc∨b=R) (by rintro (rfl | rfl) <;> omega) hQr
    obtain ⟨l5,d0,d1⟩:=At.two AN5
    obtain ⟨l6,e0,e1,e2⟩:=At.three A05
    have llr:=ALr.lt
    have ly4:wr.cell? ⟨Y.lb,4,none⟩=some (.map (some Y.pm)):=ALr.cell 4
    clear hrow'
    go_upto_region 12 with (fail)
    have hS0:Out (fun b=>b=Y.pm) wr wr.drew:=(Out.refl _ _).drew
    refine tkX (S:=fun X=>Out (fun b=>b=Y.pm) wr X) 7 ?_ ?_
    · exact hS0
    intro hS1
    clear hS0
    refine tkO 0 ?_
    refine tkO 1 ?_
    refine tkO 2 ?_
    refine tkO 3 ?_
    refine tkO 4 ?_
    refine tkO 5 ?_
    refine tk1 6 ?_
    refine Drawn.Step.skip (exec_mapput (.tmp 71) (.tmp 72) (.tmp 73) rfl rfl rfl rfl hput) ?_
    have hOp2:Out (fun b=>b=Y.pm) wr Wp:=(Out.refl _ wr).drew.trans hOp
    refine ⟨fun _=>hOp2,?_⟩
    (try simp only [Act.put])
    refine tkE ?_
    have hOf:Out (fun b=>b=Y.pm∨w.heap.size≤b) w Wp:=Out.trans' hOwr hOp2 fun b hb q => .inl q
    have hAr:=hA'.out (M:=fun b=>b=Y.pm) (fun q=>lRp q.symm) hOp2
    have AN6:=AN5.out lpn hOp2
    have A16:=At.out (At.out A1'' Z3f hO7) lp1 hOp2
    obtain ⟨l7,f0,f1⟩:=At.two AN6
    obtain ⟨l8,k0,k1⟩:=At.two A16
    have zk0:=A16.thaw 0
    have zk1:=A16.thaw 1
    clear d0 d1 e0 e1 e2 l5 l6 ly4 llr hS1
    go_wp2
    generalize hW:World.setCell _ _ _=W9
    have hO9:Out (fun b=>b=w.heap.size + 1) Wp W9:=hW ▸ Out.set (M:=fun b=>b=w.heap.size + 1) (Out.set (M:=fun b=>b=w.heap.size + 1) (Out.refl _ _) rfl 0 _) rfl 1 _
    have A19:At W9 (w.heap.size + 1) (.cells #[.slice (some ⟨R,0,none⟩) xs.length cap,.int .i64 hi] 144):=hW ▸ At.set (At.set A16 0 _) 1 _
    obtain ⟨l9,g0,g1⟩:=At.two A19
    have hPR1:¬ P5 (w.heap.size + 1):=fun hb=>by
     rcases hP5 _ hb with q | q
     · exact absurd (hP _ q) Z3f
     · simp only [World.size_drew] at q;omega
    have hP7:∀ b,(P5 b∨b=R)→¬ (b=w.heap.size + 1):=fun b hb q=>by
     subst q
     rcases hb with hb | hb
     · exact hPR1 hb
     · omega
    have hcv:CV W9 (fun b=>P5 b∨b=R) (.agg #[.slice (some ⟨R,0,none⟩) xs.length cap,.int .i64 hi]) (Fw.cont B (F z) z i0 i1):=by
     rw [HCN.out]
     refine ⟨some ⟨R,0,none⟩,cap,by simp,.inr ⟨R,cs',rfl,.inr rfl,hAr.out (fun q=>by omega) hO9,?_⟩⟩
     have q:=HRW.out
     rw [mvd_all] at q
     exact q.2
    refine bodyPost_ret (v:= .agg #[.slice (some ⟨R,0,none⟩) xs.length cap,.int .i64 hi]) Z46 rfl ⟨_,(fun b=>P5 b∨b=R),np,rfl,hcv,by omega,?_,?_,?_⟩
    · refine ⟨.inl hpp,_,hgp.out (fun q=>lp1 q.symm) hO9,fun z' a b v' hz' ha hb hg' => ?_⟩
      by_cases e:klit z' a b=klit z i0 i1
      · obtain ⟨rfl,rfl,rfl⟩:=klit_inj hz' ha hb hzf h0 h1 e
        rw [gset_same] at hg'
        injection hg' with hg'
        subst hg'
        exact hcv
      · rw [gset_off e] at hg'
        exact (CV.outm (P':=P5) (hgg5 _ _ _ _ hz' ha hb hg') (hpm7.out lRp hO7) hOp2 (fun b _ hn q=>hn q) fun _ q=>q).out hO9 (fun b hb=>hP7 b (.inl hb)) fun b hb => .inl hb
    · intro b hb
      rcases hb with hb | rfl
      · rcases hP5 _ hb with q | q
        · exact .inl q
        · simp only [World.size_drew] at q;exact .inr (Nat.le_trans hB.size q)
      · exact .inr Z3f
    · exact (Out.trans' hOf hO9 fun b hb q=>by omega).mono fun b hb q=>by rcases q with q | q;exact q;omega
end
theorem keyLawD:Maps.Keyed Tryz.prog 23:=Maps.int_keyed Tryz.underlying23
theorem key_d {z:Int} (h:Wf z):keyOf Tryz.prog 23 (.int .i64 z)=some (.int .i64 z):=Maps.keyOf_int_mk Tryz.underlying23 h
def fnv (f:FuncId):Value:= .func (.func f) #[] #[]
def KMp (W:World) (b:Nat):Prop:=∃ n g,GM 23 W b n g∧g (.int .i64 0)=some (fnv 103)∧g (.int .i64 1)=some (fnv 104)∧g (.int .i64 2)=some (fnv 105)
theorem KMp.keep (X X':World) (b:Nat) (h:KMp X b) (hb:Below X.heap.size X X'):KMp X' b:=by
 obtain ⟨n,g,h1,h2⟩:=h
 exact ⟨n,g,h1.keep hb,h2⟩
theorem KMp.out (X X':World) (b:Nat) (h:KMp X b) (k:Out (fun q=>q≠b) X X'):KMp X' b:=by
 obtain ⟨n,g,h1,h2⟩:=h
 exact ⟨n,g,h1.out (fun q=>q rfl) k,h2⟩
theorem fkinds_any (w:World):Calls Tryz.prog 70 #[] w fun e w'=>(∃ b,e = .returned (.map (some b))∧w.heap.size≤b∧KMp w' b)∧Below w.heap.size w w':=by
 have hmm:=@run_makeMap Tryz.prog
 obtain ⟨W1,n1,k1,p1,g1,o1⟩:=(GM.made 23 w).put (v:=fnv 103) keyLawD Tryz.underlying97 (by simp [maxLen]) (key_d (z:=0) Z47)
 obtain ⟨W2,n2,k2,p2,g2,o2⟩:=g1.put (v:=fnv 104) keyLawD Tryz.underlying97 Z40 (key_d (z:=1) Z47)
 obtain ⟨W3,n3,k3,p3,g3,o3⟩:=g2.put (v:=fnv 105) keyLawD Tryz.underlying97 Z40 (key_d (z:=2) Z47)
 have hO:Out (fun b=>w.heap.size≤b) w W3:=Out.trans' (Out.trans' (Out.trans' (Out.of_below (M:=fun b=>w.heap.size≤b) (Below.alloc' (Below.refl _ _) (.map #[] 0))) o1 fun b _ q=>by omega) o2 fun b _ q=>by omega) o3 fun b _ q=>by omega
 have hB:Below w.heap.size w W3:=hO.below (Nat.le_refl _) fun b hb q=>by omega
 have hne:∀ {a b:Int},a≠b→Lit.int .i64 a≠Lit.int .i64 b:=fun h e=>h (by injection e)
 have hK:KMp W3 w.heap.size:=⟨n3,_,g3,by rw [gset_off (hne Z3i),gset_off (hne Z3i),gset_same],by rw [gset_off (hne Z3i),gset_same],by rw [gset_same]⟩
 have HK:=Lib.hid hK
 have HB:=Lib.hid hB
 clear hK hB hO g1 g2 g3 o1 o2 o3 hne k1 k2 k3
 unfold fnv at p1 p2 p3
 go_enter Tryz.func70,Tryz.ntmps70
 go_wp2
 go_ret
 exact ⟨⟨_,rfl,Nat.le_refl _,HK.out⟩,HB.out⟩
theorem KMp.look {X:World} {b:Nat} (h:KMp X b) (z:Int) (f:FuncId) (hz:(z=0∧f=103)∨(z=1∧f=104)∨(z=2∧f=105)):(Instr.lookup 97 (.map (some b)) (.int .i64 z) false).run Tryz.prog X = .ok (.func (.func f) #[] #[]) X:=by
 obtain ⟨n,g,h1,h2,h3,h4⟩:=h
 have hw:Wf z:=by rw [wf_iff];omega
 rw [h1.look keyLawD Tryz.underlying97 (z:= .nilFunc) Z3q (key_d hw)]
 rcases hz with ⟨rfl,rfl⟩ | ⟨rfl,rfl⟩ | ⟨rfl,rfl⟩
 · rw [h2];rfl
 · rw [h3];rfl
 · rw [h4];rfl
section
variable {Y:Lyt} {B:Int→Fw.Bx} {F:Int→Nat} {D:Int→Prop} {KM:World→Nat→Prop} {w W W':World} {n n':Nat} {P0 P P':Nat→Prop}
structure LSt (Y:Lyt) (B:Int→Fw.Bx) (F:Int→Nat) (w:World) (P0:Nat→Prop) (n:Nat) (P:Nat→Prop) (W:World):Prop where
 out:Out (fun b=>b=Y.pm∨w.heap.size≤b) w W
 kp:Kp Y B F n P W
 lt:∀ b,P b→b<W.heap.size
 new:∀ b,P b→P0 b∨w.heap.size≤b
theorem Kp.cut (h:Kp Y B F n P W):Kp Y B F n (fun b=>P b∧b<W.heap.size) W:=by
 obtain ⟨hp,g,h1,h2⟩:=h
 refine ⟨⟨hp,h1.lt⟩,g,h1,fun z a b v hz ha hb hg => ?_⟩
 obtain ⟨A,cap,e,q⟩:=h2 z a b v hz ha hb hg
 refine ⟨A,cap,e,?_⟩
 rcases q with q | ⟨r,cs,e1,e2,e3,e4⟩
 · exact .inl q
 · exact .inr ⟨r,cs,e1,⟨e2,e3.lt⟩,e3,e4⟩
theorem Kp.pm (h:Kp Y B F n P W):Y.pm<W.heap.size∧∃ es ck,At W Y.pm (.map es ck):=by
 obtain ⟨hp,g,h1,h2⟩:=h
 exact ⟨h1.lt,h1.obj⟩
theorem LSt.start (h:Kp Y B F n P w) (hP:∀ b,P b→b<w.heap.size):LSt Y B F w P n P w:=⟨Out.refl _ _,h,hP,fun b hb => .inl hb⟩
theorem LSt.size (h:LSt Y B F w P0 n P W):w.heap.size≤W.heap.size:=h.out.size
theorem LSt.ro (hKO:∀ (X X':World) (b:Nat),KM X b→Out (fun q=>q≠b) X X'→KM X' b) (hR:RO w Y B D KM) (hkm:Y.km<w.heap.size) (h:LSt Y B F w P0 n P W):RO W Y B D KM:=hR.fresh hKO hkm h.out h.kp.pm.2
theorem LSt.own {M:Nat→Prop} (h:LSt Y B F w P0 n P W) (k:Out M W W') (hm:∀ b,b<W.heap.size→M b→¬ P b∧w.heap.size≤b):LSt Y B F w P0 n P W' :=
 ⟨Out.trans' h.out k fun b hb q => .inr (hm b (Nat.lt_of_lt_of_le hb h.size) q).2,h.kp.out k fun b hb q=>(hm b (h.lt b hb) q).1 hb,fun b hb=>Nat.lt_of_lt_of_le (h.lt b hb) k.size,h.new⟩
theorem LSt.after (h:LSt Y B F w P0 n P W) (k:Below W.heap.size W W'):LSt Y B F w P0 n P W':=h.own (M:=fun _=>False) (Out.of_below k) fun _ _ q=>q.elim
theorem LSt.call (h:LSt Y B F w P0 n P W) (k1:Kp Y B F n' P' W') (k2:∀ b,P' b→P b∨W.heap.size≤b) (k3:Out (fun b=>b=Y.pm) W W'):LSt Y B F w P0 n' (fun b=>P' b∧b<W'.heap.size) W' :=
 ⟨Out.trans' h.out k3 fun b hb q => .inl q,k1.cut,fun b hb=>hb.2,fun b hb=>by
  rcases k2 b hb.1 with q | q
  · exact h.new b q
  · exact .inr (Nat.le_trans h.size q)⟩
theorem LSt.fin (h:LSt Y B F w P0 n P W):Out (fun b=>b=Y.pm) w W:=h.out.mono fun b hb q=>by
 rcases q with q | q
 · exact q
 · omega
def LayOK (Y:Lyt) (B:Int→Fw.Bx) (F:Int→Nat) (D:Int→Prop) (KM:World→Nat→Prop) (f:Nat):Prop :=
 ∀ (z r0 r1 t0 t1:Int) (w:World) (n:Nat) (P:Nat→Prop),D z→F z=f→RO w Y B D KM→Kp Y B F n P w→(∀ b,P b→b<w.heap.size)→Y.km<w.heap.size→n + Fw.cst B f z<maxLen →
  Calls Tryz.prog 45 #[.pointer (some ⟨Y.lb,0,none⟩),.int .i64 z,.agg #[.int .i64 r0,.int .i64 r1],.agg #[.int .i64 t0,.int .i64 t1]] w fun e w' =>
   e = .returned (.agg (ldc (Fw.lay B f z r0 r1 t0 t1)))∧∃ n' P',n'≤n + Fw.cst B f z∧Kp Y B F n' P' w'∧(∀ b,P' b→P b∨w.heap.size≤b)∧Out (fun b=>b=Y.pm) w w'
end
end Go.Proofs.YteggipnplbkijaaGreat.Fix
