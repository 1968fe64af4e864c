/- Boxes laid by the program: what its functions do, part 31. -/
import Derived.RangeFuncBox
import Derived.Test.YteggipnplbkijaaGreatWK
import Derived.Test.YteggipnplbkijaaGreatW05
import Derived.Test.YteggipnplbkijaaGreatW11
import Derived.Test.YteggipnplbkijaaGreatW14
import Derived.Test.YteggipnplbkijaaGreatW30
set_option linter.unusedVariables false
set_option linter.unusedSimpArgs false
set_option linter.unusedSectionVars false
set_option maxRecDepth 100000
namespace Go.Proofs.YteggipnplbkijaaGreat.Fix
open Go.ChangeShapes Go.WideShapes Go.ChangeAt Go.RowKit
theorem field_content0 (v:Value) (h:Int) (W:World):(Instr.field 144 (.agg #[v,.int .i64 h]) 0).run Tryz.prog W = .ok v W:=by kernel_rfl
theorem ints_va {W:World} {v:Value} {l:List Int} {A:Option Addr} {m cp:Nat} (hv:v = .slice A m cp) (h:KS W v l):Ints W A l:=by
 obtain ⟨A',c,e,hI,_⟩:=h.ints
 rw [hv] at e
 injection e with e1 e2 e3
 rw [e1]
 exact hI
section
variable {Y:Lyt} {B:Int→Fw.Bx} {F:Int→Nat} {D:Int→Prop}
def TellOK (Y:Lyt) (B:Int→Fw.Bx) (F:Int→Nat) (D:Int→Prop) (f:Nat):Prop :=
 ∀ (x:Fw.Ld) (w:World) (n:Nat) (P:Nat→Prop) (nr:Nat) (g:Lit→Option Value),D x.id→F x.id=f→Wf x.i0→Wf x.i1→RO w Y B D KMp→Kp Y B F n P w→(∀ b,P b→b<w.heap.size)→¬ P Y.rm→GM 3 w Y.rm nr g→n + tcst B f x.id<maxLen→nr + (tl B Y.ww Y.wh f x).length<maxLen →
  Calls Tryz.prog 44 #[.pointer (some ⟨Y.lb,0,none⟩),.agg (ldc x)] w fun e w'=>e = .returned (.tuple #[]) ∧
   ∃ n' P' nr',n'≤n + tcst B f x.id∧Kp Y B F n' P' w'∧(∀ b,P' b→P b∨w.heap.size≤b)∧nr'≤nr + (tl B Y.ww Y.wh f x).length∧GM 3 w' Y.rm nr' (gputs g (tl B Y.ww Y.wh f x))∧Out (fun b=>b=Y.pm∨b=Y.rm) w w'
theorem tl_eq (B:Int→Fw.Bx) (ww wh:Int) (f:Nat) (x:Fw.Ld) (h:f=0→(B x.id).ap=[]):tl B ww wh f x=x :: (((Fw.cont B f x.id x.i0 x.i1).1.flatMap fun k=>tl B ww wh (f - 1) (edg (B x.id).sty k)) ++ ((B x.id).ap.flatMap fun k=>tl B ww wh (f - 1) (aprt B ww wh (f - 1) k x))):=by
 cases f with
 | zero=>simp [tl,Fw.cont,h rfl]
 | succ f=>rfl
theorem tcst_eq (B:Int→Fw.Bx) (f:Nat) (z:Int) (h:f=0→(B z).ap=[]) (h2:f=0→(B z).fl=[]):tcst B f z=Fw.cst B f z + ((B z).fl.map (tcst B (f - 1))).sum + ((B z).ap.map fun k=>Fw.cst B (f - 1) k + tcst B (f - 1) k).sum:=by
 cases f with
 | zero=>simp [tcst,Fw.cst,h rfl,h2 rfl]
 | succ f=>rfl
theorem sum_take_succ {α:Type} (c:α→Nat) {l:List α} {k:Nat} (h:k<l.length):((l.take (k + 1)).map c).sum=((l.take k).map c).sum + c l[k]:=by
 rw [List.take_succ_eq_append_getElem h]
 exact Z2n
theorem sum_take_le {α:Type} (c:α→Nat) (l:List α) (k:Nat):((l.take k).map c).sum≤(l.map c).sum:=by
 conv=>rhs;rw [← List.take_append_drop k l,List.map_append,List.sum_append]
 omega
theorem flat_take_succ {α β:Type} (c:α→List β) {l:List α} {k:Nat} (h:k<l.length):(l.take (k + 1)).flatMap c=(l.take k).flatMap c ++ c l[k]:=by
 rw [List.take_succ_eq_append_getElem h,List.flatMap_append]
 simp
theorem flat_take_le2 {α β:Type} (c:α→List β) (l:List α) (k:Nat):((l.take k).flatMap c).length≤(l.flatMap c).length:=by
 conv=>rhs;rw [← List.take_append_drop k l,List.flatMap_append,List.length_append]
 omega
set_option maxHeartbeats 16000000 in
theorem tell_ok (W:Wk B F D) (hdap:∀ z,D z→∀ k ∈ (B z).ap,D k∧F z=F k + 1) (hlap:∀ z,D z→(B z).ap.length≤10000) (hrb:Y.rm≠Y.bm) (hrk:Y.rm≠Y.km) (f:Nat) (hT:∀ f',f=f' + 1→TellOK Y B F D f'):TellOK Y B F D f:=by
 intro x w n P nr g hz hf h0 h1 hR hKp hP hPr hG hn hnr
 have hrmo:=hG.obj
 have hrm:=hG.lt
 obtain ⟨es1,ck1,hrm1⟩:=hG.obj
 obtain ⟨es0,ck0,hpm0⟩:=hR.pmo
 have hpl:=hpm0.lt
 have hfl0:f=0→(B x.id).fl=[]:=fun e=>by
  cases hq:(B x.id).fl with
  | nil=>rfl
  | cons k l =>
    have:=(W.down x.id hz k (by rw [hq];simp)).2
    omega
 have hap0:f=0→(B x.id).ap=[]:=fun e=>by
  cases hq:(B x.id).ap with
  | nil=>rfl
  | cons k l =>
    have:=(hdap x.id hz k (by rw [hq];simp)).2
    omega
 rw [tl_eq B Y.ww Y.wh f x hap0] at hnr ⊢
 rw [tcst_eq B f x.id hap0 hfl0] at hn ⊢
 obtain ⟨f1,hf1⟩:∃ k,f - 1=k:=⟨_,rfl⟩
 rw [hf1] at hnr hn ⊢
 obtain ⟨kids,hkids⟩:∃ l,(Fw.cont B f x.id x.i0 x.i1).1=l:=⟨_,rfl⟩
 rw [hkids] at hnr ⊢
 have hki:kids.map (·.id)=(B x.id).fl:=by rw [← hkids];exact Fw.cont_ids B f x.id x.i0 x.i1 hfl0
 obtain ⟨s,hs⟩:∃ s,(B x.id).sty=s:=⟨_,rfl⟩
 obtain ⟨fl,hfl⟩:∃ l,(B x.id).fl=l:=⟨_,rfl⟩
 obtain ⟨ap,hap⟩:∃ l,(B x.id).ap=l:=⟨_,rfl⟩
 rw [hs,hap] at hnr ⊢
 rw [hfl,hap] at hn
 rw [hfl]
 rw [hfl] at hki
 obtain ⟨T1,hT1⟩:∃ T:Fw.Ld→List Fw.Ld,(fun k=>tl B Y.ww Y.wh f1 (edg s k))=T:=⟨_,rfl⟩
 obtain ⟨T2,hT2⟩:∃ T:Int→List Fw.Ld,(fun k=>tl B Y.ww Y.wh f1 (aprt B Y.ww Y.wh f1 k x))=T:=⟨_,rfl⟩
 obtain ⟨c1,hc1⟩:∃ c:Int→Nat,tcst B f1=c:=⟨_,rfl⟩
 obtain ⟨c2,hc2⟩:∃ c:Int→Nat,(fun k=>Fw.cst B f1 k + tcst B f1 k)=c:=⟨_,rfl⟩
 obtain ⟨cz,hcz⟩:∃ c,Fw.cst B f x.id=c:=⟨_,rfl⟩
 rw [hT1,hT2] at hnr ⊢
 rw [hcz,hc2] at hn ⊢
 rw [hc1] at hn ⊢
 have HT1:=Lib.hid hT1
 have HT2:=Lib.hid hT2
 have HC1:=Lib.hid hc1
 have HC2:=Lib.hid hc2
 have HKD:Hid (∀ k ∈ kids,D k.id∧F k.id=f1∧TellOK Y B F D f1∧Wf k.i0∧Wf k.i1):=Lib.hid fun k hk=>by
  have hm:k.id ∈ fl:=by rw [← hki];exact List.mem_map_of_mem hk
  have h:=W.down x.id hz k.id (by rw [hfl];exact hm)
  have e:f=f1 + 1:=by omega
  rw [← hkids,e] at hk
  have hb:=Fw.laid_bd (Fw.cont_laid B f1 x.id x.i0 x.i1 k hk)
  exact ⟨h.1,by omega,hT f1 e,by rw [wf_iff];omega,by rw [wf_iff];omega⟩
 have HAD:Hid (∀ k ∈ ap,D k∧F k=f1∧TellOK Y B F D f1∧LayOK Y B F D KMp f1):=Lib.hid fun k hk=>by
  have h:=hdap x.id hz k (by rw [hap];exact hk)
  have e:f=f1 + 1:=by omega
  exact ⟨h.1,by omega,hT f1 e,(both_ok Y W f1).2⟩
 have hlk64:kids.length≤10000:=by
  have h:=W.len x.id hz
  rw [hfl, ← hki,List.length_map] at h
  omega
 have hla:ap.length≤10000:=by
  have h:=hlap x.id hz
  rw [hap] at h
  exact h
 have HKI:=Lib.hid hki
 have HS:=Lib.hid hs
 have HAP:=Lib.hid hap
 have HN:=Lib.hid hn
 have HNR:=Lib.hid hnr
 have HR:=Lib.hid hR
 have HKIDS:=Lib.hid hkids
 have HIN:=Lib.hid ((both_ok Y W f).1)
 have HCZ:=Lib.hid hcz
 obtain ⟨b0,hb0⟩:∃ b0,Y.bl x.id=b0:=⟨_,rfl⟩
 obtain ⟨hbx,_,hksa⟩:=hR.box x.id hz
 obtain ⟨Aa,cpa,hva,hIa,_,_,_⟩:=hksa.ints
 rw [hap] at hva
 have HVA:=Lib.hid hva
 rw [hb0,hs,hva] at hbx
 generalize Y.vf x.id=zvf at hbx
 generalize (B x.id).ib=zib at hbx
 have n0p:b0≠Y.pm:=fun e=>by
  rw [e] at hbx
  exact absurd (At.uniq hbx hpm0) Z3t
 have n0r:b0≠Y.rm:=fun e=>by
  rw [e] at hbx
  exact absurd (At.uniq hbx hrm1) Z3t
 have nlr:Y.lb≠Y.rm:=fun e=>by
  have h1:=hR.lay
  rw [e] at h1
  exact absurd (At.uniq h1 hrm1) Z3t
 have lb0:=hbx.lt
 have hTS:TS Y B F D w P n P nr g w:=⟨hR,hKp,hP,fun b h => .inl h,hPr,hG,Out.refl _ _⟩
 have b01:Below w.heap.size w (w.alloc (.cells (ldc x) 94)):=Below.alloc' (Below.refl _ _) _
 have A0:At (w.alloc (.cells (ldc x) 94)) w.heap.size (.cells (ldc x) 94):=At.new _ _
 have hTS1:=hTS.after hrb hrk hR hrmo hrm b01
 have HBZ:=Lib.hid (BxAt.keep hbx b01)
 have hzw:=hR.wf x.id hz
 clear hT1 hT2 hc1 hc2 hki hfl hap hs hn hnr hkids hbx hksa hva hIa hTS hKp hcz hR hpm0 hrm1 hfl0 hap0
 have HZ:=Lib.hid hz
 go_enter Tryz.func44,Tryz.ntmps44
 go_upto_region 1 with (fail)
 generalize hW:World.alloc _ _=w1
 have e1:w.alloc (.cells (ldc x) 94)=w1:=hW
 rw [e1] at b01 A0 hTS1 HBZ
 clear hW e1
 have hsz:=b01.size
 have hlk:=fun X (h:Below w1.heap.size w1 X)=>(hTS1.ro.keep KMp.keep h).look hz
 simp only [hb0] at hlk
 obtain ⟨lY,cY0,cY1,cY2,cY3,cY4,cY5⟩:=At.six hTS1.ro.lay
 obtain ⟨lN,d0,d1,d2,d3,d4,d5,d6⟩:=At.seven (b:=w.heap.size) A0
 have hSd:Below w1.heap.size w1 w1.drew:=Below.drew (Below.refl _ _)
 refine tkX (S:=fun X=>Below w1.heap.size w1 X) 9 ?_ ?_
 · exact hSd
 intro hx
 clear hSd
 refine tkB 0 ?_
 refine tkB 1 ?_
 refine tkB 2 ?_
 refine tkB 3 ?_
 refine tkB 4 ?_
 refine tkB 5 ?_
 refine tkB 6 ?_
 refine tkR 7 rfl (reads_lookup Z3n rfl rfl rfl (fun X h=>hlk X h)) ?_
 refine tkB 8 ?_
 refine tkE ?_
 have hx2:Below w1.heap.size w1 w1.drew:=hx
 generalize w1.drew=w3 at *
 have hTS3:=hTS1.after hrb hrk HR.out hrmo hrm hx2
 have B3:=A0.keep hx2
 have HBZ3:=Lib.hid (BxAt.keep HBZ.out hx2)
 have hsz3:=hx2.size
 clear hx hx2 hlk cY0 cY1 cY2 cY3 cY4 cY5 lY lN d0 d1 d2 d3 d4 d5 d6 A0 hTS1 HBZ b01 hb0
 obtain ⟨lY,cY0,cY1,cY2,cY3,cY4,cY5⟩:=At.six hTS3.ro.lay
 obtain ⟨lN,d0,d1,d2,d3,d4,d5,d6⟩:=At.seven (b:=w.heap.size) B3
 obtain ⟨W5,nr5,hnr5,hrun,hG5,hO5⟩:=(show GM 3 w3.drew Y.rm nr g from hTS3.gm.out (M:=fun _=>False) (fun q=>q) ((Out.refl _ _).drew)).put (v:=rcv x) keyLaw Tryz.underlying47 (by have:=HNR.out;simp only [List.length_cons] at this;omega) (key_int hzw)
 have HRUN:=Lib.hid hrun
 have n1r:w.heap.size≠Y.rm:=by omega
 have hbr:∀ X,(Instr.build 59 #[(0,.int .i64 (Fx.cut x.a0)),(1,.int .i64 (Fx.cut x.a1)),(2,.int .i64 (Fx.cut x.s0)),(3,.int .i64 (Fx.cut x.s1))]).run Tryz.prog X = .ok (rcv x) X:=fun X=>by kernel_rfl
 clear hrun
 go_upto_region 2 with (fail)
 have hSd:Out (fun b=>b=Y.rm) w3 w3.drew:=(Out.refl _ _).drew
 refine tkX (S:=fun X=>Out (fun b=>b=Y.rm) w3 X) 25 ?_ ?_
 · exact hSd
 intro hx
 clear hSd
 refine tkO 0 ?_
 refine tkO 1 ?_
 refine tkO 2 ?_
 refine tkO 3 ?_
 refine tkO 4 ?_
 refine tkO 5 ?_
 refine tkO 6 ?_
 refine tkO 7 ?_
 refine tkO 8 ?_
 refine tkO 9 ?_
 refine tkO 11 ?_
 refine tkO 12 ?_
 refine tkO 13 ?_
 refine tkO 15 ?_
 refine tkO 16 ?_
 refine tkO 17 ?_
 refine tkO 19 ?_
 refine tkO 20 ?_
 refine tkO 21 ?_
 refine tk1 10 ?_
 refine Drawn.Step.call tkL (cut_any _ _) ?_
 rintro e' w9 ⟨rfl,rfl⟩
 refine ⟨_,rfl,fun _=>hx,?_⟩
 (try simp only [tkp,tka,tkz,tks])
 refine tk1 14 ?_
 refine Drawn.Step.call tkL (cut_any _ _) ?_
 rintro e' w9 ⟨rfl,rfl⟩
 refine ⟨_,rfl,fun _=>hx,?_⟩
 (try simp only [tkp,tka,tkz,tks])
 refine tk1 18 ?_
 refine Drawn.Step.call tkL (cut_any _ _) ?_
 rintro e' w9 ⟨rfl,rfl⟩
 refine ⟨_,rfl,fun _=>hx,?_⟩
 (try simp only [tkp,tka,tkz,tks])
 refine tk1 22 ?_
 refine Drawn.Step.call tkL (cut_any _ _) ?_
 rintro e' w9 ⟨rfl,rfl⟩
 refine ⟨_,rfl,fun _=>hx,?_⟩
 (try simp only [tkp,tka,tkz,tks])
 refine tkO 23 ?_
 refine tk1 24 ?_
 refine Drawn.Step.skip (exec_mapput (.tmp 21) (.tmp 24) (.tmp 41) rfl rfl rfl rfl HRUN.out) ?_
 have hO35:Out (fun b=>b=Y.rm) w3 W5:=((Out.refl _ w3).drew).trans hO5
 refine ⟨fun _=>hO35,?_⟩
 (try simp only [tkp,tka,tkz,tks])
 refine tkE ?_
 clear hx hbr HRUN
 have B5:=B3.out (M:=fun b=>b=Y.rm) n1r hO35
 have HBZ5:=Lib.hid (At.out (M:=fun b=>b=Y.rm) HBZ3.out n0r hO35)
 have hTS5:TS Y B F D w P n P nr5 (gset g (.int .i64 x.id) (rcv x)) W5 :=
  hTS3.told hrb hrk HR.out hrmo hrm (hTS3.kp.out hO35 fun b hb e=>hTS3.nrm (e ▸ hb)) (fun b h => .inl h) hG5 (hO35.mono fun b _ h => .inr h) |> fun h=>⟨h.ro,hTS3.kp.out hO35 fun b hb e=>hTS3.nrm (e ▸ hb),fun b hb=>Nat.lt_of_lt_of_le (hTS3.lt b hb) hO35.size,hTS3.new,hTS3.nrm,hG5,h.out⟩
 have hsz5:=hO35.size
 clear hTS3 B3 HBZ3 hO35 hO5 hG5 cY0 cY1 cY2 cY3 cY4 cY5 lY lN d0 d1 d2 d3 d4 d5 d6
 obtain ⟨lN,d0,d1,d2,d3,d4,d5,d6⟩:=At.seven (b:=w.heap.size) B5
 have keyI:=HIN.out x.id x.i0 x.i1 W5 n P HZ.out hf h0 h1 hTS5.ro hTS5.kp hTS5.lt (by have:=HN.out;have:=HCZ.out;omega)
 rw [HCZ.out] at keyI
 have hfc:=fun (v:Value) (h:Int) (X:World)=>field_content0 v h X
 have HTS5:=Lib.hid hTS5
 clear hTS5
 go_upto_region 4 with (go_at_call 72;(with_reducible refine keyI.mono ?_);rintro e' w6 ⟨v,n2,P2,rfl,hcv,hn2,hK2,hP2,hO6⟩;obtain ⟨Ak,cpk,rfl,hld⟩:=hcv;rw [HKIDS.out] at hld ⊢)
 obtain ⟨kl,hkl⟩:∃ k,kids.length=k:=⟨_,rfl⟩
 rw [hkl] at hlk64
 rw [hkl]
 have HKL:=Lib.hid hkl
 have hfll:fl.length=kl:=by rw [← HKI.out,List.length_map,hkl]
 have HFLL:=Lib.hid hfll
 have hs6:=hO6.size
 have hTS6:=HTS5.out.laid hrb hrk HR.out hrmo hrm hK2 hP2 hO6
 have B6:=B5.out (M:=fun b=>b=Y.pm) Z3f hO6
 have HBZ6:=Lib.hid (At.out (M:=fun b=>b=Y.pm) HBZ5.out n0p hO6)
 obtain ⟨bK,csK,hrow⟩:∃ bK csK,kids=[]∨(Ak=some ⟨bK,0,none⟩∧At w6 bK (.cells csK 94)∧∀ i (h:i<kids.length) j,j<7→csK[i * 7 + j]? = (ldc kids[i])[j]?):=by
  rcases hld with h | ⟨b,cs,e1,_,e2,e3⟩
  · exact ⟨0,#[],.inl h⟩
  · exact ⟨b,cs,.inr ⟨e1,e2,e3⟩⟩
 obtain ⟨N6,hN6⟩:∃ N,w6.heap.size=N:=⟨_,rfl⟩
 have HN6:=Lib.hid hN6
 have HROW:Hid (kids≠[]→Ak=some ⟨bK,0,none⟩∧bK<N6∧bK≠Y.pm∧bK≠Y.rm∧∀ i (h:i<kids.length) j,j<7→csK[i * 7 + j]? = (ldc kids[i])[j]?):=Lib.hid fun hne=>by
  rcases hrow with h | ⟨e1,e2,e3⟩
  · exact absurd h hne
  · refine ⟨e1,by rw [← hN6];exact e2.lt,fun e => ?_,fun e => ?_,e3⟩
    · obtain ⟨es,ck,hp⟩:=hTS6.ro.pmo
      rw [e] at e2
      exact absurd (At.uniq e2 hp) Z3t
    · obtain ⟨es,ck,hp⟩:=hTS6.gm.obj
      rw [e] at e2
      exact absurd (At.uniq e2 hp) Z3t
 have HAK6:Hid (kids≠[]→At w6 bK (.cells csK 94)):=Lib.hid fun hne=>by
  rcases hrow with h | ⟨e1,e2,e3⟩
  · exact absurd h hne
  · exact e2
 have HC6:Hid (gset g (.int .i64 x.id) (rcv x)=gputs (gset g (.int .i64 x.id) (rcv x)) ((kids.take 0).flatMap T1)):=Lib.hid (by simp [gputs])
 have hNw:w.heap.size<N6:=by have:=B6.lt;omega
 clear hkl hfll hld hrow hK2 hP2 hO6 B5 HBZ5 HTS5 keyI lN d0 d1 d2 d3 d4 d5 d6 hfc hN6
 go_loopw [48] (fun iv wr=>∃ (i n':Nat) (P':Nat→Prop) (nr':Nat) (g':Lit→Option Value),i≤kl∧iv = .int .i64 i∧n'≤n + cz + ((fl.take i).map c1).sum∧nr'≤nr + 1 + ((kids.take i).flatMap T1).length∧TS Y B F D w P n' P' nr' g' wr∧Hid (g'=gputs (gset g (.int .i64 x.id) (rcv x)) ((kids.take i).flatMap T1))∧At wr w.heap.size (.cells (ldc x) 94)∧Hid (BxAt wr b0 s zvf (.slice Aa ap.length cpa) zib)∧Hid (kids≠[]→At wr bK (.cells csK 94))∧N6≤wr.heap.size) (fun iv _=>kl - (intOf iv).toNat)
 case atStart=>exact ⟨0,n2,_,nr5,_,Nat.zero_le _,rfl,by simpa using hn2,by simpa using hnr5,hTS6,HC6,B6,HBZ6,HAK6,by rw [HN6.out];exact Nat.le_refl _⟩
 case round =>
  clear hTS6 HC6 B6 HBZ6 HAK6 hn2 hnr5
  obtain ⟨i,n',P',nr',g',hi,rfl,hn',hnr',hTSr,hgg,A0,hBZ,hAK,hNr⟩:=hrel
  by_cases hlt:i<kl
  · have hltz:(i:Int)<(kl:Int):=by omega
    have hik:i<kids.length:=by rw [HKL.out];exact hlt
    have hifl:i<fl.length:=by rw [HFLL.out];exact hlt
    have hne:kids≠[]:=fun e=>by rw [e] at hik;simp at hik
    obtain ⟨rfl,lK5,nKp,nKr,hcsK⟩:=HROW.out hne
    obtain ⟨k0,hk0⟩:∃ x,kids[i]=x:=⟨_,rfl⟩
    have hkd:=Lib.hid (HKD.out k0 (hk0 ▸ List.getElem_mem _))
    have HKC:Hid (∀ j,j<7→wr.cell? ⟨bK,i * 7 + j,none⟩=(ldc k0)[j]?):=Lib.hid fun j hj=>by
     rw [(hAK.out hne).cell, ← hk0]
     exact hcsK i hik j hj
    have hidk:fl[i]=k0.id:=by
     have e:=HKI.out
     rw [← hk0]
     simp only [← e,List.getElem_map]
    have HID:=Lib.hid hidk
    have HK0:=Lib.hid hk0
    have HTSr:=Lib.hid hTSr
    have lKr:=(hAK.out hne).lt
    have hcst:((fl.take (i + 1)).map c1).sum=((fl.take i).map c1).sum + c1 k0.id:=by rw [sum_take_succ c1 hifl,hidk]
    have hcle:=sum_take_le c1 fl (i + 1)
    have hfst:(kids.take (i + 1)).flatMap T1=(kids.take i).flatMap T1 ++ T1 k0:=by rw [flat_take_succ T1 hik,hk0]
    have hfle:=flat_take_le2 T1 kids (i + 1)
    rw [hfst,List.length_append] at hfle
    have HFST:=Lib.hid hfst
    have hnn:=HN.out
    have hnnr:=HNR.out
    rw [List.length_cons,List.length_append] at hnnr
    clear hk0 hidk hTSr hcsK hfst
    go_upto_region 6 with (first | (refine wpList_load_at agg_ld siz_ld Z3n _ rfl rfl (ldc_size k0) HKC.out ?_) | (refine wpList_alloc_ld Z3n rfl ?_) | (refine wpList_store_ld0 Z3n _ _ rfl rfl rfl Z4f ?_))
    generalize hW:World.setRow _ _ _=W7
    obtain ⟨K,hKq⟩:∃ b,wr.heap.size=b:=⟨_,rfl⟩
    have AK:At W7 K (.cells (ldc k0) 94):=hW ▸ hKq ▸ At.setRow (At.new _ _) _
    have hb7:Below wr.heap.size wr W7:=hW ▸ setRow_below (Below.alloc' (Below.refl _ _) _) (Nat.le_refl _) _
    have gK:wr.heap.size≤K:=Nat.le_of_eq hKq
    rw [hKq]
    clear hW hKq lKr
    have HBZ7:=Lib.hid (BxAt.keep hBZ.out hb7)
    have n0K:b0≠K:=by omega
    go_wp2
    refine wp_loop_rounds 3 ?_
    rw [rounds_succ]
    obtain ⟨lb7,q55,q56,q57,q58,q59,q60,c67,c68⟩:=At.bx0 HBZ7.out
    obtain ⟨lK,k0_0,k0_1,k0_2,k0_3,k0_4,k0_5,k0_6⟩:=At.seven (b:=K) AK
    have zK5:=AK.thaw 5
    clear q55 q56 q57 q58 q59 q60 c68
    go_upto_region 9 with (fail)
    refine sqtT 14 1 ?_
    (repeat (first | refine sqk ?_ | refine sqc ?_ (hc:=by intro w2 hS;first | with_reducible exact qaB hS (fside00 _)) | refine sqv ?_))
    refine Drawn.seq_tail ?_;intro w2 hS
    clear lb7 c67 lK k0_0 k0_1 k0_2 k0_3 k0_4 k0_5 k0_6 zK5
    replace AK:=At.keep AK hS
    have HBZ8:=Lib.hid (BxAt.keep HBZ7.out hS)
    have hb8:=Below.after2 hb7 (Nat.le_refl _) hS
    obtain ⟨lK,k0_0,k0_1,k0_2,k0_3,k0_4,k0_5,k0_6⟩:=At.seven (b:=K) AK
    have zK5:=AK.thaw 5
    clear hS HBZ7 hb7
    refine tkT ?_;intro K hK;go_simp;refine hK _ _ (Drawn.text_nil ?_);clear hK K
    generalize hW:World.setCell _ _ _=W9
    obtain ⟨p0,hp0⟩:∃ v,IntKind.i64.wrap (k0.a0 + Fw.ed s 3)=v:=⟨_,rfl⟩
    have AK9:At W9 K (.cells (ldc { k0 with a0:=p0 }) 94):=by
     rw [← hW, ← hp0]
     exact At.set AK 5 _
    have hb9:Below wr.heap.size wr W9:=by
     rw [← hW]
     exact Below.setCell hb8 gK _
    have HBZ9:=Lib.hid (show BxAt W9 b0 s zvf (.slice Aa ap.length cpa) zib from hW ▸ At.off HBZ8.out n0K 5 _)
    clear hW lK k0_0 k0_1 k0_2 k0_3 k0_4 k0_5 k0_6 zK5 AK HBZ8 hb8
    go_wp2
    rw [rounds_succ]
    obtain ⟨lb7,q61,q62,q63,q64,q65,q66,c69,c70⟩:=At.bx1 HBZ9.out
    obtain ⟨lK,k0_0,k0_1,k0_2,k0_3,k0_4,k0_5,k0_6⟩:=At.seven (b:=K) AK9
    have zK6:=AK9.thaw 6
    clear q61 q62 q63 q64 q65 q66 c70
    go_upto_region 9 with (fail)
    refine sqtT 14 1 ?_
    (repeat (first | refine sqk ?_ | refine sqc ?_ (hc:=by intro w2 hS;first | with_reducible exact qaB hS (fside00 _)) | refine sqv ?_))
    refine Drawn.seq_tail ?_;intro w2 hS
    clear lb7 c69 lK k0_0 k0_1 k0_2 k0_3 k0_4 k0_5 k0_6 zK6
    replace AK9:=At.keep AK9 hS
    have hb10:=Below.after2 hb9 (Nat.le_refl _) hS
    obtain ⟨lK,k0_0,k0_1,k0_2,k0_3,k0_4,k0_5,k0_6⟩:=At.seven (b:=K) AK9
    have zK6:=AK9.thaw 6
    clear hS HBZ9 hb9
    refine tkT ?_;intro K hK;go_simp;refine hK _ _ (Drawn.text_nil ?_);clear hK K
    generalize hW:World.setCell _ _ _=W11
    obtain ⟨p1,hp1⟩:∃ v,IntKind.i64.wrap (k0.a1 + Fw.ed s 0)=v:=⟨_,rfl⟩
    obtain ⟨k1,hk1⟩:∃ k:Fw.Ld,{ k0 with a0:=p0,a1:=p1 }=k:=⟨_,rfl⟩
    have AK11:At W11 K (.cells (ldc k1) 94):=by
     rw [← hW, ← hk1, ← hp1]
     exact At.set AK9 6 _
    have hb11:Below wr.heap.size wr W11:=by
     rw [← hW]
     exact Below.setCell hb10 gK _
    have HED:Hid (edg s k0=k1):=Lib.hid (by unfold edg;rw [← wri (k0.a0 + _), ← wri (k0.a1 + _),hp0,hp1,hk1])
    have hk1i:k1.id=k0.id∧k1.i0=k0.i0∧k1.i1=k0.i1:=by rw [← hk1];exact ⟨rfl,rfl,rfl⟩
    have HK1I:=Lib.hid hk1i
    clear hW lK k0_0 k0_1 k0_2 k0_3 k0_4 k0_5 k0_6 zK6 AK9 hb10 hp0 hp1 hk1 hk1i
    go_wp2
    rw [rounds_succ]
    have HTS11:=Lib.hid (HTSr.out.after hrb hrk HR.out hrmo hrm hb11)
    have A11:=A0.keep hb11
    have HBZ11:=Lib.hid (BxAt.keep hBZ.out hb11)
    have HAK11:Hid (kids≠[]→At W11 bK (.cells csK 94)):=Lib.hid fun h=>(hAK.out h).keep hb11
    have hs11:=hb11.size
    have HKC11:Hid (∀ j,j<7→W11.cell? ⟨K,0 + j,none⟩=(ldc k1)[j]?):=Lib.hid fun j hj=>by rw [Nat.zero_add];exact AK11.cell j
    have hT1k:T1 k0=tl B Y.ww Y.wh f1 k1:=by rw [← HT1.out, ← HED.out]
    have hkd2:=hkd.out.2.2
    have keyT:=hkd2.1 k1 W11 n' P' nr' g' (by rw [HK1I.out.1];exact hkd.out.1) (by rw [HK1I.out.1];exact hkd.out.2.1) (by rw [HK1I.out.2.1];exact hkd2.2.1) (by rw [HK1I.out.2.2];exact hkd2.2.2) HTS11.out.ro HTS11.out.kp HTS11.out.lt HTS11.out.nrm HTS11.out.gm (by rw [HK1I.out.1,HC1.out];omega) (by rw [← hT1k];omega)
    rw [HK1I.out.1,HC1.out, ← hT1k] at keyT
    clear hT1k hkd2
    clear HTSr hAK hBZ A0 hb11
    go_upto_region 12 with (first | (refine wpList_load_at agg_ld siz_ld Z3n _ rfl rfl (ldc_size k1) HKC11.out ?_) | (go_at_call 44;(with_reducible refine keyT.mono ?_);rintro e' w12 ⟨rfl,n3,P3,nr3,hn3,hK3,hP3,hnr3,hG3,hO3⟩))
    have hTS12:=HTS11.out.told hrb hrk HR.out hrmo hrm hK3 hP3 hG3 hO3
    have hs12:=hO3.size
    have A12:=A11.out (M:=fun b=>b=Y.pm∨b=Y.rm) Z3f hO3
    have HBZ12:=Lib.hid (At.out (M:=fun b=>b=Y.pm∨b=Y.rm) HBZ11.out Z3f hO3)
    have HAK12:Hid (kids≠[]→At w12 bK (.cells csK 94)):=Lib.hid fun h=>(HAK11.out h).out (M:=fun b=>b=Y.pm∨b=Y.rm) Z3f hO3
    have hgg12:Hid (gputs g' (T1 k0)=gputs (gset g (.int .i64 x.id) (rcv x)) ((kids.take (i + 1)).flatMap T1)):=Lib.hid (by rw [HFST.out,gputs_append, ← hgg.out])
    have hlen:((kids.take (i + 1)).flatMap T1).length=((kids.take i).flatMap T1).length + (T1 k0).length:=by rw [HFST.out,List.length_append]
    clear HTS11 hK3 hP3 hG3 hO3 A11 HBZ11 HAK11 keyT AK11 HKC HKC11 hgg
    go_wp2
    go_roundw
    case rel=>exact ⟨i + 1,n3,_,nr3,_,by omega,by go_num,by omega,by omega,hTS12,hgg12,A12,HBZ12,HAK12,by omega⟩
    case measure=>simp [intOf];omega
  · obtain rfl:i=kl:=by omega
    have htk:kids.take i=kids:=List.take_of_length_le (by rw [HKL.out];exact Nat.le_refl _)
    have htf:fl.take i=fl:=List.take_of_length_le (by rw [HFLL.out];exact Nat.le_refl _)
    rw [htk] at hnr' hgg
    rw [htf] at hn'
    have HTSr:=Lib.hid hTSr
    obtain ⟨al,hal⟩:∃ k,ap.length=k:=⟨_,rfl⟩
    rw [hal] at hla
    have HAL:=Lib.hid hal
    have lbz:=BxAt.lt hBZ.out
    have c72:wr.cell? ⟨b0,72,none⟩=some (.slice Aa ap.length cpa):=BxAt.ext hBZ.out 17
    rw [hal] at c72
    clear hal hTSr hAK htk htf hlt
    go_upto_region 14 with (fail)
    clear c72 lbz
    have hgg0:Hid (g'=gputs (gset g (.int .i64 x.id) (rcv x)) (kids.flatMap T1 ++ (ap.take 0).flatMap T2)):=Lib.hid (by simpa using hgg.out)
    have hn0:=hn'
    have hnr0:=hnr'
    have HTS0:=HTSr.out
    go_loopw [79] (fun iv wr=>∃ (i n':Nat) (P':Nat→Prop) (nr':Nat) (g':Lit→Option Value),i≤al∧iv = .int .i64 i∧n'≤n + cz + (fl.map c1).sum + ((ap.take i).map c2).sum∧nr'≤nr + 1 + (kids.flatMap T1).length + ((ap.take i).flatMap T2).length∧TS Y B F D w P n' P' nr' g' wr∧Hid (g'=gputs (gset g (.int .i64 x.id) (rcv x)) (kids.flatMap T1 ++ (ap.take i).flatMap T2))∧At wr w.heap.size (.cells (ldc x) 94)) (fun iv _=>al - (intOf iv).toNat)
    case atStart=>exact ⟨0,n',P',nr',g',Nat.zero_le _,rfl,by simpa using hn0,by simpa using hnr0,HTS0,hgg0,A0⟩
    case round =>
     clear HTS0 hgg0 A0 hn0 hnr0 HTSr hgg hBZ hn' hnr'
     obtain ⟨j,n',P',nr',g',hj,rfl,hn',hnr',hTSr,hgg,A0⟩:=hrel
     by_cases hlt:j<al
     · have hltz:(j:Int)<(al:Int):=by omega
       have hja:j<ap.length:=by rw [HAL.out];exact hlt
       have hIa:=ints_va HVA.out (hTSr.ro.box x.id HZ.out).2.2
       rw [HAP.out] at hIa
       obtain ⟨b2,o2,rfl,lb2,cb2⟩:=hIa.at_ hja
       obtain ⟨kid,hkid⟩:∃ x,ap[j]=x:=⟨_,rfl⟩
       rw [show ap.getD j 0=kid by rw [← hkid,List.getD,List.getElem?_eq_getElem hja];rfl] at cb2
       have had:=Lib.hid (HAD.out kid (hkid ▸ List.getElem_mem _))
       have HTSr:=Lib.hid hTSr
       have hcst:((ap.take (j + 1)).map c2).sum=((ap.take j).map c2).sum + c2 kid:=by rw [sum_take_succ c2 hja,hkid]
       have hcle:=sum_take_le c2 ap (j + 1)
       have hfst:(ap.take (j + 1)).flatMap T2=(ap.take j).flatMap T2 ++ T2 kid:=by rw [flat_take_succ T2 hja,hkid]
       have hfle:=flat_take_le2 T2 ap (j + 1)
       rw [hfst,List.length_append] at hfle
       have HFST:=Lib.hid hfst
       have hnn:=HN.out
       have hnnr:=HNR.out
       rw [List.length_cons,List.length_append] at hnnr
       have hc2k:c2 kid=Fw.cst B f1 kid + tcst B f1 kid:=by rw [← HC2.out]
       have hT2k:T2 kid=tl B Y.ww Y.wh f1 (aprt B Y.ww Y.wh f1 kid x):=by rw [← HT2.out]
       clear hIa hkid hTSr hfst
       go_upto_region 16 with (fail)
       clear cb2 lb2
       have HXC:Hid (∀ j,j<7→wr.cell? ⟨w.heap.size,0 + j,none⟩=(ldc x)[j]?):=Lib.hid fun j hj=>by rw [Nat.zero_add];exact A0.cell j
       have lNr:=A0.lt
       obtain ⟨y,hy⟩:∃ y,aprt B Y.ww Y.wh f1 kid x=y:=⟨_,rfl⟩
       have hyid:y.id=kid∧Wf y.i0∧Wf y.i1:=by
        rw [← hy]
        have hb:=Fw.laid_bd ((Fw.lay_laid B f1 kid (ptOf (B kid).sty (B x.id).sty Y.ww Y.wh x.s0 x.s1).r0 (ptOf (B kid).sty (B x.id).sty Y.ww Y.wh x.s0 x.s1).r1 (apS (B kid).sty (ptOf (B kid).sty (B x.id).sty Y.ww Y.wh x.s0 x.s1).r0) (spn (B kid).sty 1 (ptOf (B kid).sty (B x.id).sty Y.ww Y.wh x.s0 x.s1).r1 (ptOf (B kid).sty (B x.id).sty Y.ww Y.wh x.s0 x.s1).r0)))
        exact ⟨rfl,by rw [wf_iff];unfold aprt;simp only [];omega,by rw [wf_iff];unfold aprt;simp only [];omega⟩
       have HYI:=Lib.hid hyid
       have keyA:Calls Tryz.prog 73 #[.pointer (some ⟨Y.lb,0,none⟩),.int .i64 kid,.agg (ldc x)] wr fun e w'=>e = .returned (.agg (ldc y))∧∃ n2 P2,n2≤n' + Fw.cst B f1 kid∧Kp Y B F n2 P2 w'∧(∀ b,P2 b→P' b∨wr.heap.size≤b)∧Out (fun b=>b=Y.pm) wr w':=by
        rw [← hy]
        exact (flapart had.out.2.2.2 KMp.keep KMp.out HTSr.out.ro HTSr.out.ro.kinds.lt kid x HZ.out had.out.1 had.out.2.1 wr n' P' (LSt.start HTSr.out.kp HTSr.out.lt) Z3f (B kid).sty (B x.id).sty rfl rfl _ _ _ _ _ _ (prt_of (B kid).sty (B x.id).sty Y.ww Y.wh x.s0 x.s1) _ rfl).mono fun e w' ⟨he,n2,P2,h1,h2,h3,h4⟩=>⟨he,n2,P2,h1,h2.kp,fun b hb=>by
         by_cases hq:b<wr.heap.size
         · exact .inl (h3 b hq hb)
         · exact .inr Z3f,h4⟩
       have keyT:∀ X n2 P2,TS Y B F D w P n2 P2 nr' g' X→n2≤n' + Fw.cst B f1 kid→Calls Tryz.prog 44 #[.pointer (some ⟨Y.lb,0,none⟩),.agg (ldc y)] X fun e w'=>e = .returned (.tuple #[])∧∃ n3 P3 nr3,n3≤n2 + tcst B f1 kid∧Kp Y B F n3 P3 w'∧(∀ b,P3 b→P2 b∨X.heap.size≤b)∧nr3≤nr' + (T2 kid).length∧GM 3 w' Y.rm nr3 (gputs g' (T2 kid))∧Out (fun b=>b=Y.pm∨b=Y.rm) X w':=fun X n2 P2 h h2=>by
        have hq:=had.out.2.2.1 y X n2 P2 nr' g' (by rw [HYI.out.1];exact had.out.1) (by rw [HYI.out.1];exact had.out.2.1) HYI.out.2.1 HYI.out.2.2 h.ro h.kp h.lt h.nrm h.gm (by rw [HYI.out.1];omega) (by rw [← hy, ← hT2k];omega)
        rw [HYI.out.1, ← hy, ← hT2k,hy] at hq
        exact hq
       clear hT2k hy hyid
       go_upto_region 17 with (first | (refine wpList_load_at agg_ld siz_ld Z3n _ rfl rfl (ldc_size x) HXC.out ?_) | (go_at_call 73;(with_reducible refine keyA.mono ?_);rintro e' w8 ⟨rfl,n2,P2,hn2,hK2,hP2,hO2⟩;have hTS8:=HTSr.out.laid hrb hrk HR.out hrmo hrm hK2 hP2 hO2;have keyT8:=keyT w8 n2 _ hTS8 hn2;have HTS8:=Lib.hid hTS8;clear hTS8) | (go_at_call 44;(with_reducible refine keyT8.mono ?_);rintro e' w12 ⟨rfl,n3,P3,nr3,hn3,hK3,hP3,hnr3,hG3,hO3⟩))
       have hTS12:=HTS8.out.told hrb hrk HR.out hrmo hrm hK3 hP3 hG3 hO3
       have hs8:=hO2.size
       have A12:=(A0.out (M:=fun b=>b=Y.pm) Z3f hO2).out (M:=fun b=>b=Y.pm∨b=Y.rm) Z3f hO3
       have hgg12:Hid (gputs g' (T2 kid)=gputs (gset g (.int .i64 x.id) (rcv x)) (kids.flatMap T1 ++ (ap.take (j + 1)).flatMap T2)):=Lib.hid (by rw [HFST.out, ← List.append_assoc,gputs_append, ← hgg.out])
       have hlen:((ap.take (j + 1)).flatMap T2).length=((ap.take j).flatMap T2).length + (T2 kid).length:=by rw [HFST.out,List.length_append]
       clear HTS8 hK3 hP3 hG3 hO3 hK2 hP2 hO2 keyA keyT keyT8 HXC hgg A0 HTSr
       go_wp2
       go_roundw
       case rel=>exact ⟨j + 1,n3,_,nr3,_,by omega,by go_num,by omega,by omega,hTS12,hgg12,A12⟩
       case measure=>simp [intOf];omega
     · obtain rfl:j=al:=by omega
       have hta:ap.take j=ap:=List.take_of_length_le (by rw [HAL.out];exact Nat.le_refl _)
       rw [hta] at hn' hnr' hgg
       have HTSr:=Lib.hid hTSr
       have HGG:=Lib.hid hgg.out
       clear hTSr hta hlt hgg A0
       go_wp2
       refine bodyPost_end (results_none rfl _ _ _) rfl ⟨rfl,n',P',nr',by omega,HTSr.out.kp,HTSr.out.new,by simp only [List.length_cons,List.length_append];omega,?_,HTSr.out.out.mono fun b hb q => ?_⟩
       · have h1:=HTSr.out.gm
         rw [HGG.out] at h1
         exact h1
       · rcases q with q | q | q
         · exact .inl q
         · exact .inr q
         · omega
theorem tell_all (Y:Lyt) (W:Wk B F D) (hdap:∀ z,D z→∀ k ∈ (B z).ap,D k∧F z=F k + 1) (hlap:∀ z,D z→(B z).ap.length≤10000) (hrb:Y.rm≠Y.bm) (hrk:Y.rm≠Y.km):∀ f,TellOK Y B F D f:=by
 intro f
 induction f with
 | zero=>exact tell_ok W hdap hlap hrb hrk 0 fun f' e=>by omega
 | succ f ih=>exact tell_ok W hdap hlap hrb hrk (f + 1) fun f' e=>by obtain rfl:f=f':=Z3f;exact ih
end
def shn (T:Tr.T):Nat→Int→Bool
 | 0,_=>true
 | f + 1,z=>match T z with
   | none=>true
   | some nd=>(nd.sty.c 0 != 3) && shn T f nd.up
theorem field_display (s:Re.St) (W:World):(Instr.field 37 (.agg (cells s)) 0).run Tryz.prog W = .ok (.int .i64 (s.c 0)) W:=by kernel_rfl
noncomputable def depOf (T:Tr.T) (z:Int):Nat:=@dite Nat (∃ m,Tr.Dp T z m) (Classical.propDecidable _) (fun h=>h.choose + 1) (fun _=>0)
theorem depOf_dp {T:Tr.T} {z:Int} {m:Nat} (h:Tr.Dp T z m):depOf T z=m + 1:=by
 have e:∃ m,Tr.Dp T z m:=⟨m,h⟩
 unfold depOf
 rw [dif_pos e,e.choose_spec.det h]
theorem depOf_none {T:Tr.T} {z:Int} (h:T z=none):depOf T z=0:=by
 unfold depOf
 refine dif_neg ?_
 rintro ⟨m,hm⟩
 obtain ⟨nd,hn⟩:=hm.live
 rw [h] at hn;cases hn
section
variable {w:World} {t n:Nat} {L:Lay} {T:Tr.T}
set_option maxHeartbeats 4000000 in
theorem fshown_some (h:Rep w t L T n) (hr:∀ nd,T 0=some nd→nd.up = -1) {z:Int} {d:Nat} (hd:Tr.Dp T z d):Calls Tryz.prog 23 #[.pointer (some ⟨t,0,none⟩),.int .i64 z] w fun e w'=>e = .returned (.bool (shn T (d + 1) z))∧Below w.heap.size w w':=by
 have hm:T (-1)=none:=by
  cases e:T (-1) with
  | none=>rfl
  | some nd=>have:=(h.small _ nd e).1;omega
 obtain ⟨nd0,hT0⟩:=hd.live
 have key0:=thas_any h (h.wf hT0)
 rw [hT0] at key0
 have HR:=Lib.hid h
 have HROOT:=Lib.hid hr
 have HD:=Lib.hid hd
 obtain ⟨ans,HANS⟩:∃ x,Hid (shn T (d + 1) z=x):=⟨_,Lib.hid rfl⟩
 rw [HANS.out]
 clear h hr hd hT0
 go_enter Tryz.func23,Tryz.ntmps23
 go_wp2_with (go_at_call 33;(with_reducible refine key0.mono ?_);rintro e w' ⟨rfl,rfl⟩)
 go_loopw [1] (fun i wr=>((∃ (y:Int) (m:Nat),i = .int .i64 y∧Tr.Dp T y m∧shn T (m + 1) y=ans)∨(i = .int .i64 (-1)∧ans=true))∧Below w.heap.size w wr) (fun i _=>depOf T (intOf i))
 case atStart=>exact ⟨.inl ⟨z,d,rfl,HD.out,HANS.out⟩,Below.refl _ _⟩
 case round =>
  obtain ⟨hrel,hB⟩:=hrel
  rcases hrel with ⟨y,m,rfl,hD,hs⟩ | ⟨rfl,rfl⟩
  · obtain ⟨nd,hT⟩:=hD.live
    have h1:=HR.out.after hB
    have key:=thas_any h1 (h1.wf hT)
    have key2:=tstyle_any h1 (h1.wf hT)
    rw [hT] at key key2
    have HB:=Lib.hid hB
    have HDD:=Lib.hid hD
    have HSS:=Lib.hid hs
    have HT:=Lib.hid hT
    have H1:=Lib.hid h1
    have hfd:=field_display nd.sty
    have keyu:=fun X (hb:Below wr.heap.size wr X)=>tup_any (h1.after hb) (h1.wf hT)
    have hu:Hid (upOf T y=nd.up):=Lib.hid (by unfold upOf;rw [hT])
    generalize upOf T y=u at *
    clear hB hD hs h1 hT
    simp only [Option.elim_some] at key2
    cases hc:(nd.sty.c 0 == 3)
    · have HC:=Lib.hid hc
      go_wp2_with (first | (go_at_call 33;(with_reducible refine key.mono ?_);rintro e w' ⟨rfl,rfl⟩) | (go_at_call 25;(with_reducible refine key2.mono ?_);rintro e w2 ⟨rfl,hb2⟩) | (go_at_call 52;(with_reducible refine (keyu _ hb2).mono ?_);rintro e w' ⟨rfl,rfl⟩))
      have hs:=HSS.out
      have hne:(nd.sty.c 0 != 3)=true:=by simp only [bne,HC.out];rfl
      have hB2:Below w.heap.size w w2:=Below.after2 HB.out (Nat.le_refl _) hb2
      rw [hu.out]
      have hsh:shn T (m + 1) y=shn T m nd.up:=by
       show (match T y with | none=>true | some nd=>(nd.sty.c 0 != 3) && shn T m nd.up)=_
       rw [HT.out];simp only [hne,Bool.true_and]
      rw [hsh] at hs
      cases HDD.out with
      | root h0 =>
        have h0':=h0
        rw [HT.out] at h0;cases h0
        have hup:nd.up = -1:=HROOT.out nd h0'
        refine ⟨⟨.inr ⟨by rw [hup],hs.symm⟩,hB2⟩,?_⟩
        show depOf T nd.up<depOf T 0
        rw [hup,depOf_none hm,depOf_dp (Tr.Dp.root h0')]
        omega
      | step h1 h0 h2 =>
        have h1':=h1
        rw [HT.out] at h1;cases h1
        refine ⟨⟨.inl ⟨nd.up,_,rfl,h2,hs⟩,hB2⟩,?_⟩
        show depOf T nd.up<depOf T y
        rw [depOf_dp h2,depOf_dp (Tr.Dp.step h1' h0 h2)]
        omega
    · go_wp2_with (first | (go_at_call 33;(with_reducible refine key.mono ?_);rintro e w' ⟨rfl,rfl⟩) | (go_at_call 25;(with_reducible refine key2.mono ?_);rintro e w2 ⟨rfl,hb2⟩))
      go_ret
      refine ⟨ret_bool ?_,Below.after2 HB.out (Nat.le_refl _) hb2⟩
      rw [← HSS.out]
      show false=(match T y with | none=>true | some nd=>(nd.sty.c 0 != 3) && shn T m nd.up)
      rw [HT.out];simp only [bne,hc];rfl
  · have h1:=HR.out.after hB
    have key:=thas_any h1 (z := -1) Z47
    rw [hm] at key
    clear h1
    go_wp2_with (go_at_call 33;(with_reducible refine key.mono ?_);rintro e w' ⟨rfl,rfl⟩)
    go_ret
    exact ⟨rfl,hB⟩
end
def Apart (v u:Value):Prop:=v.ownBlock=none∨u.ownBlock=none∨v.ownBlock≠u.ownBlock
theorem Apart.symm {v u:Value} (h:Apart v u):Apart u v:=by
 rcases h with h | h | h
 · exact .inr (.inl h)
 · exact .inl h
 · exact .inr (.inr (Ne.symm h))
theorem append_two {W:World} {base k m:Nat} {v u:Value} {xs ys:List Int} (x:Int) (hu:W.ownsRow base 3 1 u k (xs.map (Value.int .i64))) (hv:W.ownsRow base 3 1 v m (ys.map (Value.int .i64))) (ha:Apart v u) (hbase:base≤W.heap.size) (hk:k≤10000) :
  ∃ g c w',(Builtin.append_ #[52,52] 52 #[u,.slice (some ⟨W.heap.size,0,none⟩) 1 1]).run Tryz.prog (W.alloc (.cells #[.int .i64 x] 3)) = .ok (.slice (some ⟨g,0,none⟩) (k + 1) c) w' ∧
   w'.ownsRow base 3 1 (.slice (some ⟨g,0,none⟩) (k + 1) c) (k + 1) ((xs ++ [x]).map (Value.int .i64))∧w'.ownsRow base 3 1 v m (ys.map (Value.int .i64))∧Apart v (.slice (some ⟨g,0,none⟩) (k + 1) c)∧Below base W w'∧base≤w'.heap.size:=by
 obtain ⟨i0,hi0,hz0,hz1,hz2⟩:=info_parts intZero
 obtain ⟨v',w',hr,ho,hg,_,hblk⟩:=run_append_own_at (P:=Tryz.prog) (w:=W.alloc (.cells #[.int .i64 x] 3)) base 52 52 3 i0 (.int .i64 0) 1 8 Tryz.underlying52 hi0 hz0 hz1 hz2 rfl Z3i u k _ (hu.alloc _) ⟨W.heap.size,0,none⟩ 1 1 [.int .i64 x] rfl
  (by intro j u hj
      match j,hj with
      | 0,hj=>simp at hj;subst hj;simp [Addr.add])
  Z45 Z40 Z3f Z3p
 obtain ⟨g,c,rfl⟩:=ownsRow_succ ho
 have hv2:=hv.alloc (.cells #[.int .i64 x] 3)
 have hB:Below base W w':=(Below.alloc (Below.refl base W) hbase _).grown hg Z3p (fun j ej=>(hu.lt j ej).1)
 have hvb:v.ownBlock=none∨v.ownBlock≠u.ownBlock:=by
  rcases ha with h | h | h
  · exact .inl h
  · by_cases hv0:v.ownBlock=none
    · exact .inl hv0
    · exact .inr (by rw [h];exact hv0)
  · exact .inr h
 refine ⟨g,c,w',hr,by rw [List.map_append];exact ho,hv2.kept hg hvb,?_,hB,?_⟩
 · by_cases hv0:v.ownBlock=none
   · exact .inl hv0
   · refine .inr (.inr ?_)
     rcases hblk with h | h
     · rw [h]
       exact hvb.resolve_left hv0
     · rw [h]
       intro e
       have:=(hv.lt _ e).2
       simp at this
       omega
 · have:=hg.size
   simp at this
   omega
def stOf (T:Tr.T) (z:Int):Re.St:=(T z).elim Re.zero (·.sty)
def isOut (s:Re.St):Bool:=s.c 1 == 2 || s.c 1 == 3
def kfl (T:Tr.T) (l:List Int):List Int:=l.filter fun k=>((stOf T k).c 0 != 3) && !isOut (stOf T k)
def kap (T:Tr.T) (l:List Int):List Int:=l.filter fun k=>((stOf T k).c 0 != 3) && isOut (stOf T k)
theorem kfl_len (T:Tr.T) (l:List Int) (k:Nat) (h:l.length≤5000):(kfl T (l.take k)).length≤10000:=by
 unfold kfl
 have:=List.length_filter_le (fun k=>((stOf T k).c 0 != 3) && !isOut (stOf T k)) (l.take k)
 rw [List.length_take] at this
 omega
theorem kap_len (T:Tr.T) (l:List Int) (k:Nat) (h:l.length≤5000):(kap T (l.take k)).length≤10000:=by
 unfold kap
 have:=List.length_filter_le (fun k=>((stOf T k).c 0 != 3) && isOut (stOf T k)) (l.take k)
 rw [List.length_take] at this
 omega
theorem meas_k {k L:Nat} (h:k<L):L - (intOf (.int .i64 ((k:Int) + 1))).toNat<L - (intOf (.int .i64 (k:Int))).toNat:=by simp [intOf];omega
section
variable {w:World} {t n:Nat} {L:Lay} {T:Tr.T}
set_option maxHeartbeats 4000000 in
theorem fkids_any (h:Rep w t L T n) {z:Int} {nd:Tr.Nd} (hT:T z=some nd) (ks:List Int) (hks:nd.kids=ks) (hk:∀ x ∈ ks,∃ xd,T x=some xd) (hl:ks.length≤5000):Calls Tryz.prog 49 #[.pointer (some ⟨t,0,none⟩),.int .i64 z] w fun e w'=>(∃ v u,e = .returned (.tuple #[v,u])∧w'.ownsRow w.heap.size 3 1 v (kfl T ks).length ((kfl T ks).map (Value.int .i64))∧w'.ownsRow w.heap.size 3 1 u (kap T ks).length ((kap T ks).map (Value.int .i64))∧Apart v u)∧Below w.heap.size w w':=by
 have keyk:=tkids_any h (h.wf hT)
 rw [hT] at keyk
 simp only [Option.elim_some,hks] at keyk
 clear hks
 have HR:=Lib.hid h
 have HK:=Lib.hid hk
 have HL:=Lib.hid hl
 clear h hk hl
 go_enter Tryz.func49,Tryz.ntmps49
 go_upto_region 2 with (go_at_call 88;(with_reducible refine keyk.mono ?_);rintro e w1 ⟨⟨v1,rfl,ho1⟩,hb1⟩;obtain ⟨A1,c1,rfl,hI1,_,_,hAn1⟩:=KS.ints (rowBase ho1 (Nat.zero_le _)))
 have HI:=Lib.hid hI1
 have HB1:=Lib.hid hb1
 have hw1:=hb1.size
 clear ho1 keyk hb1
 clear hT
 go_loopw [4,5,13] (fun f a i wr=>∃ (k:Nat),k≤ks.length∧i = .int .i64 (k:Nat)∧wr.ownsRow w1.heap.size 3 1 f (kfl T (ks.take k)).length ((kfl T (ks.take k)).map (Value.int .i64))∧wr.ownsRow w1.heap.size 3 1 a (kap T (ks.take k)).length ((kap T (ks.take k)).map (Value.int .i64))∧Apart f a∧Below w1.heap.size w1 wr) (fun _ _ i _=>ks.length - (intOf i).toNat)
 case atStart=>exact ⟨0,by omega,rfl,by simpa [kfl] using World.ownsRow_nil _ _ _ _,by simpa [kap] using World.ownsRow_nil _ _ _ _,.inl rfl,Below.refl _ _⟩
 case round =>
  obtain ⟨k,hkl,rfl,hv,hu,hap,hB⟩:=hrel
  by_cases hlt:k<ks.length
  · obtain ⟨b0,o0,hA0,l0,c0⟩:=(HI.out.after hB).at_ (k:=k) hlt
    subst hA0
    obtain ⟨x,hx⟩:∃ x,ks.getD k 0=x:=⟨_,rfl⟩
    rw [hx] at c0
    have hxx:ks[k]=x:=by rw [← hx,List.getD_eq_getElem?_getD,List.getElem?_eq_getElem hlt];rfl
    obtain ⟨xd,hxd⟩:=HK.out x (hxx ▸ List.getElem_mem _)
    have h1:=(HR.out.after HB1.out).after hB
    have key2:=tstyle_any h1 (h1.wf hxd)
    have hst:(T x).elim Re.zero (·.sty)=stOf T x:=rfl
    rw [hst] at key2
    have htk:ks.take (k + 1)=ks.take k ++ [x]:=by rw [List.take_succ_eq_append_getElem hlt,hxx]
    have hfl1:kfl T (ks.take (k + 1))=kfl T (ks.take k) ++ kfl T [x]:=by rw [htk];simp [kfl]
    have hap1:kap T (ks.take (k + 1))=kap T (ks.take k) ++ kap T [x]:=by rw [htk];simp [kap]
    have hflx:kfl T [x]=if ((stOf T x).c 0 != 3 && !isOut (stOf T x))=true then [x] else []:=by simp [kfl,List.filter];split <;> simp_all
    have hapx:kap T [x]=if ((stOf T x).c 0 != 3 && isOut (stOf T x))=true then [x] else []:=by simp [kap,List.filter];split <;> simp_all
    generalize stOf T x=sx at *
    clear h1
    cases e0:(sx.c 0 == 3)
    · cases e2:(sx.c 1 == 2)
      · cases e3:(sx.c 1 == 3)
        · have hwk:wrap64 ((k:Int) + 1)=(k:Int) + 1:=by have:=HL.out;exact IntWalk.wrap64_in _ Z3f
          have HLT:=Lib.hid hlt
          have n0:(sx.c 0 != 3)=true:=by simp only [bne,e0];rfl
          have no:isOut sx=false:=by unfold isOut;rw [e2,e3];rfl
          have HKF:Hid (kfl T (ks.take (k + 1))=kfl T (ks.take k) ++ [x]):=Lib.hid (by rw [hfl1,hflx,if_pos (by rw [n0,no];rfl)])
          have HKA:Hid (kap T (ks.take (k + 1))=kap T (ks.take k)):=Lib.hid (by rw [hap1,hapx,if_neg (by rw [n0,no];decide),List.append_nil])
          clear hfl1 hap1 hflx hapx
          go_upto_region 4 with (fail)
          go_upto_region 6 with (first | (go_at_call 25;(with_reducible refine key2.mono ?_);rintro e w2 ⟨rfl,hb2⟩) | (refine wpList_alloc_style Z3n rfl ?_) | (refine wpList_build_zero Z3n rfl ?_) | (refine wpList_load_style Z3n _ rfl rfl Z3l ?_) | (refine wpList_store_same Z3n _ _ rfl rfl rfl Z3l ?_) | (refine wpList_store_style Z3n _ _ rfl rfl rfl Z3l ?_))
          (try simp only [tkp,tka,tkz,tks])
          generalize hW:World.setRow _ _ _=w3
          have A3:At w3 w2.heap.size (.cells (cells sx) 37):=by rw [← hW];exact At.setRow (At.new w2 (.cells (cells Re.zero) 37)) (cells sx)
          have hb3:Below wr.heap.size wr w3:=by rw [← hW];exact below_setRow (hb2.alloc hb2.size (.cells (cells Re.zero) 37)) hb2.size (cells sx)
          clear hW
          have hv3:=ownsRow_out (M:=fun _=>False) hv (fun _ _ q=>q) (Out.of_below hb3)
          have hu3:=ownsRow_out (M:=fun _=>False) hu (fun _ _ q=>q) (Out.of_below hb3)
          have hB3:Below w1.heap.size w1 w3:=Below.after2 hB (Nat.le_refl _) hb3
          have l3:=A3.lt
          have d0:=A3.st 0 Z3i rfl
          have d1:=A3.st 1 Z3i rfl
          have hlen1:(kfl T (ks.take k)).length≤10000:=kfl_len T ks k HL.out
          have hlen2:(kap T (ks.take k)).length≤10000:=kap_len T ks k HL.out
          obtain ⟨g,c,w4,hr,ho4,hp4,ha4,hb4,hs4⟩:=append_two x hv3 hu3 hap.symm (by have:=hB3.size;omega) hlen1
          have HRR:=Lib.hid hr
          clear hr
          go_wp2_with (at_builtin;refine wpList_append_run Z3n _ _ 52 rfl rfl rfl HRR.out ?_)
          (try simp only [tkp,tka,tkz,tks])
          (try simp only [Act.put,List.setIfInBounds_toArray,List.set_cons_zero,List.set_cons_succ,List.size_toArray,Array.getD_eq_getD_getElem?])
          go_roundw
          case rel =>
           refine ⟨k + 1,Nat.succ_le_of_lt HLT.out,?_,?_⟩
           · exact Z35
           · rw [HKF.out,HKA.out]
             exact ⟨by rw [List.length_append];exact ho4,hp4,ha4.symm,hB3.trans hb4⟩
          case measure =>
           exact Z2c
        · have hwk:wrap64 ((k:Int) + 1)=(k:Int) + 1:=by have:=HL.out;exact IntWalk.wrap64_in _ Z3f
          have HLT:=Lib.hid hlt
          have n0:(sx.c 0 != 3)=true:=by simp only [bne,e0];rfl
          have no:isOut sx=true:=by unfold isOut;rw [e2,e3];rfl
          exact Zf
      · have hwk:wrap64 ((k:Int) + 1)=(k:Int) + 1:=by have:=HL.out;exact IntWalk.wrap64_in _ Z3f
        have HLT:=Lib.hid hlt
        have n0:(sx.c 0 != 3)=true:=by simp only [bne,e0];rfl
        have no:isOut sx=true:=by unfold isOut;rw [e2];rfl
        exact Zf
    · have hwk:wrap64 ((k:Int) + 1)=(k:Int) + 1:=by have:=HL.out;exact IntWalk.wrap64_in _ Z3f
      have HLT:=Lib.hid hlt
      have n0:(sx.c 0 != 3)=false:=by simp only [bne,e0];rfl
      have HKF:Hid (kfl T (ks.take (k + 1))=kfl T (ks.take k)):=Lib.hid (by rw [hfl1,hflx,if_neg (by rw [n0];simp),List.append_nil])
      have HKA:Hid (kap T (ks.take (k + 1))=kap T (ks.take k)):=Lib.hid (by rw [hap1,hapx,if_neg (by rw [n0];simp),List.append_nil])
      clear hfl1 hap1 hflx hapx
      go_upto_region 4 with (fail)
      go_upto_region 6 with (first | (go_at_call 25;(with_reducible refine key2.mono ?_);rintro e w2 ⟨rfl,hb2⟩) | (refine wpList_alloc_style Z3n rfl ?_) | (refine wpList_build_zero Z3n rfl ?_) | (refine wpList_load_style Z3n _ rfl rfl Z3l ?_) | (refine wpList_store_same Z3n _ _ rfl rfl rfl Z3l ?_) | (refine wpList_store_style Z3n _ _ rfl rfl rfl Z3l ?_))
      (try simp only [tkp,tka,tkz,tks])
      generalize hW:World.setRow _ _ _=w3
      have A3:At w3 w2.heap.size (.cells (cells sx) 37):=by rw [← hW];exact At.setRow (At.new w2 (.cells (cells Re.zero) 37)) (cells sx)
      have hb3:Below wr.heap.size wr w3:=by rw [← hW];exact below_setRow (hb2.alloc hb2.size (.cells (cells Re.zero) 37)) hb2.size (cells sx)
      clear hW
      have hv3:=ownsRow_out (M:=fun _=>False) hv (fun _ _ q=>q) (Out.of_below hb3)
      have hu3:=ownsRow_out (M:=fun _=>False) hu (fun _ _ q=>q) (Out.of_below hb3)
      have hB3:Below w1.heap.size w1 w3:=Below.after2 hB (Nat.le_refl _) hb3
      have l3:=A3.lt
      have d0:=A3.st 0 Z3i rfl
      have d1:=A3.st 1 Z3i rfl
      have hlen1:(kfl T (ks.take k)).length≤10000:=kfl_len T ks k HL.out
      have hlen2:(kap T (ks.take k)).length≤10000:=kap_len T ks k HL.out
      go_wp2
      (try simp only [tkp,tka,tkz,tks])
      (try simp only [Act.put,List.setIfInBounds_toArray,List.set_cons_zero,List.set_cons_succ,List.size_toArray,Array.getD_eq_getD_getElem?])
      go_roundw
      case rel =>
       refine ⟨k + 1,Nat.succ_le_of_lt HLT.out,?_,?_⟩
       · exact Z35
       · rw [HKF.out,HKA.out]
         exact ⟨hv3,hu3,hap,hB3⟩
      case measure =>
       exact Z2c
  · obtain rfl:k=ks.length:=by omega
    rw [List.take_length] at hv hu
    go_wp2
    refine bodyPost_ret (v:= .tuple #[_,_]) (by simp [results,Tryz.results49,go_sem];first | done | exact ⟨rfl,rfl⟩ | rfl) rfl ⟨⟨_,_,rfl,rowBase hv hw1,rowBase hu hw1,hap⟩,Below.after2 HB1.out (Nat.le_refl _) hB⟩
end
end Go.Proofs.YteggipnplbkijaaGreat.Fix
