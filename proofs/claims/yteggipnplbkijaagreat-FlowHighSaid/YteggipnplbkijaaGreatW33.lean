/- Boxes laid by the program: what its functions do, part 33. -/
import Derived.Deep.Slices
import Derived.Laws.StructEq
import Derived.Test.YteggipnplbkijaaGreatWK
import Derived.Test.YteggipnplbkijaaGreatW03
import Derived.Test.YteggipnplbkijaaGreatW04
import Derived.Test.YteggipnplbkijaaGreatW11
import Derived.Test.YteggipnplbkijaaGreatW31
import Derived.Test.YteggipnplbkijaaGreatW32
set_option linter.unusedVariables false
set_option linter.unusedSimpArgs false
set_option linter.unusedSectionVars false
set_option maxRecDepth 100000
namespace Go.Proofs.YteggipnplbkijaaGreat.Fix
open Go.ChangeShapes Go.WideShapes Go.ChangeAt Go.RowKit Go.Deep Go.Joins
structure Actn where
 k:Int
 a:Int
 b:Int
 c:Int
 s:Re.St
def acells (x:Actn):Array Value:=#[.int .i64 x.k,.int .i64 x.a,.int .i64 x.b,.int .i64 x.c] ++ cells x.s
structure AFits (x:Actn):Prop where
 k:Wf x.k
 a:Wf x.a
 b:Wf x.b
 c:Wf x.c
 s:Fits x.s
def ActAt (W:World) (b o:Nat) (x:Actn):Prop:=∀ j,j<59→W.cell? ⟨b,o + j,none⟩=(acells x)[j]?
def ARow (w:World) (a:Option Addr) (len cap:Nat):Prop :=
 (a=none∧len=0∧cap=0)∨∃ x,a=some x∧len≤cap∧cap≤maxLen∧∃ l:Nat→Actn,∀ i,i<len→AFits (l i)∧∀ j,j<59→w.cell? (x.add (i * 59 + j))=(acells (l i))[j]?
section
variable {H:Type} {enc:TypeId × Value→H} {w:World} {base:Nat} {spare:Nat→Bool} {held:Bool}
end
theorem ARow.cap {w:World} {a:Option Addr} {len cap:Nat} (h:ARow w a len cap):len≤cap∧len≤9223372036854775807:=by
 rcases h with ⟨_,rfl,rfl⟩ | ⟨_,_,h,h2,_⟩
 · omega
 · simp only [maxLen] at h2;omega
def Acts (w:World) (a:Option Addr) (len:Nat) (l:Nat→Actn):Prop:=0<len→∃ b off,a=some ⟨b,off,none⟩∧b<w.heap.size∧∀ k,k<len→AFits (l k)∧ActAt w b (off + k * 59) (l k)
theorem Acts.after {W W':World} {a:Option Addr} {n:Nat} {l:Nat→Actn} (h:Acts W a n l) (hb:Below W.heap.size W W'):Acts W' a n l:=fun h0=>by
 obtain ⟨b,off,e,hl,hc⟩:=h h0
 have hsz:=hb.size
 refine ⟨b,off,e,by omega,fun k hk=>⟨(hc k hk).1,fun j hj => ?_⟩⟩
 rw [← (hc k hk).2 j hj]
 exact hb.cell (p:=⟨b,off + k * 59 + j,none⟩) hl
def FitsT (T:Tr.T):Prop:=∀ z nd,T z=some nd→Fits nd.sty
theorem fits_zero:Fits Re.zero:=fun i _ _=>Z3q
end Go.Proofs.YteggipnplbkijaaGreat.Fix
namespace Go.Proofs.YteggipnplbkijaaGreat.Fix
open Go.ChangeShapes Go.WideShapes Go.ChangeAt Go.RowKit Go.Deep Go.Joins Go.Shelf
def StyLe (T' T:Tr.T):Prop:=∀ z nd,T' z=some nd→nd.sty=Re.zero∨∃ q,T z=some q∧q.sty=nd.sty
theorem StyLe.refl (T:Tr.T):StyLe T T:=fun z nd h => .inr ⟨nd,h,rfl⟩
theorem StyLe.trans {T T' T'':Tr.T} (h:StyLe T'' T') (k:StyLe T' T):StyLe T'' T:=fun z nd hz=>by
 rcases h z nd hz with e | ⟨q,hq,e⟩
 · exact .inl e
 · rw [← e];exact k z q hq
theorem StyLe.set {T:Tr.T} {x:Int} {p nd:Tr.Nd} (hx:T x=some p) (he:nd.sty=p.sty):StyLe (Tr.set T x nd) T:=fun z q hz=>by
 by_cases e:z=x
 · subst e;rw [Tr.set_same] at hz;cases hz;exact .inr ⟨p,hx,he.symm⟩
 · rw [Tr.set_other _ _ e] at hz;exact .inr ⟨q,hz,rfl⟩
theorem StyLe.leave (T:Tr.T) (x:Int):StyLe (Tr.leave T x) T:=by
 unfold Tr.leave
 split
 · exact StyLe.refl _
 · split
   · exact StyLe.refl _
   · rename_i p hp;exact StyLe.set hp rfl
theorem StyLe.enter (T:Tr.T) (x u:Int) (i:Nat):StyLe (Tr.enter T x u i) T:=by
 unfold Tr.enter
 split
 · rename_i p nd hu hx
   have h1:StyLe (Tr.set T u { p with kids:=Tr.wi p.kids i x }) T:=StyLe.set hu rfl
   intro z q hz
   by_cases e:z=x
   · subst e;rw [Tr.set_same] at hz;cases hz;exact .inr ⟨nd,hx,rfl⟩
   · rw [Tr.set_other _ _ e] at hz;exact h1 z q hz
 · exact StyLe.refl _
theorem StyLe.del (T:Tr.T) (l:List Int):StyLe (Tr.del T l) T:=fun z q hz=>by
 unfold Tr.del at hz
 split at hz
 · cases hz
 · exact .inr ⟨q,hz,rfl⟩
theorem StyLe.addR (T:Tr.T) (u a:Int):StyLe (Tr.addR T u a) T:=by
 unfold Tr.addR
 split
 · unfold Tr.addT
   refine (StyLe.enter _ _ _ _).trans fun z q hz => ?_
   by_cases e:z=Tr.free T
   · subst e;rw [Tr.set_same] at hz;cases hz;exact .inl rfl
   · rw [Tr.set_other _ _ e] at hz;exact .inr ⟨q,hz,rfl⟩
 · exact StyLe.refl _
theorem StyLe.movR (T:Tr.T) (x u a:Int):StyLe (Tr.movR T x u a) T:=by
 unfold Tr.movR
 split
 · exact (StyLe.enter _ _ _ _).trans (StyLe.leave _ _)
 · exact StyLe.refl _
theorem FitsT.le {T T':Tr.T} (h:FitsT T) (k:StyLe T' T):FitsT T':=fun z nd hz=>by
 rcases k z nd hz with e | ⟨q,hq,e⟩
 · rw [e];exact fits_zero
 · rw [← e];exact h z q hq
theorem FitsT.setT {T:Tr.T} (h:FitsT T) (z:Int) {s:Re.St} (hs:Fits s):FitsT (setT T z s):=by
 unfold Fix.setT
 split
 · unfold Tr.styT
   split
   · exact h
   · intro y nd hy
     by_cases e:y=z
     · subst e;rw [Tr.set_same] at hy;cases hy;exact hs
     · rw [Tr.set_other _ _ e] at hy;exact h y nd hy
 · exact h
theorem setT_alike (T:Tr.T) (z:Int) (s:Re.St):Tr.Alike T (setT T z s):=by
 unfold Fix.setT
 split
 · exact Tr.alike_sty T z s
 · exact fun _=>rfl
theorem alike_sub {t s:Tr.T} (H:Tr.WF t) (h:Tr.Alike t s) {x:Int} {nd:Tr.Nd} (hx:t x=some nd):Tr.sub s 64 x=Tr.sub t 64 x∧Tr.hgt s 64 x=Tr.hgt t 64 x :=
 ((H.fit64 hx).congr fun y _ nd hy=>by obtain ⟨nd',h1,_,h2⟩:=h.some hy;exact ⟨nd',h1,h2⟩).2
theorem alike_ord {t s:Tr.T} (H:Tr.WF t) (h:Tr.Alike t s):Tr.ord s=Tr.ord t:=by
 obtain ⟨nd,h1,_⟩:=H.root
 exact (alike_sub H h h1).1
theorem Inv.set {W W':World} {t n:Nat} {L:Lay} {T:Tr.T} (h:Inv W t L T n) {z:Int} {s:Re.St} (hr:Rep W' t L (setT T z s) n):Inv W' t L (setT T z s) n :=
 ⟨hr,h.wf.alike (setT_alike T z s),by rw [alike_ord h.wf (setT_alike T z s)];exact h.num⟩
structure Good (W:World) (t:Nat) (L:Lay) (T:Tr.T) (n n0:Nat):Prop where
 inv:Inv W t L T n
 own:∀ b,owned t L T b→n0≤b
 fit:FitsT T
theorem Good.step {W W':World} {t n n' n0:Nat} {L L':Lay} {T T':Tr.T} (h:Good W t L T n n0) (hi:Inv W' t L' T' n') (hg:Grow t L L' T T' W W') (hf:FitsT T') (h0:n0≤W.heap.size):Good W' t L' T' n' n0∧Below n0 W W' :=
 ⟨⟨hi,fun b hb=>(hg.2 b hb).elim (h.own b) fun q=>Nat.le_trans h0 q,hf⟩,hg.1.below h0 fun b hb q=>absurd (h.own b q) Z3f⟩
theorem Good.after {W W':World} {t n n0:Nat} {L:Lay} {T:Tr.T} (h:Good W t L T n n0) (hb:Below W.heap.size W W'):Good W' t L T n n0:=⟨⟨h.inv.rep.after hb,h.inv.wf,h.inv.num⟩,h.own,h.fit⟩
theorem Inv.after {W W':World} {t n:Nat} {L:Lay} {T:Tr.T} (h:Inv W t L T n) (hb:Below W.heap.size W W'):Inv W' t L T n:=⟨h.rep.after hb,h.wf,h.num⟩
theorem Good.new {W W':World} {t:Nat} {L:Lay} (h:Inv W' t L T0 1) (hb:∀ b,owned t L T0 b→W.heap.size≤b):Good W' t L T0 1 W.heap.size:=⟨h,hb,fun z nd hz=>by
 unfold T0 at hz
 split at hz
 · cases hz;exact fits_zero
 · cases hz⟩
section
variable {w:World} {t n n0:Nat} {L:Lay} {T:Tr.T}
theorem gadd_any (h:Good w t L T n n0) (hn:n<4096) (h0:n0≤w.heap.size) {u a:Int} (hu:Wf u):Calls Tryz.prog 26 #[.pointer (some ⟨t,0,none⟩),.int .i64 u,.int .i64 a] w fun e w'=>e = .returned (.tuple #[.int .i64 (Tr.addI T u a),.int .i64 (Tr.addE T u a)])∧∃ L' n',Good w' t L' (Tr.addR T u a) n' n0∧n'≤n + 1∧Grow t L L' T (Tr.addR T u a) w w'∧Below n0 w w':=by
 refine (tadd_any h.inv hn hu).mono ?_
 rintro e w' ⟨rfl,L',n',hi,hl,hg⟩
 obtain ⟨g1,g2⟩:=h.step hi hg (h.fit.le (StyLe.addR _ _ _)) h0
 exact ⟨rfl,L',n',g1,hl,hg,g2⟩
theorem gset_any (h:Good w t L T n n0) (h0:n0≤w.heap.size) {x:Int} (hx:Wf x) {s:Re.St} (hs:Fits s):Calls Tryz.prog 27 #[.pointer (some ⟨t,0,none⟩),.int .i64 x,.agg (cells s)] w fun e w'=>e = .returned (.int .i64 (setE T x s))∧Good w' t L (setT T x s) n n0∧Grow t L L T (setT T x s) w w'∧Below n0 w w':=by
 refine (tset_any h.inv.rep hx s).mono ?_
 rintro e w' ⟨rfl,hr,hg⟩
 obtain ⟨g1,g2⟩:=h.step (h.inv.set hr) hg (h.fit.setT _ hs) h0
 exact ⟨rfl,g1,hg,g2⟩
theorem gnew_any (w:World):Calls Tryz.prog 28 #[] w fun e w'=>(∃ t,e = .returned (.pointer (some ⟨t,0,none⟩))∧∃ L,Good w' t L T0 1 w.heap.size)∧Below w.heap.size w w':=by
 refine (tnew_any w).mono ?_
 rintro e w' ⟨⟨t,rfl,L,hr,ho⟩,hb⟩
 refine ⟨⟨t,rfl,L,Good.new ⟨hr,?_,?_⟩ ho⟩,hb⟩
 · have hT:T0 0=some ⟨-1,[],Re.zero⟩:=rfl
   have hz:∀ x nd,T0 x=some nd→x=0∧nd=⟨-1,[],Re.zero⟩:=fun x nd h=>by
    unfold T0 at h
    split at h
    · cases h;exact ⟨by assumption,rfl⟩
    · cases h
   refine ⟨⟨_,hT,rfl⟩,fun x nd h => ?_,fun x nd h h0=>absurd (hz x nd h).1 h0,fun u p x h hx => ?_,fun u p h => ?_,fun x nd h => ?_⟩
   · rw [(hz x nd h).1];omega
   · rw [(hz u p h).2] at hx;cases hx
   · rw [(hz u p h).2];exact List.nodup_nil
   · rw [(hz x nd h).1];exact ⟨0,by omega,.root hT⟩
 · decide +kernel
def kidsOf (T:Tr.T) (z:Int):List Int:=(T z).elim [] (·.kids)
end
def sGap:Re.St:=⟨fun i=>if i=46 then 3 else 0,fun _=>false⟩
def A1:Tr.T:=Tr.addT T0 1 0 0
def A2:Tr.T:=Tr.addT A1 2 0 1
def A3:Tr.T:=Tr.movT A2 1 2 0
def A4:Tr.T:=Tr.styT A3 1 sGap
theorem isSome_ne {t:Tr.T} {z:Int} (h:(t z).isSome=true):t z≠none:=fun e=>by rw [e] at h;cases h
theorem isSome_none {t:Tr.T} {z:Int} (h:(t z).isSome=false):t z=none:=by cases e:t z with
 | none=>rfl
 | some _=>rw [e] at h;cases h
theorem ex_f1:Tr.free T0=1:=Tr.free_eq ⟨by decide,isSome_none (by decide +kernel),fun y h0 h1=>by
 obtain rfl:y=0:=by omega
 exact isSome_ne (by decide +kernel)⟩
theorem ex_e1:Tr.addE T0 0 0=0:=by decide +kernel
theorem ex_i1:Tr.addI T0 0 0=1:=by unfold Tr.addI;rw [ex_e1,if_pos rfl,ex_f1]
theorem ex_t1:Tr.addR T0 0 0=A1:=by unfold Tr.addR;rw [ex_e1,if_pos rfl,ex_f1];rfl
section
variable {w:World} {t n n0:Nat} {L:Lay}
theorem w_add1 (h:Good w t L T0 n n0) (hn:n<4096) (h0:n0≤w.heap.size):Calls Tryz.prog 26 #[.pointer (some ⟨t,0,none⟩),.int .i64 0,.int .i64 0] w fun e w'=>e = .returned (.tuple #[.int .i64 1,.int .i64 0])∧∃ L' n',Good w' t L' A1 n' n0∧n'≤n + 1∧Below n0 w w':=by
 have:=gadd_any h hn h0 (u:=0) (a:=0) ((wf_iff _).2 Z3f)
 rw [ex_i1,ex_e1,ex_t1] at this
 exact this.mono fun e w' ⟨h1,L',n',h2,h3,_,h4⟩=>⟨h1,L',n',h2,h3,h4⟩
end
end Go.Proofs.YteggipnplbkijaaGreat.Fix
namespace Go.Proofs.YteggipnplbkijaaGreat.Fix
section
variable {T:Tr.T} (H:Tr.WF T) {x u:Int} {nd p:Tr.Nd} (hx:T x=some nd) (h0:x≠0) (hu:T u=some p) (hun:u ∉ Tr.sub T 64 x)
include H hx h0 hu hun
theorem mov_dp (i:Nat) {y:Int} {m:Nat} (h:Tr.Dp T y m):y ∉ Tr.sub T 64 x→Tr.Dp (Tr.movT T x u i) y m:=by
 have A:=fun y=>H.mov_at hx h0 hu hun i y
 induction h with
 | root h =>
   intro _
   have e:=A 0
   rw [h] at e
   exact .root e
 | @step z zd n h hz _ ih =>
   intro hn
   have hzx:z≠x:=fun e=>hn (H.is_in hx h0 e)
   have e:=A z
   rw [h] at e
   simp only [Option.map_some,if_neg hzx] at e
   exact .step e hz (ih (H.out_up hx h hn hz))
end
structure Moved (T T':Tr.T) (x u a f:Int) (pl:Nat):Prop where
 up:upOf T' x=u
 at_:∃ n:Nat,a=n∧n<(kidsOf T' u).length∧(kidsOf T' u).getD n 0=x
 ok:Tr.movE T' x f pl=0
 back:Tr.movR T' x f pl=T
theorem moved {T:Tr.T} (H:Tr.WF T) {x u a:Int} (h:Tr.movE T x u a=0) {pl:Nat} (hpl:(kidsOf T (upOf T x))[pl]? = some x):Moved T (Tr.movR T x u a) x u a (upOf T x) pl:=by
 have hR:Tr.movR T x u a=Tr.movT T x u a.toNat:=by unfold Tr.movR;rw [h,if_pos rfl]
 have W:=(H.movR x u a).1
 obtain ⟨nd,p,hx,hu,h0,hun,ha,hal,hd⟩:=Tr.movE_zero h
 rw [hR] at W ⊢
 have A:=fun y=>H.mov_at hx h0 hu hun a.toNat y
 obtain ⟨q,hq,hqm⟩:=H.up x nd hx h0
 have eup:upOf T x=nd.up:=by unfold upOf;rw [hx]
 rw [eup] at hpl ⊢
 have ekq:kidsOf T nd.up=q.kids:=by unfold kidsOf;rw [hq];rfl
 rw [ekq] at hpl
 have hxu:x≠u:=fun e=>hun (H.is_in hx h0 e.symm)
 have hxn:x≠nd.up:=fun e=>H.up_out hx h0 (H.is_in hx h0 e.symm)
 have hku:(if u=nd.up then Tr.wo p.kids x else p.kids)=Tr.wo p.kids x:=by
  by_cases e:u=nd.up
  · rw [if_pos e]
  · rw [if_neg e,Tr.wo_not (fun hm=>e (H.x_kid hx h0 hu hm))]
 have Au:Tr.movT T x u a.toNat u=some { p with kids:=Tr.wi (Tr.wo p.kids x) a.toNat x }:=by
  rw [A,hu]
  simp only [Option.map_some,if_neg (Ne.symm hxu),if_true,hku]
 have Ax:Tr.movT T x u a.toNat x=some { nd with up:=u }:=by
  rw [A,hx]
  simp only [Option.map_some,if_true,if_neg hxu,if_neg hxn]
 have hlen:=Tr.length_wi (Tr.wo p.kids x) a.toNat x
 have hn1:nd.up ∉ Tr.sub (Tr.movT T x u a.toNat) 64 x:=by rw [(H.mov_sub hx h0 hu hun a.toNat).1];exact H.up_out hx h0
 have hpll:pl<q.kids.length:=(List.getElem?_eq_some_iff.1 hpl).1
 have hwq:=Tr.length_wo (H.nodup _ _ hq) hqm
 have hz:Tr.movE (Tr.movT T x u a.toNat) x nd.up pl=0:=by
  obtain ⟨d,hd1,hd2,hd3⟩:=H.dep_some hq
  have hdx:Tr.Dp T x (d + 1):= .step hx h0 hd2
  obtain ⟨z,hz1,hz2⟩:=H.hgt_mem (H.fit64 hx) hdx
  have hb:=H.dp63 hz2
  have hdp:=mov_dp H hx h0 hu hun a.toNat hd2 (H.up_out hx h0)
  have hde:=W.dep_of hdp
  obtain ⟨p',hp'⟩:=hdp.live
  have hkp:Tr.wo p'.kids x=Tr.wo q.kids x:=by
   have e:=A nd.up
   rw [hq,hp'] at e
   simp only [Option.map_some,if_true,if_neg (Ne.symm hxn)] at e
   injection e with e
   rw [e]
   simp only
   have hno:x ∉ Tr.wo q.kids x:=fun hm=>(Tr.mem_wo.1 hm).2 rfl
   by_cases e2:nd.up=u
   · rw [if_pos e2,Tr.wo_wi hno]
   · rw [if_neg e2,Tr.wo_not hno]
  unfold Tr.movE
  rw [Ax,hp']
  simp only
  rw [if_neg h0,if_neg hn1,hkp,if_neg Z3f,hde,(H.mov_sub hx h0 hu hun a.toNat).2,if_neg Z3f]
 refine ⟨by unfold upOf;rw [Ax],?_,hz,?_⟩
 · have ek:kidsOf (Tr.movT T x u a.toNat) u=Tr.wi (Tr.wo p.kids x) a.toNat x:=by unfold kidsOf;rw [Au];rfl
   refine ⟨a.toNat,by omega,by rw [ek,hlen];omega,?_⟩
   rw [ek]
   have hl:((Tr.wo p.kids x).take a.toNat).length=a.toNat:=by rw [List.length_take];omega
   unfold Tr.wi
   rw [List.getD,List.getElem?_append_right Z3f,hl]
   simp
 · unfold Tr.movR
   rw [hz,if_pos rfl]
   have e:=H.mov_back hx h0 hu hun hq hpl W
   rwa [show ((pl:Int).toNat)=pl by omega]
end Go.Proofs.YteggipnplbkijaaGreat.Fix
namespace Go.Proofs.YteggipnplbkijaaGreat.Fix
open Go.ChangeShapes Go.WideShapes Go.ChangeAt Go.RowKit
def sEx:Re.St:=⟨fun i=>if i=53 then 30 else if i=54 then 20 else if i=31 then 1 else if i=32 then 2 else if i=33 then 3 else if i=34 then 4 else 0,fun _=>false⟩
def TEx:Tr.T:=Tr.styT A1 1 sEx
def ldt (x:Fw.Ld):List Int:=[x.id,Fx.cut x.a0,Fx.cut x.a1,Fx.cut x.s0,Fx.cut x.s1]
theorem ex_lay:(layL TEx 100 50).map ldt=[[0,0,0,100,24],[1,0,0,100,24]]:=by decide +kernel
theorem GM.ge {W:World} {b n:Nat} {g:Lit→Option Value} (h:GM 3 W b n g) {l:List Int} (hn:l.Nodup) (hl:∀ z ∈ l,Wf z∧(g (.int .i64 z)).isSome=true):l.length≤n:=by
 obtain ⟨D,h1,h2,h3⟩:=h
 obtain ⟨es,rfl⟩:=(h1.tidy keyLaw).isMap
 have hk:∀ z ∈ l,Lit.int .i64 z ∈ es.map (·.1):=fun z hz=>by
  obtain ⟨hw,hs⟩:=hl z hz
  have hh:=(h3 (.int .i64 z) (keyLaw.key (key_int hw))).2
  rw [hs,Maps.has_eq,List.any_eq_true] at hh
  obtain ⟨p,hp,hq⟩:=hh
  rw [← WideAt.sameKey_eq hq]
  exact List.mem_map_of_mem hp
 have hlen:∀ (l:List Int) (ks:List Lit),l.Nodup→(∀ z ∈ l,Lit.int .i64 z ∈ ks)→l.length≤ks.length:=by
  intro l
  induction l with
  | nil=>intro ks _ _;exact Nat.zero_le _
  | cons z l ih =>
    intro ks hn hm
    obtain ⟨a,c,rfl⟩:=List.append_of_mem (hm z Z3t)
    have h1:=ih (a ++ c) (List.nodup_cons.1 hn).2 fun y hy=>by
     have h2:=hm y (List.mem_cons_of_mem _ hy)
     simp only [List.mem_append,List.mem_cons] at h2 ⊢
     rcases h2 with h2 | h2 | h2
     · exact .inl h2
     · injection h2 with _ h2
       subst h2
       exact absurd hy (List.nodup_cons.1 hn).1
     · exact .inr h2
    simp only [List.length_append,List.length_cons] at h1 ⊢
    omega
 have h4:=hlen l _ hn hk
 rw [List.length_map] at h4
 rw [← h2,Maps.size_eq]
 exact h4
theorem gputs_cons (g:Lit→Option Value) (x:Fw.Ld) (l:List Fw.Ld):gputs g (x :: l)=gputs (gset g (.int .i64 x.id) (rcv x)) l:=rfl
theorem lit_ne {a b:Int} (h:a≠b):Lit.int .i64 a≠Lit.int .i64 b:=fun q=>h (by injection q)
theorem gputs_off (l:List Fw.Ld):∀ (g:Lit→Option Value) (z:Int),z ∉ l.map (·.id)→gputs g l (.int .i64 z)=g (.int .i64 z):=by
 induction l with
 | nil=>intro g z h;rfl
 | cons x l ih =>
   intro g z h
   simp only [List.map_cons,List.mem_cons,not_or] at h
   rw [gputs_cons,ih _ z h.2,gset_off (lit_ne h.1)]
theorem gputs_at (l:List Fw.Ld):∀ (g:Lit→Option Value) (x:Fw.Ld),(l.map (·.id)).Nodup→x ∈ l→gputs g l (.int .i64 x.id)=some (rcv x):=by
 induction l with
 | nil=>intro g x _ h;simp at h
 | cons y l ih =>
   intro g x hn h
   simp only [List.map_cons,List.nodup_cons] at hn
   rw [gputs_cons]
   rcases List.mem_cons.1 h with rfl | h
   · rw [gputs_off l _ _ hn.1,gset_same]
   · exact ih _ x hn.2 h
theorem ex_two:∃ x0 x1:Fw.Ld,layL TEx 100 50=[x0,x1]∧x0.id=0∧x1.id=1∧rcv x0 = .agg #[.int .i64 0,.int .i64 0,.int .i64 100,.int .i64 24]∧rcv x1 = .agg #[.int .i64 0,.int .i64 0,.int .i64 100,.int .i64 24]:=by
 have h:=ex_lay
 generalize layL TEx 100 50=l at h
 rcases l with _ | ⟨x0,_ | ⟨x1,_ | ⟨x2,l⟩⟩⟩
 · simp at h
 · simp at h
 · simp only [List.map_cons,List.map_nil,ldt,List.cons.injEq,and_true] at h
   obtain ⟨⟨h1,h2,h3,h4,h5⟩,k1,k2,k3,k4,k5⟩:=h
   exact ⟨x0,x1,rfl,h1,k1,by unfold rcv;rw [h2,h3,h4,h5],by unfold rcv;rw [k2,k3,k4,k5]⟩
 · simp at h
theorem ex_big:Fw.cst (bxT TEx) 64 0 + tcst (bxT TEx) 64 0<1000:=by decide +kernel
theorem ex_tl:(tl (bxT TEx) 100 50 64 (rootL TEx 100 50)).length<1000:=by decide +kernel
theorem ex_set:setE A1 1 sEx=0:=by decide +kernel
theorem ex_setT:setT A1 1 sEx=TEx:=by unfold setT;rw [ex_set,if_pos rfl];rfl
theorem ex_sEx:Fits sEx:=fun i h _=>by
 have:∀ i:Fin 55,(Lit.int .i64 (sEx.c i)).wf=true:=by decide +kernel
 exact this ⟨i,h⟩
theorem ex_node (z:Int) (nd:Tr.Nd) (h:TEx z=some nd):nd.kids.length≤64∧0≤nd.sty.c 0∧nd.sty.c 0≤3:=by
 by_cases h0:z=0
 · subst h0
   have e:TEx 0=some ⟨-1,[1],Re.zero⟩:=rfl
   rw [e] at h
   injection h with h
   subst h
   exact ⟨by decide,by decide,by decide⟩
 · by_cases h1:z=1
   · subst h1
     have e:TEx 1=some ⟨0,[],sEx⟩:=rfl
     rw [e] at h
     injection h with h
     subst h
     exact ⟨by decide,by decide,by decide⟩
   · exfalso
     have e:TEx z=none:=by
      have e1:TEx=Tr.set A1 1 ⟨0,[],sEx⟩:=rfl
      exact Z2u
     rw [e] at h
     cases h
theorem ex_flows:kfl TEx [1]=[1]:=by decide +kernel
theorem ex_shn0:shn TEx 1 0=true:=by decide +kernel
theorem ex_shn1:shn TEx 2 1=true:=by decide +kernel
theorem ex_shs:(shs TEx 64 0).length<1000:=by decide +kernel
section
variable {w:World} {t n:Nat} {L:Lay} {T:Tr.T}
set_option maxHeartbeats 4000000 in
theorem fflows_some (h:Rep w t L T n) (hr:∀ nd,T 0=some nd→nd.up = -1) {z:Int} {d:Nat} (hd:Tr.Dp T z d) {nd:Tr.Nd} (hT:T z=some nd) (ks:List Int) (hks:nd.kids=ks) (hk:∀ x ∈ ks,∃ xd,T x=some xd) (hl:ks.length≤5000):Calls Tryz.prog 21 #[.pointer (some ⟨t,0,none⟩),.int .i64 z] w fun e w'=>(∃ v,e = .returned v∧w'.ownsRow w.heap.size 3 1 v (if shn T (d + 1) z=true then kfl T ks else []).length ((if shn T (d + 1) z=true then kfl T ks else []).map (Value.int .i64)))∧Below w.heap.size w w':=by
 have key:=fshown_some h hr hd
 have key2:=fun X (hb:Below w.heap.size w X)=>fkids_any (h.after hb) hT ks hks hk hl
 clear h hr hd hT hks hk hl
 cases hs:shn T (d + 1) z
 · rw [hs] at key
   clear hs key2
   show Calls _ _ _ _ fun e w'=>(∃ v,e = .returned v∧w'.ownsRow w.heap.size 3 1 v 0 [])∧_
   go_enter Tryz.func21,Tryz.ntmps21
   go_wp2_with (go_at_call 23;(with_reducible refine key.mono ?_);rintro e w1 ⟨rfl,hb1⟩)
   go_ret
   exact ⟨⟨_,rfl,World.ownsRow_nil _ _ _ _⟩,hb1⟩
 · rw [hs] at key
   clear hs
   show Calls _ _ _ _ fun e w'=>(∃ v,e = .returned v∧w'.ownsRow w.heap.size 3 1 v (kfl T ks).length ((kfl T ks).map (Value.int .i64)))∧_
   go_enter Tryz.func21,Tryz.ntmps21
   go_wp2_with (first | (go_at_call 23;(with_reducible refine key.mono ?_);rintro e w1 ⟨rfl,hb1⟩) | (go_at_call 49;(with_reducible refine (key2 _ hb1).mono ?_);rintro e w2 ⟨⟨v,u,rfl,hv,hu, -⟩,hb2⟩))
   go_ret
   exact ⟨⟨_,rfl,rowBase hv hb1.size⟩,Below.after2 hb1 (Nat.le_refl _) hb2⟩
end
set_option maxHeartbeats 4000000 in
theorem equal_four (n:Nat) (a b c d a' b' c' d':Int) (w:World):(Op.equalIn (n + 1 + 1) 30 (.agg #[.int .i64 a,.int .i64 b,.int .i64 c,.int .i64 d]) (.agg #[.int .i64 a',.int .i64 b',.int .i64 c',.int .i64 d'])).run Tryz.prog w = .ok (decide (a=a') && decide (b=b') && decide (c=c') && decide (d=d')) w:=by
 have hi:=run_equalIn_int (P:=Tryz.prog) w n 3 .i64 .i64
 have hr:List.range' 0 4=[0,1,2,3]:=rfl
 have hs:Tryz.t3.size=1:=by kernel_rfl
 have hu:Tryz.prog.underlying 3=some (.int .i64):=Tryz.underlying3
 unfold Op.equalIn
 by_cases h1:a=a' <;> by_cases h2:b=b' <;> by_cases h3:c=c' <;> by_cases h4:d=d' <;> simp [run_underlying Tryz.underlying30,sizeOf,hr,hs,part,hi _ _ hu,h1,h2,h3,h4]
theorem run_eql_four (a b c d a' b' c' d':Int) (w:World):(binOp .eql 30 (.agg #[.int .i64 a,.int .i64 b,.int .i64 c,.int .i64 d]) (.agg #[.int .i64 a',.int .i64 b',.int .i64 c',.int .i64 d'])).run Tryz.prog w = .ok (.bool (decide (a=a') && decide (b=b') && decide (c=c') && decide (d=d'))) w:=by
 rw [run_eql_struct,show (10000:Nat)=9998 + 1 + 1 from rfl,equal_four]
 rfl
theorem run_eql_frect (a b c d a' b' c' d':Int) (w:World):(binOp .eql 59 (.agg #[.int .i64 a,.int .i64 b,.int .i64 c,.int .i64 d]) (.agg #[.int .i64 a',.int .i64 b',.int .i64 c',.int .i64 d'])).run Tryz.prog w = .ok (.bool (decide (a=a') && decide (b=b') && decide (c=c') && decide (d=d'))) w:=by
 rw [run_eql_struct]
 by_cases h1:a=a' <;> by_cases h2:b=b' <;> by_cases h3:c=c' <;> by_cases h4:d=d' <;> go_simp <;> simp [h1,h2,h3,h4]
set_option maxHeartbeats 8000000 in
theorem flworks_any (w:World):Calls Tryz.prog 11 #[] w fun e w'=>e = .returned (.bool true)∧Below w.heap.size w w':=by
 have hbs:∀ X,(Instr.build 37 #[(26,.agg #[.int .i64 30,.int .i64 20]),(11,.agg #[.int .i64 1,.int .i64 2,.int .i64 3,.int .i64 4])]).run Tryz.prog X = .ok (.agg (cells sEx)) X:=fun X=>by kernel_rfl
 have hb2:∀ X,(Instr.build 35 #[(0,.int .i64 30),(1,.int .i64 20)]).run Tryz.prog X = .ok (.agg #[.int .i64 30,.int .i64 20]) X:=fun X=>by kernel_rfl
 have hb4:∀ X,(Instr.build 30 #[(0,.int .i64 1),(1,.int .i64 2),(2,.int .i64 3),(3,.int .i64 4)]).run Tryz.prog X = .ok (.agg #[.int .i64 1,.int .i64 2,.int .i64 3,.int .i64 4]) X:=fun X=>by kernel_rfl
 have hbr:∀ X,(Instr.build 59 #[(2,.int .i64 100),(3,.int .i64 24)]).run Tryz.prog X = .ok (.agg #[.int .i64 0,.int .i64 0,.int .i64 100,.int .i64 24]) X:=fun X=>by kernel_rfl
 go_enter Tryz.func11,Tryz.ntmps11
 go_upto_region 4 with (go_at_call 28;(with_reducible refine (gnew_any w).mono ?_);rintro e w1 ⟨⟨t,rfl,L0,g0⟩,hb0⟩)
 have hs0:=hb0.size
 have kA:=w_add1 g0 Z3f hs0
 clear g0
 go_upto_region 5 with (go_at_call 26;(with_reducible refine kA.mono ?_);rintro e w2 ⟨rfl,L1,n1,g1,hn1,hbA⟩)
 clear kA
 have hs1:w.heap.size≤w2.heap.size:=Nat.le_trans hs0 hbA.size
 have kS:=gset_any g1 hs1 (x:=1) ((wf_iff _).2 Z3f) ex_sEx
 rw [ex_set,ex_setT] at kS
 go_upto_region 6 with (go_at_call 27;refine Calls.mono (show _ from kS) ?_;rintro e w3 ⟨rfl,g2, -, hbS⟩)
 clear kS
 have hs2:w.heap.size≤w3.heap.size:=Nat.le_trans hs1 hbS.size
 have em1:max (100:Int) 0=100:=by decide
 have em2:max (50:Int) 0=50:=by decide
 have kL:=flay_any g2.inv.rep g2.inv.wf (fun z nd h=>(ex_node z nd h).1) (fun z nd h=>(ex_node z nd h).2) 100 50 (by have:=ex_big;unfold maxLen;omega) (by rw [em1,em2];have:=ex_tl;unfold maxLen;omega) (by have:=ex_shs;unfold maxLen;omega)
 rw [em1,em2] at kL
 clear em1 em2
 go_upto_region 7 with (go_at_call 18;(with_reducible refine kL.mono ?_);rintro e w4 ⟨⟨b,nr,rfl,gb,hG,hnr⟩,hbL⟩)
 clear kL
 obtain ⟨x0,x1,hl,i0,i1,v0,v1⟩:=ex_two
 have hnd:([x0,x1].map (·.id)).Nodup:=by simp [i0,i1]
 have hG2:layG TEx 100 50=gputs (fun _=>none) [x0,x1]:=by unfold layG;rw [hl]
 rw [hG2] at hG
 have hq0:gputs (fun _=>none) [x0,x1] (.int .i64 0)=some (rcv x0):=by
  have h:=gputs_at [x0,x1] (fun _=>none) x0 hnd Z3t
  rwa [i0] at h
 have hq1:gputs (fun _=>none) [x0,x1] (.int .i64 1)=some (rcv x1):=by
  have h:=gputs_at [x0,x1] (fun _=>none) x1 hnd Z3t
  rwa [i1] at h
 have w0:Wf 0:=by rw [wf_iff];omega
 have w1':Wf 1:=by rw [wf_iff];omega
 have hn2:nr=2:=by
  have h1:=hG.ge (l:=[0,1]) Z3i (fun z hz=>by
   simp only [List.mem_cons,List.not_mem_nil,or_false] at hz
   rcases hz with rfl | rfl
   · exact ⟨w0,by rw [hq0];rfl⟩
   · exact ⟨w1',by rw [hq1];rfl⟩)
  rw [hl] at hnr
  simp at h1 hnr
  omega
 subst hn2
 have hk0:=hG.look keyLaw Tryz.underlying47 (z:= .agg #[.int .i64 0,.int .i64 0,.int .i64 0,.int .i64 0]) Z3q (key_int w0)
 have hk1:=hG.look keyLaw Tryz.underlying47 (z:= .agg #[.int .i64 0,.int .i64 0,.int .i64 0,.int .i64 0]) Z3q (key_int w1')
 rw [hq0,Option.getD_some,v0] at hk0
 rw [hq1,Option.getD_some,v1] at hk1
 have hln:=fun ty=>hG.len Tryz.underlying47 ty
 have g4:=g2.after hbL
 have hs3:w.heap.size≤w4.heap.size:=Nat.le_trans hs2 hbL.size
 have hT0:TEx 0=some ⟨-1,[1],Re.zero⟩:=rfl
 have hd0:Tr.Dp TEx 0 0:= .root hT0
 have hd1:Tr.Dp TEx 1 1:= .step (nd:=⟨0,[],sEx⟩) rfl Z3i hd0
 have kF:=fflows_some g4.inv.rep (fun nd h=>by rw [hT0] at h;injection h with h;rw [← h]) hd0 hT0 [1] rfl (fun x hx=>by
  simp only [List.mem_cons,List.not_mem_nil,or_false] at hx
  subst hx
  exact ⟨⟨0,[],sEx⟩,rfl⟩) Z3i
 rw [ex_shn0,if_pos rfl,ex_flows] at kF
 have kF:Calls Tryz.prog 21 _ w4 fun e w'=>(∃ g c,e = .returned (.slice (some ⟨g,0,none⟩) 1 c))∧Below w4.heap.size w4 w':=kF.mono fun e w' h=>by
  obtain ⟨⟨v,rfl,hown⟩,hb⟩:=h
  have ho:w'.ownsRow w4.heap.size 3 1 v (0 + 1) ([1].map (.int .i64)):=hown
  obtain ⟨g,c,rfl⟩:=ownsRow_succ ho
  exact ⟨⟨g,c,rfl⟩,hb⟩
 have kSh:=fun X (h:Below w4.heap.size w4 X)=>fshown_some (g4.after h).inv.rep (fun nd h=>by rw [hT0] at h;injection h with h;rw [← h]) hd1
 simp only [show shn TEx (1 + 1) 1=true from ex_shn1] at kSh
 have kSt:=fun X (h:Below w4.heap.size w4 X)=>tstyle_any (g4.after h).inv.rep (z:=1) w1'
 simp only [show (TEx 1).elim Re.zero (·.sty)=sEx from rfl] at kSt
 have hed:=fun X=>fedges_any sEx X
 have e0:Fw.ed sEx 0=1:=by decide
 have e1:Fw.ed sEx 1=2:=by decide
 have e2:Fw.ed sEx 2=3:=by decide
 have e3:Fw.ed sEx 3=4:=by decide
 simp only [e0,e1,e2,e3] at hed
 have hbAll:Below w.heap.size w w4:=((hb0.trans hbA).trans hbS).trans (hbL.mono hs2)
 have er:=run_eql_frect 0 0 100 24 0 0 100 24
 have ef:=run_eql_four 1 2 3 4 1 2 3 4
 clear e0 e1 e2 e3 hG hq0 hq1 hG2 hl hnd g2 g1 hbA hbS hb0 gb hnr v0 v1 i0 i1 hT0 hd0 hd1
 go_wp2_with (first | (go_at_call 21;(with_reducible refine kF.mono ?_);rintro e w5 ⟨⟨gv,cv,rfl⟩,hb5⟩) | (go_at_call 23;(with_reducible refine (kSh _ hb5).mono ?_);rintro e w6 ⟨rfl,hb6⟩) | (go_at_call 25;(with_reducible refine (kSt _ (hb5.trans (hb6.mono hb5.size))).mono ?_);rintro e w7 ⟨rfl,hb7⟩) | (go_at_call 15;(with_reducible refine (hed _).mono ?_);rintro e w8 ⟨rfl,hb8⟩))
 go_ret
 refine ⟨rfl,?_⟩
 have h1:=hb5.size
 have h2:=hb6.size
 have h3:=hb7.size
 exact hbAll.trans (((hb5.mono hs3).trans (hb6.mono Z3f)).trans ((hb7.mono Z3f).trans (hb8.mono Z3f)))
end Go.Proofs.YteggipnplbkijaaGreat.Fix
namespace Go.Proofs.YteggipnplbkijaaGreat.Fix
theorem cont_leaf {B:Int→Fw.Bx} {f:Nat} {z i0 i1:Int} (h:(B z).fl=[]):Fw.cont B f z i0 i1=([],(B z).sty.c 54):=by
 cases f with
 | zero=>rfl
 | succ f=>simp only [Fw.cont,h,if_true]
theorem mv_same (B:Int→Fw.Bx) (i0 i1:Int) (x:Fw.Ld):(Fw.mv B i0 i1 x).id=x.id∧(Fw.mv B i0 i1 x).i0=x.i0∧(Fw.mv B i0 i1 x).i1=x.i1∧(Fw.mv B i0 i1 x).s0=x.s0∧(Fw.mv B i0 i1 x).s1=x.s1:=by
 unfold Fw.mv
 split
 · exact ⟨rfl,rfl,rfl,rfl,rfl⟩
 · exact ⟨rfl,rfl,rfl,rfl,rfl⟩
theorem cont_one {B:Int→Fw.Bx} {f:Nat} {z k i0 i1:Int} (h:(B z).fl=[k]) (h0:(B z).sty.c 0=0):∃ y:Fw.Ld,(Fw.cont B (f + 1) z i0 i1).1=[y]∧y.id=k∧y.i0=(Fw.lay B f k i0 i1 (-1) (-1)).i0∧y.i1=(Fw.lay B f k i0 i1 (-1) (-1)).i1∧y.s0=(Fw.lay B f k i0 i1 (-1) (-1)).s0∧y.s1=(Fw.lay B f k i0 i1 (-1) (-1)).s1:=by
 have e:(Fw.cont B (f + 1) z i0 i1).1=(Fw.mblock B (Fw.lay1 B (Fw.cont B f)) f z i0 i1).1.map (Fw.mv B i0 i1):=by
  simp only [Fw.cont,h,Fw.kind,h0]
  rfl
 rw [e]
 unfold Fw.mblock
 simp only [h,List.map_cons,List.map_nil,List.mapIdx_cons,List.mapIdx_nil]
 refine ⟨_,rfl,?_⟩
 exact ⟨(mv_same _ _ _ _).1,(mv_same _ _ _ _).2.1,(mv_same _ _ _ _).2.2.1,(mv_same _ _ _ _).2.2.2.1,(mv_same _ _ _ _).2.2.2.2⟩
theorem tl_leaf {B:Int→Fw.Bx} {ww wh:Int} {f:Nat} {x:Fw.Ld} (h:(B x.id).fl=[]) (ha:(B x.id).ap=[]):tl B ww wh f x=[x]:=by
 cases f with
 | zero=>rfl
 | succ f=>simp only [tl,cont_leaf h,ha,List.flatMap_nil,List.append_nil]
theorem tl_one {B:Int→Fw.Bx} {ww wh:Int} {f:Nat} {x y:Fw.Ld} (hc:(Fw.cont B (f + 1) x.id x.i0 x.i1).1=[y]) (ha:(B x.id).ap=[]) (h:(B y.id).fl=[]) (hy:(B y.id).ap=[]):tl B ww wh (f + 1) x=[x,edg (B x.id).sty y]:=by
 have e:=tl_leaf (B:=B) (ww:=ww) (wh:=wh) (f:=f) (x:=edg (B x.id).sty y) (show (B y.id).fl=[] from h) hy
 simp only [tl,hc,ha,List.flatMap_cons,List.flatMap_nil,List.append_nil,e]
theorem cst_leaf {B:Int→Fw.Bx} {f:Nat} {z:Int} (h:(B z).fl=[]):Fw.cst B f z=1:=by
 cases f with
 | zero=>rfl
 | succ f=>simp [Fw.cst,h]
theorem tcst_leaf {B:Int→Fw.Bx} {f:Nat} {z:Int} (h:(B z).fl=[]) (ha:(B z).ap=[]):tcst B f z=1:=by
 cases f with
 | zero=>rfl
 | succ f=>simp [tcst,h,ha,cst_leaf h]
def T2 (s:Re.St):Tr.T:=Tr.styT A1 1 s
theorem T2_0 (s:Re.St):T2 s 0=some ⟨-1,[1],Re.zero⟩:=rfl
theorem T2_1 (s:Re.St):T2 s 1=some ⟨0,[],s⟩:=rfl
theorem T2_no (s:Re.St) {z:Int} (h0:z≠0) (h1:z≠1):T2 s z=none:=by
 have e1:T2 s=Tr.set A1 1 ⟨0,[],s⟩:=rfl
 exact Z2u
theorem T2_kids (s:Re.St) (z:Int) (nd:Tr.Nd) (h:T2 s z=some nd):nd.kids.length≤64:=by
 by_cases h0:z=0
 · subst h0;rw [T2_0] at h;injection h with h;subst h;decide
 · by_cases h1:z=1
   · subst h1;rw [T2_1] at h;injection h with h;subst h;exact Nat.zero_le _
   · rw [T2_no s h0 h1] at h;cases h
theorem T2_kind {s:Re.St} (hs:0≤s.c 0∧s.c 0≤3) (z:Int) (nd:Tr.Nd) (h:T2 s z=some nd):0≤nd.sty.c 0∧nd.sty.c 0≤3:=by
 by_cases h0:z=0
 · subst h0;rw [T2_0] at h;injection h with h;subst h;exact ⟨by decide,by decide⟩
 · by_cases h1:z=1
   · subst h1;rw [T2_1] at h;injection h with h;subst h;exact hs
   · rw [T2_no s h0 h1] at h;cases h
theorem T2_shown (s:Re.St):shn (T2 s) 1 0=true:=rfl
section
variable {s:Re.St} (h3:s.c 0≠3) (hp2:s.c 1≠2) (hp3:s.c 1≠3)
include h3 hp2 hp3
theorem T2_fl0:kfl (T2 s) (kidsF (T2 s) 0)=[1]:=by
 rw [show kidsF (T2 s) 0=[1] from rfl]
 have e3:stOf (T2 s) 1=s:=rfl
 simp [kfl,e3,isOut,h3,hp2,hp3]
theorem T2_ap0:kap (T2 s) (kidsF (T2 s) 0)=[]:=by
 rw [show kidsF (T2 s) 0=[1] from rfl]
 have e3:stOf (T2 s) 1=s:=rfl
 simp [kap,e3,isOut,h3,hp2,hp3]
theorem T2_b0:bxT (T2 s) 0=⟨Re.zero,[1],[],false⟩:=by
 have e1:stOf (T2 s) 0=Re.zero:=rfl
 have e4:ibOf (T2 s) 0=false:=by
  have e:T2 s (-1)=none:=T2_no s Z3i Z3i
  show ((T2 s (-1)).isSome && _)=false
  rw [e]
  rfl
 unfold bxT
 rw [e1,T2_fl0 h3 hp2 hp3,T2_ap0 h3 hp2 hp3,e4]
theorem T2_b1:bxT (T2 s) 1=⟨s,[],[],true⟩:=by
 have e1:stOf (T2 s) 1=s:=rfl
 have e2:kidsF (T2 s) 1=[]:=rfl
 have e4:ibOf (T2 s) 1=true:=by
  show ((T2 s 0).isSome && (((stOf (T2 s) 0).c 0 == 0) && !isOut s))=true
  rw [T2_0]
  simp [isOut,hp2,hp3,show (stOf (T2 s) 0).c 0=0 from rfl]
 unfold bxT
 rw [e1,e2,e4]
 simp [kfl,kap]
theorem T2_shs:(shs (T2 s) 64 0).length=2:=by
 have k:∀ f,shs (T2 s) (f + 1) 1=[1]:=fun f=>by
  simp only [shs]
  rw [show kidsF (T2 s) 1=[] from rfl,show kfl (T2 s) []=[] from rfl,show kap (T2 s) []=[] from rfl]
  rfl
 have h:∀ f,(shs (T2 s) (f + 1 + 1) 0).length=2:=fun f=>by
  rw [shs,T2_fl0 h3 hp2 hp3,T2_ap0 h3 hp2 hp3,List.flatMap_cons,k]
  rfl
 exact h 62
theorem T2_cst:Fw.cst (bxT (T2 s)) 64 0 + tcst (bxT (T2 s)) 64 0=9:=by
 have e0:=T2_b0 h3 hp2 hp3
 have e1:=T2_b1 h3 hp2 hp3
 have l1:∀ f,Fw.cst (bxT (T2 s)) f 1=1:=fun f=>cst_leaf (by rw [e1])
 have l2:∀ f,tcst (bxT (T2 s)) f 1=1:=fun f=>tcst_leaf (by rw [e1]) (by rw [e1])
 have h:∀ f,Fw.cst (bxT (T2 s)) (f + 1) 0 + tcst (bxT (T2 s)) (f + 1) 0=9:=fun f=>by
  simp only [tcst,Fw.cst,e0,List.map_cons,List.map_nil,l1,l2,List.sum_cons,List.sum_nil]
  try rfl
 exact h 63
theorem T2_root {w h:Int} (hw:0≤w∧w≤1048576):rootL (T2 s) w h=⟨0,w, -1,w,Fw.wr (Fw.lim Re.zero 1 (Fw.cont (bxT (T2 s)) 64 0 w (-1)).2 h + 0),0,0⟩:=by
 have e0:=T2_b0 h3 hp2 hp3
 have ed0:∀ y,Fw.eds Re.zero y=0:=fun y=>by
  unfold Fw.eds Fw.ed
  simp [Re.zero,Fw.wr]
 have i0:Fw.wth Re.zero 0 w w (-1)=w:=by
  unfold Fw.wth
  rw [if_neg Z3i,ed0]
  have hf:Fw.fxd Re.zero 0 w=false:=by simp [Fw.fxd,Re.zero,Fx.fixd]
  have hm:Fw.mgs Re.zero 0 w=0:=by simp [Fw.mgs,Fw.mg,Fw.sd,Re.zero,Fx.len,Fx.cut,Fw.wr]
  rw [hf,hm]
  simp only [Bool.false_eq_true,if_false,if_true]
  have hwr:Fw.wr (Fw.wr (w - 0) - 0)=w:=by unfold Fw.wr;omega
  rw [hwr]
  simp only [Fw.lim,Re.zero,Fx.limit,Fx.len,Fx.clamp,Fx.cut,Fx.mx]
  simp
  omega
 have i1:Fw.wth Re.zero 1 w h (-1) = -1:=by
  unfold Fw.wth
  have hf:Fw.fxd Re.zero 1 h=false:=by simp [Fw.fxd,Re.zero,Fx.fixd]
  rw [if_neg Z3i,hf]
  simp
 unfold rootL Fw.lay Fw.lay1
 simp only [e0,i0,i1,ed0,if_true]
 have hwr:Fw.wr (w + 0)=w:=by unfold Fw.wr;omega
 rw [hwr]
theorem T2_two {w h:Int} (hw:0≤w∧w≤1048576):∃ x0 x1:Fw.Ld,tl (bxT (T2 s)) w h 64 (rootL (T2 s) w h)=[x0,x1]∧layL (T2 s) w h=[x0,x1]∧x0.id=0∧x1.id=1∧x1.s0=Fw.wr (Fw.wth s 0 w w (-1) + Fw.eds s 0):=by
 have e0:=T2_b0 h3 hp2 hp3
 have e1:=T2_b1 h3 hp2 hp3
 have hr:=T2_root h3 hp2 hp3 (h:=h) hw
 generalize hx:rootL (T2 s) w h=x0 at hr
 have hi:x0.id=0:=by rw [hr]
 have ha:x0.i0=w:=by rw [hr]
 have hb:x0.i1 = -1:=by rw [hr]
 obtain ⟨y,hy,k1,k2,k3,k4,k5⟩:=cont_one (B:=bxT (T2 s)) (f:=63) (z:=x0.id) (k:=1) (i0:=x0.i0) (i1:=x0.i1) (by rw [hi,e0]) (by rw [hi,e0];rfl)
 have ht:=tl_one (B:=bxT (T2 s)) (ww:=w) (wh:=h) (f:=63) (x:=x0) hy (by rw [hi,e0]) (by rw [k1,e1]) (by rw [k1,e1])
 refine ⟨x0,_,ht,?_,hi,k1,?_⟩
 · unfold layL
   rw [if_pos (T2_shown s),hx]
   exact ht
 · show y.s0=_
   rw [k4,ha,hb]
   unfold Fw.lay Fw.lay1
   simp only [e1]
end
end Go.Proofs.YteggipnplbkijaaGreat.Fix
