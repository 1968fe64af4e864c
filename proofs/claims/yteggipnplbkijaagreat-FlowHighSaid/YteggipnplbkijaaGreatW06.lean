/- Boxes laid by the program: what its functions do, part 6. -/
import Derived.Deep.RegionWith
import Derived.Deep.Cut
import Derived.BigRegion
import Derived.Deep.CutRange
import Derived.Test.YteggipnplbkijaaGreatWK
import Derived.Test.YteggipnplbkijaaGreatW01
import Derived.Test.YteggipnplbkijaaGreatW03
import Derived.Test.YteggipnplbkijaaGreatW04
import Derived.Test.YteggipnplbkijaaGreatW05
set_option linter.unusedVariables false
set_option linter.unusedSimpArgs false
set_option linter.unusedSectionVars false
set_option maxRecDepth 100000
namespace Go.Proofs.YteggipnplbkijaaGreat.Drawn
open Go Fix
section
variable {P:Program} {ops:Array Oper} {Q:Exit→Act→World→Prop} {md:Region.Mode} {S:World→Prop} {m:Nat}
def Step (P:Program) (K:Value→World→Prop):Result Next→Prop
 | .ok (.value u) w'=>K u w'
 | .ok .skip w'=>K undef w'
 | .ok (.enter f args) w'=>Calls P f args w' fun e w''=>∃ u,e = .returned u∧K u w''
 | _=>False
theorem Step.mono {K K':Value→World→Prop} {r:Result Next} (h:Step P K r) (hk:∀ u w,K u w→K' u w):Step P K' r:=by
 cases r with
 | ok x w' =>
   cases x <;> simp only [Step] at h ⊢
   case value=>exact hk _ _ h
   case skip=>exact hk _ _ h
   case enter=>exact h.mono fun e w'' ⟨u,he,hu⟩=>⟨u,he,hk _ _ hu⟩
 | halt=>exact h.elim
theorem Step.value {K:Value→World→Prop} {r:Result Next} {u:Value} {w':World} (hr:r = .ok (.value u) w') (h:K u w'):Step P K r:=by subst hr;exact h
theorem Step.skip {K:Value→World→Prop} {r:Result Next} {w':World} (hr:r = .ok .skip w') (h:K undef w'):Step P K r:=by subst hr;exact h
theorem Step.call {K:Value→World→Prop} {r:Result Next} {f:FuncId} {args:Array Value} {w':World} {R:Ending→World→Prop} (hr:r = .ok (.enter f args) w') (hc:Calls P f args w' R) (h:∀ e w'',R e w''→∃ u,e = .returned u∧K u w''):Step P K r:=by
 subst hr;exact hc.mono h
def GenAny (P:Program) (md:Region.Mode) (ops:Array Oper) (Q:Exit→Act→World→Prop) (S:World→Prop) (m:Nat):Nat→Array Bool→Act→World→Prop
 | 0,listed,a,w=>Region.ready md ops listed=[]∧Q .normal a w
 | fuel + 1,listed,a,w =>
   Region.ready md ops listed≠[] ∧
   ∀ i ∈ Region.ready md ops listed,∃ o,ops[i]? = some o ∧
    ((Region.wanted o (yielded ops a.tmps)=true∧Step P (fun u w'=>(i<m→S w')∧GenAny P md ops Q S m fuel (listed.setIfInBounds i true) (a.put o.dst u) w') ((execOp a.eval o).run P w)) ∨
     (Region.wanted o (yielded ops a.tmps)=false∧GenAny P md ops Q S m fuel (listed.setIfInBounds i true) (a.put o.dst undef) w))
theorem GenAny.any:∀ (fuel:Nat) (listed:Array Bool) (a:Act) (w:World),GenAny P md ops Q S m fuel listed a w→wpAny P md ops Q fuel listed a w
 | 0,_,_,_,h=>h
 | fuel + 1,listed,a,w,h=>⟨fun hr=>absurd hr h.1,fun i hi=>by
  obtain ⟨o,ho,hcase⟩:=h.2 i hi
  unfold Go.wpOp
  simp only [ho]
  rcases hcase with ⟨hw,hs⟩ | ⟨hw,hs⟩
  · simp only [hw,if_true]
    refine .inl ?_
    unfold Oper.wp
    generalize (execOp a.eval o).run P w=r at *
    cases r with
    | ok x w' =>
      cases x <;> simp only [Step] at hs <;> simp only [Oper.upon]
      case value=>exact GenAny.any fuel _ _ _ hs.2
      case skip=>exact GenAny.any fuel _ _ _ hs.2
      case enter=>exact Calls.mono hs fun e w'' ⟨u,he,hu⟩=>by subst he;exact GenAny.any fuel _ _ _ hu.2
    | halt=>exact hs.elim
  · simp only [hw,Bool.false_eq_true,if_false]
    exact GenAny.any fuel _ _ _ hs⟩
def Reads (P:Program) (ops:Array Oper) (S:World→Prop) (o:Oper) (v:Value) (a:Act):Prop :=
 (Region.wanted o (yielded ops a.tmps)=true∧∀ w,S w→(execOp a.eval o).run P w = .ok (.value v) w)∨(Region.wanted o (yielded ops a.tmps)=false∧v=undef)
theorem Reads.of_same {o:Oper} {v:Value} {a a':Act} (hy:Reads P ops S o v a) (he:execOp a'.eval o=execOp a.eval o)
  (hw:Region.wanted o (yielded ops a'.tmps)=Region.wanted o (yielded ops a.tmps)):Reads P ops S o v a':=by
 unfold Reads at *
 rw [he,hw]
 exact hy
theorem gen_first (ht:tailWaits md ops m=true) (hsel:∀ (j:Nat) (o:Oper) cs b,ops[j]? = some o→o.op ≠ .select cs b) {i:Nat} {oi:Oper} {v:Value} (him:i<m) (hi:ops[i]? = some oi)
  (fuel:Nat) (listed:Array Bool) (a:Act) (w:World) (hc:Clear md ops listed i oi) (hr:i ∈ Region.ready md ops listed) (hS:S w) (hy:Reads P ops S oi v a)
  (H:GenAny P md ops Q S m fuel (listed.setIfInBounds i true) (a.put oi.dst v) w):GenAny P md ops Q S m (fuel + 1) listed a w:=by
 have self:∀ (fuel:Nat) (listed:Array Bool) (a:Act) (w:World),S w→Reads P ops S oi v a→GenAny P md ops Q S m fuel (listed.setIfInBounds i true) (a.put oi.dst v) w →
   ∃ o,ops[i]? = some o∧((Region.wanted o (yielded ops a.tmps)=true∧Step P (fun u w'=>(i<m→S w')∧GenAny P md ops Q S m fuel (listed.setIfInBounds i true) (a.put o.dst u) w') ((execOp a.eval o).run P w)) ∨
    (Region.wanted o (yielded ops a.tmps)=false∧GenAny P md ops Q S m fuel (listed.setIfInBounds i true) (a.put o.dst undef) w)):=by
  intro fuel listed a w hS hy H
  rcases hy with ⟨hw,hv⟩ | ⟨hw,rfl⟩
  · exact ⟨oi,hi,.inl ⟨hw,Step.value (hv w hS) ⟨fun _=>hS,H⟩⟩⟩
  · exact ⟨oi,hi,.inr ⟨hw,H⟩⟩
 induction fuel generalizing listed a w with
 | zero =>
   refine ⟨List.ne_nil_of_mem hr,fun j hj => ?_⟩
   rcases Nat.decEq j i with hji | rfl
   · exfalso
     have:=ready_mono hj hji
     rw [H.1] at this;cases this
   · exact self 0 listed a w hS hy H
 | succ fuel ih =>
   refine ⟨List.ne_nil_of_mem hr,fun j hj => ?_⟩
   rcases Nat.decEq j i with hji | rfl
   · obtain ⟨oj,ho,hcase⟩:=H.2 j (ready_mono hj hji)
     obtain ⟨a1,a2,a3⟩:=Oper.apart_spec ((hc j oj ho hji (mem_ready.1 hj).1).resolve_left (waits_not hr hj ho))
     have hjm:j<m:=by
      rcases Nat.lt_or_ge j m with h' | h'
      · exact h'
      · exact (waits_not hr hj ho (tailWaits_spec ht ho h' him)).elim
     have e1:=execOp_put oj (fun cs b=>hsel j oj cs b ho) a oi.dst v a1
     have e2:=wanted_put oj a oi.dst v a1
     refine ⟨oj,ho,?_⟩
     have next:∀ (u:Value) (w':World),S w'→GenAny P md ops Q S m fuel ((listed.setIfInBounds i true).setIfInBounds j true) ((a.put oi.dst v).put oj.dst u) w'→GenAny P md ops Q S m (fuel + 1) (listed.setIfInBounds j true) (a.put oj.dst u) w':=by
      intro u w' hS' hn
      refine ih _ _ _ (hc.set j) (ready_mono hr (Ne.symm hji)) hS' ?_ ?_
      · exact Z1u
      · exact Z2x
     rcases hcase with ⟨hw,hs⟩ | ⟨hw,hs⟩
     · refine .inl ⟨by rw [← e2];exact hw,?_⟩
       rw [e1] at hs
       exact hs.mono fun u w' ⟨h1,h2⟩=>⟨h1,next u w' (h1 hjm) h2⟩
     · exact .inr ⟨by rw [← e2];exact hw,next _ _ hS hs⟩
   · exact self (fuel + 1) listed a w hS hy H
theorem of_list {i:Nat} {o:Oper} (h:ops.toList[i]? = some o):ops[i]? = some o:=by rw [← h];simp
theorem gen_take {i:Nat} {oi:Oper} {v:Value} {fuel:Nat} {listed:Array Bool} {a:Act} {w:World} (hi0:ops.toList[i]? = some oi) (ht:tailWaits md ops m=true) (hs:Region.noSelect ops=true)
  (hf:Region.free md ops listed i=true) (hr:(Region.ready md ops listed).contains i=true) (him:i<m) (hS:S w) (hy:Reads P ops S oi v a)
  (H:GenAny P md ops Q S m fuel (listed.setIfInBounds i true) (a.put oi.dst v) w):GenAny P md ops Q S m (fuel + 1) listed a w :=
 gen_first ht (Region.noSelect_spec hs) him (of_list hi0) fuel listed a w (clear_of_free (of_list hi0) hf) (by simpa using hr) hS hy H
theorem gen_one {i:Nat} {o:Oper} {fuel:Nat} {listed:Array Bool} {a:Act} {w:World} (hr:Region.ready md ops listed=[i]) (hi0:ops.toList[i]? = some o) (hw:Region.wanted o (yielded ops a.tmps)=true)
  (h:Step P (fun u w'=>(i<m→S w')∧GenAny P md ops Q S m fuel (listed.setIfInBounds i true) (a.put o.dst u) w') ((execOp a.eval o).run P w)):GenAny P md ops Q S m (fuel + 1) listed a w :=
 ⟨by rw [hr];simp,fun j hj=>by rw [hr] at hj;obtain rfl:j=i:=(by simpa using hj);exact ⟨o,of_list hi0,.inl ⟨hw,h⟩⟩⟩
theorem gen_two {i j:Nat} {o o2:Oper} {fuel:Nat} {listed:Array Bool} {a:Act} {w:World} (hr:Region.ready md ops listed=[i,j]) (hi0:ops.toList[i]? = some o) (hj0:ops.toList[j]? = some o2) (hw:Region.wanted o (yielded ops a.tmps)=true) (hw2:Region.wanted o2 (yielded ops a.tmps)=true)
  (h:Step P (fun u w'=>(i<m→S w')∧GenAny P md ops Q S m fuel (listed.setIfInBounds i true) (a.put o.dst u) w') ((execOp a.eval o).run P w))
  (h2:Step P (fun u w'=>(j<m→S w')∧GenAny P md ops Q S m fuel (listed.setIfInBounds j true) (a.put o2.dst u) w') ((execOp a.eval o2).run P w)):GenAny P md ops Q S m (fuel + 1) listed a w :=
 ⟨by rw [hr];simp,fun k hk=>by
  rw [hr] at hk
  rcases (show k=i∨k=j by simpa using hk) with rfl | rfl
  · exact ⟨o,of_list hi0,.inl ⟨hw,h⟩⟩
  · exact ⟨o2,of_list hj0,.inl ⟨hw2,h2⟩⟩⟩
theorem gen_end {listed:Array Bool} {a:Act} {w:World} (hr:Region.ready md ops listed=[]) (h:Q .normal a w):GenAny P md ops Q S m 0 listed a w:=⟨hr,h⟩
theorem wp_region_gen {id:Nat} {l:List Oper} {a:Act} {w:World} (m:Nat) (hp:P.follows .mixedOrders=true) (hS:S w.drew)
  (h:S w.drew→GenAny P .any l.toArray Q S m l.toArray.size (Array.replicate l.toArray.size false) a w.drew):(Code.region id l.toArray true).wp P Q a w :=
 wp_region_any hp (GenAny.any _ _ _ _ (h hS))
theorem round_gen {id:Nat} {l:List Oper} {a:Act} {w:World} {n lp:Nat} (m:Nat) (hp:P.follows .mixedOrders=true) (hd:noDefer l=true) (ho:¬ LetsOut Q) (hS:S w.drew)
  (h:S w.drew→GenAny P .any l.toArray Q S m l.toArray.size (Array.replicate l.toArray.size false) a w.drew):(Code.region id l.toArray true).wpIn (Fence.wide.inRound lp) n P Q a w :=
 wpIn_region_any hp (wpAny_round hd ho _ _ _ _ (GenAny.any _ _ _ _ (h hS)))
theorem wp_behind {c:Code} {a0:Act} {w0:World} {Q:Exit→Act→World→Prop} (F:Act→Act→World→Prop) (h1:c.wp P (fun e a w=>e = .normal∧F a0 a w) a0 w0) (h2:∀ a w,F a0 a w→Q .normal a w):c.wp P Q a0 w0 :=
 wp_mono h1 fun e a w ⟨he,hf⟩=>by subst he;exact h2 a w hf
end
end Go.Proofs.YteggipnplbkijaaGreat.Drawn
namespace Go.Proofs.YteggipnplbkijaaGreat
open Go Drawn
section
variable {P:Program} {ops:Array Oper} {Q:Exit→Act→World→Prop} {md:Region.Mode} {S:World→Prop} {m:Nat}
theorem tkB (i:Nat) {oi:Oper} {v:Value} {fuel:Nat} {listed l':Array Bool} {a a':Act} {w:World} (H:GenAny P md ops Q S m fuel l' a' w) (hi0:ops.toList[i]? = some oi:=by rfl) (ht:tailWaits md ops m=true:=by kernel_rfl) (hs:Region.noSelect ops=true:=by kernel_rfl)
 (hf:Region.free md ops listed i=true:=by kernel_rfl) (hr:(Region.ready md ops listed).contains i=true:=by kernel_rfl) (him:i<m:=by omega) (hS:S w:=by assumption) (hy:Reads P ops S oi v a:=by first | exact .inr ⟨by rfl,rfl⟩ | exact .inl ⟨by rfl,by intro w2 hS;obtain ⟨hc,hf⟩:=bcell hS;go_simp;first | done | with_reducible rfl | exact ⟨rfl,rfl⟩⟩)
 (hl:listed.setIfInBounds i true=l':=by first | (simp only [Act.put,List.setIfInBounds_toArray,List.set_cons_zero,List.set_cons_succ];rfl) | (simp only [Act.put,List.setIfInBounds_toArray,List.set_cons_zero,List.set_cons_succ];done) | rfl) (ha:a.put oi.dst v=a':=by first | (simp only [Act.put,List.setIfInBounds_toArray,List.set_cons_zero,List.set_cons_succ];rfl) | (simp only [Act.put,List.setIfInBounds_toArray,List.set_cons_zero,List.set_cons_succ];done) | rfl):GenAny P md ops Q S m (fuel + 1) listed a w:=gen_take hi0 ht hs hf hr him hS hy (hl ▸ ha ▸ H)
theorem tkC (i:Nat) {oi:Oper} {v:Value} {fuel:Nat} {listed l':Array Bool} {a a':Act} {w:World} (H:GenAny P md ops Q S m fuel l' a' w) (hi0:ops.toList[i]? = some oi:=by rfl) (ht:tailWaits md ops m=true:=by kernel_rfl) (hs:Region.noSelect ops=true:=by kernel_rfl)
 (hf:Region.free md ops listed i=true:=by kernel_rfl) (hr:(Region.ready md ops listed).contains i=true:=by kernel_rfl) (him:i<m:=by omega) (hS:S w:=by first | assumption | exact hS0) (hy:Reads P ops S oi v a:=by first | exact .inr ⟨by rfl,rfl⟩ | exact .inl ⟨by rfl,by intro w2 hS;(repeat (obtain ⟨_,hS⟩:_∧_:=hS));go_simp;first | done | with_reducible rfl | exact ⟨rfl,rfl⟩⟩)
 (hl:listed.setIfInBounds i true=l':=by first | (simp only [Act.put,List.setIfInBounds_toArray,List.set_cons_zero,List.set_cons_succ];rfl) | (simp only [Act.put,List.setIfInBounds_toArray,List.set_cons_zero,List.set_cons_succ];done) | rfl) (ha:a.put oi.dst v=a':=by first | (simp only [Act.put,List.setIfInBounds_toArray,List.set_cons_zero,List.set_cons_succ];rfl) | (simp only [Act.put,List.setIfInBounds_toArray,List.set_cons_zero,List.set_cons_succ];done) | rfl):GenAny P md ops Q S m (fuel + 1) listed a w:=gen_take hi0 ht hs hf hr him hS hy (hl ▸ ha ▸ H)
theorem tkO (i:Nat) {oi:Oper} {v:Value} {fuel:Nat} {listed l':Array Bool} {a a':Act} {w:World} (H:GenAny P md ops Q S m fuel l' a' w) (hi0:ops.toList[i]? = some oi:=by rfl) (ht:tailWaits md ops m=true:=by kernel_rfl) (hs:Region.noSelect ops=true:=by kernel_rfl)
 (hf:Region.free md ops listed i=true:=by kernel_rfl) (hr:(Region.ready md ops listed).contains i=true:=by kernel_rfl) (him:i<m:=by omega) (hS:S w:=by assumption) (hy:Reads P ops S oi v a:=by first | exact .inr ⟨by rfl,rfl⟩ | exact .inl ⟨by rfl,by intro w2 hS;have hc:=outcell hS;go_simp;first | done | with_reducible rfl | exact ⟨rfl,rfl⟩⟩)
 (hl:listed.setIfInBounds i true=l':=by first | (simp only [Act.put,List.setIfInBounds_toArray,List.set_cons_zero,List.set_cons_succ];rfl) | (simp only [Act.put,List.setIfInBounds_toArray,List.set_cons_zero,List.set_cons_succ];done) | rfl) (ha:a.put oi.dst v=a':=by first | (simp only [Act.put,List.setIfInBounds_toArray,List.set_cons_zero,List.set_cons_succ];rfl) | (simp only [Act.put,List.setIfInBounds_toArray,List.set_cons_zero,List.set_cons_succ];done) | rfl):GenAny P md ops Q S m (fuel + 1) listed a w:=gen_take hi0 ht hs hf hr him hS hy (hl ▸ ha ▸ H)
theorem tkP (i:Nat) {oi:Oper} {v:Value} {fuel:Nat} {listed l':Array Bool} {a a':Act} {w:World} (H:GenAny P md ops Q S m fuel l' a' w) (hi0:ops.toList[i]? = some oi:=by rfl) (ht:tailWaits md ops m=true:=by kernel_rfl) (hs:Region.noSelect ops=true:=by kernel_rfl)
 (hf:Region.free md ops listed i=true:=by kernel_rfl) (hr:(Region.ready md ops listed).contains i=true:=by kernel_rfl) (him:i<m:=by omega) (hS:S w:=by assumption) (hy:Reads P ops S oi v a:=by first | exact .inr ⟨by rfl,rfl⟩ | exact .inl ⟨by rfl,by intro w2 hS;have hc:=outcell2 hS;go_simp;first | done | with_reducible rfl | exact ⟨rfl,rfl⟩⟩)
 (hl:listed.setIfInBounds i true=l':=by first | (simp only [Act.put,List.setIfInBounds_toArray,List.set_cons_zero,List.set_cons_succ];rfl) | (simp only [Act.put,List.setIfInBounds_toArray,List.set_cons_zero,List.set_cons_succ];done) | rfl) (ha:a.put oi.dst v=a':=by first | (simp only [Act.put,List.setIfInBounds_toArray,List.set_cons_zero,List.set_cons_succ];rfl) | (simp only [Act.put,List.setIfInBounds_toArray,List.set_cons_zero,List.set_cons_succ];done) | rfl):GenAny P md ops Q S m (fuel + 1) listed a w:=gen_take hi0 ht hs hf hr him hS hy (hl ▸ ha ▸ H)
theorem tkQ (i:Nat) {oi:Oper} {v:Value} {fuel:Nat} {listed l':Array Bool} {a a':Act} {w:World} (H:GenAny P md ops Q S m fuel l' a' w) (hi0:ops.toList[i]? = some oi:=by rfl) (ht:tailWaits md ops m=true:=by kernel_rfl) (hs:Region.noSelect ops=true:=by kernel_rfl)
 (hf:Region.free md ops listed i=true:=by kernel_rfl) (hr:(Region.ready md ops listed).contains i=true:=by kernel_rfl) (him:i<m:=by omega) (hS:S w:=by assumption) (hy:Reads P ops S oi v a:=by first | exact .inr ⟨by rfl,rfl⟩ | exact .inl ⟨by rfl,by intro w2 hS;obtain ⟨hS,hSs⟩:=hS;(repeat (obtain ⟨_,hSs⟩:_∧_:=hSs));(first | have hc:=outcell hS | have hc:=outcell2 hS);go_simp;first | done | with_reducible rfl | exact ⟨rfl,rfl⟩⟩)
 (hl:listed.setIfInBounds i true=l':=by first | (simp only [Act.put,List.setIfInBounds_toArray,List.set_cons_zero,List.set_cons_succ];rfl) | (simp only [Act.put,List.setIfInBounds_toArray,List.set_cons_zero,List.set_cons_succ];done) | rfl) (ha:a.put oi.dst v=a':=by first | (simp only [Act.put,List.setIfInBounds_toArray,List.set_cons_zero,List.set_cons_succ];rfl) | (simp only [Act.put,List.setIfInBounds_toArray,List.set_cons_zero,List.set_cons_succ];done) | rfl):GenAny P md ops Q S m (fuel + 1) listed a w:=gen_take hi0 ht hs hf hr him hS hy (hl ▸ ha ▸ H)
theorem tkR (i:Nat) {oi:Oper} {v:Value} {fuel:Nat} {listed l':Array Bool} {a a':Act} {w:World} (hi0:ops.toList[i]? = some oi) (hy:Reads P ops S oi v a) (H:GenAny P md ops Q S m fuel l' a' w) (ht:tailWaits md ops m=true:=by kernel_rfl) (hs:Region.noSelect ops=true:=by kernel_rfl)
 (hf:Region.free md ops listed i=true:=by kernel_rfl) (hr:(Region.ready md ops listed).contains i=true:=by kernel_rfl) (him:i<m:=by omega) (hS:S w:=by assumption)
 (hl:listed.setIfInBounds i true=l':=by first | (simp only [Act.put,List.setIfInBounds_toArray,List.set_cons_zero,List.set_cons_succ];rfl) | (simp only [Act.put,List.setIfInBounds_toArray,List.set_cons_zero,List.set_cons_succ];done) | rfl) (ha:a.put oi.dst v=a':=by first | (simp only [Act.put,List.setIfInBounds_toArray,List.set_cons_zero,List.set_cons_succ];rfl) | (simp only [Act.put,List.setIfInBounds_toArray,List.set_cons_zero,List.set_cons_succ];done) | rfl):GenAny P md ops Q S m (fuel + 1) listed a w:=gen_take hi0 ht hs hf hr him hS hy (hl ▸ ha ▸ H)
theorem tk1 (i:Nat) {o:Oper} {fuel:Nat} {listed:Array Bool} {a:Act} {w:World} (h:Step P (fun u w'=>(i<m→S w')∧GenAny P md ops Q S m fuel (listed.setIfInBounds i true) (a.put o.dst u) w') ((execOp a.eval o).run P w)) (hr:Region.ready md ops listed=[i]:=by kernel_rfl) (hi0:ops.toList[i]? = some o:=by rfl) (hw:Region.wanted o (yielded ops a.tmps)=true:=by rfl):GenAny P md ops Q S m (fuel + 1) listed a w:=gen_one hr hi0 hw h
theorem tk2 (i j:Nat) {o o2:Oper} {fuel:Nat} {listed:Array Bool} {a:Act} {w:World} (h:Step P (fun u w'=>(i<m→S w')∧GenAny P md ops Q S m fuel (listed.setIfInBounds i true) (a.put o.dst u) w') ((execOp a.eval o).run P w))
 (h2:Step P (fun u w'=>(j<m→S w')∧GenAny P md ops Q S m fuel (listed.setIfInBounds j true) (a.put o2.dst u) w') ((execOp a.eval o2).run P w)) (hr:Region.ready md ops listed=[i,j]:=by kernel_rfl) (hi0:ops.toList[i]? = some o:=by rfl) (hj0:ops.toList[j]? = some o2:=by rfl) (hw:Region.wanted o (yielded ops a.tmps)=true:=by rfl) (hw2:Region.wanted o2 (yielded ops a.tmps)=true:=by rfl):GenAny P md ops Q S m (fuel + 1) listed a w:=gen_two hr hi0 hj0 hw hw2 h h2
theorem tkE {listed:Array Bool} {a:Act} {w:World} (h:Q .normal a w) (hr:Region.ready md ops listed=[]:=by kernel_rfl):GenAny P md ops Q S m 0 listed a w:=gen_end hr h
theorem tkV {i fuel:Nat} {o:Oper} {r:Result Next} {u:Value} {w':World} {listed l':Array Bool} {a a':Act} (h:GenAny P md ops Q S m fuel l' a' w') (hr:r = .ok (.value u) w':=by go_simp;first | done | with_reducible rfl | exact ⟨rfl,rfl⟩) (hS:i<m→S w') (hl:listed.setIfInBounds i true=l':=by first | (simp only [Act.put,List.setIfInBounds_toArray,List.set_cons_zero,List.set_cons_succ];rfl) | (simp only [Act.put,List.setIfInBounds_toArray,List.set_cons_zero,List.set_cons_succ];done) | rfl) (ha:a.put o.dst u=a':=by first | (simp only [Act.put,List.setIfInBounds_toArray,List.set_cons_zero,List.set_cons_succ];rfl) | (simp only [Act.put,List.setIfInBounds_toArray,List.set_cons_zero,List.set_cons_succ];done) | rfl):Step P (fun u w'=>(i<m→S w')∧GenAny P md ops Q S m fuel (listed.setIfInBounds i true) (a.put o.dst u) w') r:=Step.value hr ⟨hS,hl ▸ ha ▸ h⟩
theorem tkX {id:Nat} {l:List Oper} {a:Act} {w:World} (m:Nat) (hS:S w.drew) (h:S w.drew→GenAny P .any l.toArray Q S m l.toArray.size (Array.replicate l.toArray.size false) a w.drew) (hp:P.follows .mixedOrders=true:=by kernel_rfl):(Code.region id l.toArray true).wp P Q a w:=wp_region_gen m hp hS h
end
end Go.Proofs.YteggipnplbkijaaGreat
namespace Go.Proofs.YteggipnplbkijaaGreat.Fix
open Go.ChangeShapes Go.WideShapes Go.ChangeAt Go.RowKit
section
variable {ops:Array Oper} {rest:List Oper} {o:Oper} {a:Act} {w w':World} {Q:Exit→Act→World→Prop}
theorem wpList_value {P:Program} {v:Value} (hw:Region.wanted o (yielded ops a.tmps)=true) (hrun:(execOp a.eval o).run P w = .ok (.value v) w') (h:wpList P ops Q rest (a.put o.dst v) w'):wpList P ops Q (o :: rest) a w:=by
 exact Z2w
theorem wpList_none {P:Program} (hw:Region.wanted o (yielded ops a.tmps)=true) (hrun:(execOp a.eval o).run P w = .ok .skip w') (h:wpList P ops Q rest (a.put o.dst undef) w'):wpList P ops Q (o :: rest) a w:=by
 exact Z2w
theorem wpList_alloc_style (hw:Region.wanted o (yielded ops a.tmps)=true) (ho:o.op = .alloc 37) (h:wpList Tryz.prog ops Q rest (a.put o.dst (.pointer (some ⟨w.heap.size,0,none⟩))) (w.alloc (.cells (cells Re.zero) 37))):wpList Tryz.prog ops Q (o :: rest) a w :=
 wpList_value hw (by unfold execOp;simp only [ho,Sem.run_bind,alloc_style,Result.andThen_ok,Sem.run_pure]) h
theorem wpList_build_zero (hw:Region.wanted o (yielded ops a.tmps)=true) (ho:o.op = .build 37 #[]) (h:wpList Tryz.prog ops Q rest (a.put o.dst (.agg (cells Re.zero))) w):wpList Tryz.prog ops Q (o :: rest) a w :=
 wpList_value hw (by unfold execOp;simp only [ho,Sem.run_bind,List.map_toArray,List.map_nil,build_style,Result.andThen_ok,Sem.run_pure]) h
theorem wpList_load_style (hw:Region.wanted o (yielded ops a.tmps)=true) (x:Operand) (ho:o.op = .load 37 x) {b:Nat} (hx:a.eval x = .pointer (some ⟨b,0,none⟩)) {s:Re.St} (hs:At w b (.cells (cells s) 37))
  (h:wpList Tryz.prog ops Q rest (a.put o.dst (.agg (cells s))) w):wpList Tryz.prog ops Q (o :: rest) a w :=
 wpList_value hw (by unfold execOp;simp only [ho,hx,Sem.run_bind,load_style hs,Result.andThen_ok,Sem.run_pure]) h
theorem wpList_store_style (hw:Region.wanted o (yielded ops a.tmps)=true) (x y:Operand) (ho:o.op = .store 37 x y) {b:Nat} (hx:a.eval x = .pointer (some ⟨b,0,none⟩)) {s t:Re.St} (hy:a.eval y = .agg (cells t)) (hs:At w b (.cells (cells s) 37))
  (h:wpList Tryz.prog ops Q rest (a.put o.dst undef) (w.setRow b (cells t))):wpList Tryz.prog ops Q (o :: rest) a w :=
 wpList_none hw (by unfold execOp;simp only [ho,hx,hy,Sem.run_bind,store_style hs,Result.andThen_ok,Sem.run_pure]) h
theorem wpList_store_same (hw:Region.wanted o (yielded ops a.tmps)=true) (x y:Operand) (ho:o.op = .store 37 x y) {b:Nat} (hx:a.eval x = .pointer (some ⟨b,0,none⟩)) {s:Re.St} (hy:a.eval y = .agg (cells s)) (hs:At w b (.cells (cells s) 37))
  (h:wpList Tryz.prog ops Q rest (a.put o.dst undef) w):wpList Tryz.prog ops Q (o :: rest) a w :=
 wpList_none hw (by unfold execOp;simp only [ho,hx,hy,Sem.run_bind,store_style_same hs,Result.andThen_ok,Sem.run_pure]) h
end
theorem addr_add (b off k:Nat):(⟨b,off,none⟩:Addr).add k=⟨b,off + k,none⟩:=by
 unfold Addr.add;split
 · subst k;rfl
 · rfl
theorem Ints.from_ {w:World} {A:Option Addr} {l:List Int} (h:Ints w A l) (k cap:Nat) (hk:k≤l.length) (hc:l.length≤cap):Ints w (if cap=k then A else A.map (·.add (k * 1))) (l.drop k):=by
 refine ⟨by rw [List.length_drop];have:=h.1;omega,fun h0 => ?_⟩
 rw [List.length_drop] at h0
 obtain ⟨b,off,rfl,hcell⟩:=h.2 Z3f
 rw [if_neg Z3f]
 refine ⟨b,off + k,by simp [addr_add],fun j hj => ?_⟩
 rw [List.length_drop] at hj
 have:=hcell (k + j) Z3f
 rw [Nat.add_assoc,this]
 simp [List.getD]
theorem wpList_sliced {P:Program} {w:World} {ops:Array Oper} {rest:List Oper} {o:Oper} {a:Act} {Q:Exit→Act→World→Prop} {t:TypeId} {x:Operand} {lo hi mx:Option Operand} {v:Value} (ho:o.op = .slice t x lo hi mx) (hw:Region.wanted o (yielded ops a.tmps)=true)
  (hrun:(Instr.sliceAt t (a.eval x) (lo.map a.eval) (hi.map a.eval) (mx.map a.eval)).run P w = .ok v w) (h:wpList P ops Q rest (a.put o.dst v) w):wpList P ops Q (o :: rest) a w:=by
 unfold wpList
 rw [if_pos hw]
 refine .inl ?_
 unfold Oper.wp execOp
 simp only [ho,Sem.run_bind,Sem.run_pure,hrun,Result.andThen_ok]
 exact h
theorem slice_from (A:Option Addr) (n c k:Nat) (hk:k≤n) (W:World):(Instr.sliceAt 52 (.slice A n c) (some (.int .i64 (k:Int))) none none).run Tryz.prog W = .ok (.slice (if c=k then A else A.map (·.add (k * 1))) (n - k) (c - k)) W:=by
 have he:Tryz.prog.elem 52=3:=by kernel_rfl
 have hu:Tryz.prog.underlying 52=some (.slice (Tryz.prog.elem 52)):=by rw [he];exact Tryz.underlying52
 obtain ⟨i0,hi0,hz0,hz1,hz2⟩:=info_parts intZero
 rw [run_sliceAt_slice (h:=hu),run_slice_l (ht:=hu) (h0:=by omega) (h1:=by omega),he]
 simp [sizeOf,typeInfo,hi0,hz1,sliced,go_sem]
theorem run_append_op {P:Program} {w w':World} {o:Oper} {a:Act} (s x:Operand) (t:TypeId) (ho:o.op = .call { callee:= .builtin .append,args:=#[s,x],argTypes:=#[t,t] }) {v u v':Value} (hs:a.eval s=v) (hx:a.eval x=u)
  (hrun:(Builtin.append_ #[t,t] o.type #[v,u]).run P w = .ok v' w'):(execOp a.eval o).run P w = .ok (.value v') w':=by
 exact Z1r
def ApartR (v u:Value):Prop:=v.ownBlock=none∨u.ownBlock=none∨v.ownBlock≠u.ownBlock
theorem ApartR.symm {v u:Value} (h:ApartR v u):ApartR u v:=by
 rcases h with h | h | h
 · exact .inr (.inl h)
 · exact .inl h
 · exact .inr (.inr (Ne.symm h))
theorem own_sliceR {W:World} {base:Nat} {e:TypeId} {sz k:Nat} {v:Value} {xs:List Value} (h:W.ownsRow base e sz v k xs):∃ A c,v = .slice A k c:=by
 rcases h.2 with ⟨rfl,h0⟩ | ⟨g,cap,cur,rfl,_⟩
 · exact ⟨none,0,by rw [h0]⟩
 · exact ⟨_,_,rfl⟩
theorem own_made {W:World} {base sz n:Nat} {xs:List Value} {e:TypeId} (hb:base≤W.heap.size) (hl:xs.length=n * sz) (hn:n≤1000):(W.alloc (.cells xs.toArray e)).ownsRow base e sz (.slice (some ⟨W.heap.size,0,none⟩) n n) n xs:=by
 refine ⟨hl,.inr ⟨W.heap.size,n,xs.toArray,rfl,hb,At.new W _,Nat.le_refl _,by unfold maxLen;omega,by simpa using hl,?_⟩⟩
 simp [← hl]
theorem own_cells {W:World} {base sz n c:Nat} {A:Option Addr} {xs:List Value} {e:TypeId} (h:W.ownsRow base e sz (.slice A n c) n xs) (h0:0<n):∃ g,A=some ⟨g,0,none⟩∧base≤g∧g<W.heap.size∧∀ (j:Nat) (v:Value),xs[j]? = some v→W.cell? ⟨g,j,none⟩=some v:=by
 rcases h.2 with ⟨e1,h1⟩ | ⟨g,cap,cur,e1,hb,hg,_,_,_,hx⟩
 · omega
 · injection e1 with e1
   refine ⟨g,e1,hb,(Array.getElem?_eq_some_iff.1 hg).1,fun j v hj => ?_⟩
   rw [cell_of_row W g j cur e (0,0) hg]
   rw [← hx,List.getElem?_take] at hj
   split at hj
   · simpa using hj
   · cases hj
theorem At.st {W:World} {b:Nat} {t:Re.St} {T:TypeId} (h:At W b (.cells (cells t) T)) (i:Nat) (hi:i<55) (hb:Re.isB i=false):W.cell? ⟨b,i,none⟩=some (.int .i64 (t.c i)):=(h.cell i).trans (cells_int t hi hb)
theorem At.bt {W:World} {b:Nat} {t:Re.St} {T:TypeId} (h:At W b (.cells (cells t) T)) (i:Nat) (hi:i<55) (hb:Re.isB i=true):W.cell? ⟨b,i,none⟩=some (.bool (t.b i)):=(h.cell i).trans (cells_bool t hi hb)
def lp (k:Nat):List Nat:=[3,5,7,9,11,13,41] ++ (List.range k).flatMap fun j=>[15 + 2 * j,23 + 2 * j]
def lenVals (t:Re.St) (l:List Nat):List Value:=l.flatMap fun p=>[.int .i64 (t.c p),.int .i64 (t.c (p + 1))]
theorem lenVals_get (t:Re.St):∀ {l:List Nat} {k p:Nat},l[k]? = some p→(lenVals t l)[k * 2]? = some (.int .i64 (t.c p))∧(lenVals t l)[k * 2 + 1]? = some (.int .i64 (t.c (p + 1)))
 | [],_,_,h=>by simp at h
 | a :: l,0,p,h=>by
   simp at h
   subst h
   exact ⟨rfl,rfl⟩
 | a :: l,k + 1,p,h=>by
   have ih:=lenVals_get t (l:=l) (k:=k) (p:=p) (by simpa using h)
   have e:lenVals t (a :: l) = .int .i64 (t.c a) :: .int .i64 (t.c (a + 1)) :: lenVals t l:=rfl
   rw [e,show (k + 1) * 2=k * 2 + 1 + 1 by omega]
   simpa using ih
theorem lenInfo:(Tryz.prog.info? 28).map (fun i=>(i.zero,i.size,i.bytes))=some (some (.agg #[.int .i64 0,.int .i64 0]),2,16):=by kernel_rfl
theorem atLowR {W W':World} {b base:Nat} {o:Obj} (h:At W b o) (hl:b<base) (hb:Below base W W'):At W' b o:=(hb.block b hl).trans h
theorem wr64 (x:Int):wrap64 x=Fw.wr x:=by unfold Fw.wr wrap64;rfl
theorem fall_any (a b:Int) (w:World):Calls Tryz.prog 76 #[.agg #[.int .i64 a,.int .i64 b]] w fun e w'=>e = .returned (.int .i64 (Fw.wr (a + b)))∧Below w.heap.size w w':=by
 go_enter Tryz.func76,Tryz.ntmps76
 go_wp2
 go_ret
 refine ⟨ret_int (wr64 _),?_⟩
 exact Z6
theorem fside00 (w:World):Calls Tryz.prog 153 #[.int .i64 0,.int .i64 0] w fun x w'=>x = .returned (.int .i64 3)∧Below w.heap.size w w':=by
 exact Z2s
theorem fside01 (w:World):Calls Tryz.prog 153 #[.int .i64 0,.int .i64 1] w fun x w'=>x = .returned (.int .i64 1)∧Below w.heap.size w w':=by
 exact Z2s
theorem fside10 (w:World):Calls Tryz.prog 153 #[.int .i64 1,.int .i64 0] w fun x w'=>x = .returned (.int .i64 0)∧Below w.heap.size w w':=by
 exact Z2s
theorem fside11 (w:World):Calls Tryz.prog 153 #[.int .i64 1,.int .i64 1] w fun x w'=>x = .returned (.int .i64 2)∧Below w.heap.size w w':=by
 exact Z2s
theorem flim_any (k0 n0 k1 n1 k2 n2 n base:Int) (w:World):Calls Tryz.prog 75 #[.agg #[.int .i64 k0,.int .i64 n0,.int .i64 k1,.int .i64 n1,.int .i64 k2,.int .i64 n2],.int .i64 n,.int .i64 base] w fun e w'=>e = .returned (.int .i64 (Fx.limit n k1 n1 k2 n2 base))∧Below w.heap.size w w':=by
 go_enter Tryz.func75,Tryz.ntmps75
 go_wp2_with (first | (go_at_call 32;(with_reducible refine (limit_any _ _ _ _ _ _ _).mono ?_);rintro e w' ⟨rfl,hb⟩;(try replace hb:=Below.after Z3v hb);obtain ⟨hc,hf⟩:=bcell hb;have hz:=hb.size;(try simp at hz)))
 go_ret
 refine ⟨rfl,?_⟩
 exact Z6
theorem ffix_any (k0 n0 k1 n1 k2 n2 base:Int) (w:World):Calls Tryz.prog 110 #[.agg #[.int .i64 k0,.int .i64 n0,.int .i64 k1,.int .i64 n1,.int .i64 k2,.int .i64 n2],.int .i64 base] w fun e w'=>e = .returned (.bool (Fx.fixd k0 base))∧Below w.heap.size w w':=by
 go_enter Tryz.func110,Tryz.ntmps110
 go_wp2_with (first | (go_at_call 30;(with_reducible refine (fixed_any _ _ _ _).mono ?_);rintro e w' ⟨rfl,hb⟩;(try replace hb:=Below.after Z3v hb);obtain ⟨hc,hf⟩:=bcell hb;have hz:=hb.size;(try simp at hz)))
 go_ret
 refine ⟨rfl,?_⟩
 exact Z6
set_option maxHeartbeats 4000000 in
theorem index4_0 (a b c d:Int) (w:World):(Instr.index 30 (.agg #[.int .i64 a,.int .i64 b,.int .i64 c,.int .i64 d]) (.int .i64 0)).run Tryz.prog w = .ok (.int .i64 a) w:=by kernel_rfl
set_option maxHeartbeats 4000000 in
theorem index4_1 (a b c d:Int) (w:World):(Instr.index 30 (.agg #[.int .i64 a,.int .i64 b,.int .i64 c,.int .i64 d]) (.int .i64 1)).run Tryz.prog w = .ok (.int .i64 b) w:=by kernel_rfl
set_option maxHeartbeats 4000000 in
theorem index4_2 (a b c d:Int) (w:World):(Instr.index 30 (.agg #[.int .i64 a,.int .i64 b,.int .i64 c,.int .i64 d]) (.int .i64 2)).run Tryz.prog w = .ok (.int .i64 c) w:=by kernel_rfl
set_option maxHeartbeats 4000000 in
theorem index4_3 (a b c d:Int) (w:World):(Instr.index 30 (.agg #[.int .i64 a,.int .i64 b,.int .i64 c,.int .i64 d]) (.int .i64 3)).run Tryz.prog w = .ok (.int .i64 d) w:=by kernel_rfl
set_option maxHeartbeats 4000000 in
theorem fedges_any (s:Re.St) (w:World):Calls Tryz.prog 15 #[.agg (cells s)] w fun e w'=>e = .returned (.agg #[.int .i64 (Fw.ed s 0),.int .i64 (Fw.ed s 1),.int .i64 (Fw.ed s 2),.int .i64 (Fw.ed s 3)])∧Below w.heap.size w w':=by
 go_enter Tryz.func15,Tryz.ntmps15
 go_upto_region 1 with (fail)
 generalize hW:World.alloc _ _=W0
 have A0:At W0 w.heap.size (.cells (cells s) 37):=hW ▸ At.alloc (At.new _ _) _
 have A1:At W0 (w.heap.size + 1) (.cells #[.int .i64 0,.int .i64 0,.int .i64 0,.int .i64 0] 30):=hW ▸ At.new' _ Z3t
 have hB:Below w.heap.size w W0:=hW ▸ Below.alloc' (Below.alloc' (Below.refl _ _) _) _
 clear hW
 have l0:=A0.lt
 have p0:W0.cell? ⟨w.heap.size,31,none⟩=some (.int .i64 (s.c 31)):=A0.st 31 Z3f rfl
 have p1:W0.cell? ⟨w.heap.size,32,none⟩=some (.int .i64 (s.c 32)):=A0.st 32 Z3f rfl
 have p2:W0.cell? ⟨w.heap.size,33,none⟩=some (.int .i64 (s.c 33)):=A0.st 33 Z3f rfl
 have p3:W0.cell? ⟨w.heap.size,34,none⟩=some (.int .i64 (s.c 34)):=A0.st 34 Z3f rfl
 have q0:W0.cell? ⟨w.heap.size,35,none⟩=some (.int .i64 (s.c 35)):=A0.st 35 Z3f rfl
 have q1:W0.cell? ⟨w.heap.size,36,none⟩=some (.int .i64 (s.c 36)):=A0.st 36 Z3f rfl
 have q2:W0.cell? ⟨w.heap.size,37,none⟩=some (.int .i64 (s.c 37)):=A0.st 37 Z3f rfl
 have q3:W0.cell? ⟨w.heap.size,38,none⟩=some (.int .i64 (s.c 38)):=A0.st 38 Z3f rfl
 clear A0
 have i0:=index4_0 (s.c 35) (s.c 36) (s.c 37) (s.c 38)
 have i1:=index4_1 (s.c 35) (s.c 36) (s.c 37) (s.c 38)
 have i2:=index4_2 (s.c 35) (s.c 36) (s.c 37) (s.c 38)
 have i3:=index4_3 (s.c 35) (s.c 36) (s.c 37) (s.c 38)
 obtain ⟨l1,c1_0,c1_1,c1_2,c1_3⟩:=At.four A1
 have z1_0:=A1.thaw 0
 have z1_1:=A1.thaw 1
 have z1_2:=A1.thaw 2
 have z1_3:=A1.thaw 3
 go_wp2
 refine wp_loop_rounds 5 ?_
 rw [rounds_succ]
 go_wp2
 rw [rounds_succ]
 go_wp2
 rw [rounds_succ]
 go_wp2
 rw [rounds_succ]
 go_wp2
 rw [rounds_succ]
 go_wp2
 refine bodyPost_ret (v:= .agg #[.int .i64 _,.int .i64 _,.int .i64 _,.int .i64 _]) (by simp [results,Tryz.results15,go_sem, *];first | done | exact ⟨rfl,rfl⟩ | exact ⟨rfl,rfl,rfl,rfl⟩ | rfl) rfl ⟨ret_four (wr64 _) (wr64 _) (wr64 _) (wr64 _),?_⟩
 exact Z6
set_option maxHeartbeats 4000000 in
theorem fbyway_any (a b c d:Int) (w:World):Calls Tryz.prog 106 #[.agg #[.int .i64 a,.int .i64 b,.int .i64 c,.int .i64 d]] w fun e w'=>e = .returned (.agg #[.int .i64 d,.int .i64 b,.int .i64 a,.int .i64 c])∧Below w.heap.size w w':=by
 go_enter Tryz.func106,Tryz.ntmps106
 go_upto_region 3 with (fail)
 generalize hW:World.alloc _ _=W0
 have A0:At W0 w.heap.size (.cells #[.int .i64 a,.int .i64 b,.int .i64 c,.int .i64 d] 30):=hW ▸ At.alloc (At.alloc (At.new _ _) _) _
 have A1:At W0 (w.heap.size + 1) (.cells #[.int .i64 0,.int .i64 0,.int .i64 0,.int .i64 0] 139):=hW ▸ At.alloc (At.new' _ Z3t) _
 have A2:At W0 (w.heap.size + 1 + 1) (.cells #[.int .i64 0,.int .i64 0,.int .i64 0,.int .i64 0] 139):=hW ▸ At.new' _ Z3t
 have hB:Below w.heap.size w W0:=hW ▸ Below.alloc' (Below.alloc' (Below.alloc' (Below.refl _ _) _) _) _
 clear hW
 have g0:=hB.size
 obtain ⟨l0,c0_0,c0_1,c0_2,c0_3⟩:=At.four A0
 obtain ⟨l1,c1_0,c1_1,c1_2,c1_3⟩:=At.four A1
 have z1_0:=A1.thaw 0
 have z1_1:=A1.thaw 1
 have z1_2:=A1.thaw 2
 have z1_3:=A1.thaw 3
 obtain ⟨l2,c2_0,c2_1,c2_2,c2_3⟩:=At.four A2
 have z2_0:=A2.thaw 0
 have z2_1:=A2.thaw 1
 have z2_2:=A2.thaw 2
 have z2_3:=A2.thaw 3
 refine wp_loop_rounds 3 ?_
 rw [rounds_succ]
 go_upto_region 5 with (fail)
 refine sqtt 11 1 ?_
 (repeat (first | refine sqk ?_ | refine sqc ?_ (hc:=by intro w2 hS;first | with_reducible exact qaB hS (fside00 _) | with_reducible exact qaB hS (fside01 _) | with_reducible exact qaB hS (fside10 _) | with_reducible exact qaB hS (fside11 _)) | refine sqv ?_))
 refine Drawn.seq_tail ?_;intro w2 hS
 (clear l0 c0_0 c0_1 c0_2 c0_3 l1 c1_0 c1_1 c1_2 c1_3 z1_0 z1_1 z1_2 z1_3 l2 c2_0 c2_1 c2_2 c2_3 z2_0 z2_1 z2_2 z2_3);(replace hB:=Below.after2 Z3g (Nat.le_refl _) hS);replace A0:=At.keep Z3k hS;replace A1:=At.keep Z3h hS;replace A2:=At.keep Z3j hS;clear hS;obtain ⟨l0,c0_0,c0_1,c0_2,c0_3⟩:=At.four A0;obtain ⟨l1,c1_0,c1_1,c1_2,c1_3⟩:=At.four A1;have z1_0:=A1.thaw 0;have z1_1:=A1.thaw 1;have z1_2:=A1.thaw 2;have z1_3:=A1.thaw 3;obtain ⟨l2,c2_0,c2_1,c2_2,c2_3⟩:=At.four A2;have z2_0:=A2.thaw 0;have z2_1:=A2.thaw 1;have z2_2:=A2.thaw 2;have z2_3:=A2.thaw 3
 refine tkT ?_;intro K hK;go_simp;refine hK _ _ (Drawn.text_nil ?_);clear hK K
 generalize hW:World.setCell _ _ _=W1
 clear l0 c0_0 c0_1 c0_2 c0_3 l1 c1_0 c1_1 c1_2 c1_3 z1_0 z1_1 z1_2 z1_3 l2 c2_0 c2_1 c2_2 c2_3 z2_0 z2_1 z2_2 z2_3
 replace A2:At W1 (w.heap.size + 1 + 1) (.cells #[.int .i64 d,.int .i64 b,.int .i64 0,.int .i64 0] 139):=hW ▸ At.set (At.set (A2) 0 _) 1 _
 replace A0:At W1 w.heap.size (.cells #[.int .i64 a,.int .i64 b,.int .i64 c,.int .i64 d] 30):=hW ▸ At.off (At.off (A0) Z3f _ _) Z3f _ _
 replace A1:At W1 (w.heap.size + 1) (.cells #[.int .i64 0,.int .i64 0,.int .i64 0,.int .i64 0] 139):=hW ▸ At.off (At.off (A1) Z3f _ _) Z3f _ _
 replace hB:Below w.heap.size w W1:=hW ▸ Below.setCell (Below.setCell (hB) Z3p _) Z3p _
 clear hW
 obtain ⟨l2,c2_0,c2_1,c2_2,c2_3⟩:=At.four A2
 have z2_0:=A2.thaw 0
 have z2_1:=A2.thaw 1
 have z2_2:=A2.thaw 2
 have z2_3:=A2.thaw 3
 obtain ⟨l0,c0_0,c0_1,c0_2,c0_3⟩:=At.four A0
 obtain ⟨l1,c1_0,c1_1,c1_2,c1_3⟩:=At.four A1
 have z1_0:=A1.thaw 0
 have z1_1:=A1.thaw 1
 have z1_2:=A1.thaw 2
 have z1_3:=A1.thaw 3
 go_wp2
 rw [rounds_succ]
 go_upto_region 5 with (fail)
 refine sqtt 11 1 ?_
 (repeat (first | refine sqk ?_ | refine sqc ?_ (hc:=by intro w2 hS;first | with_reducible exact qaB hS (fside00 _) | with_reducible exact qaB hS (fside01 _) | with_reducible exact qaB hS (fside10 _) | with_reducible exact qaB hS (fside11 _)) | refine sqv ?_))
 refine Drawn.seq_tail ?_;intro w2 hS
 (clear l0 c0_0 c0_1 c0_2 c0_3 l1 c1_0 c1_1 c1_2 c1_3 z1_0 z1_1 z1_2 z1_3 l2 c2_0 c2_1 c2_2 c2_3 z2_0 z2_1 z2_2 z2_3);(replace hB:=Below.after2 Z3g (Nat.le_refl _) hS);replace A0:=At.keep Z3k hS;replace A1:=At.keep Z3h hS;replace A2:=At.keep Z3j hS;clear hS;obtain ⟨l0,c0_0,c0_1,c0_2,c0_3⟩:=At.four A0;obtain ⟨l1,c1_0,c1_1,c1_2,c1_3⟩:=At.four A1;have z1_0:=A1.thaw 0;have z1_1:=A1.thaw 1;have z1_2:=A1.thaw 2;have z1_3:=A1.thaw 3;obtain ⟨l2,c2_0,c2_1,c2_2,c2_3⟩:=At.four A2;have z2_0:=A2.thaw 0;have z2_1:=A2.thaw 1;have z2_2:=A2.thaw 2;have z2_3:=A2.thaw 3
 refine tkT ?_;intro K hK;go_simp;refine hK _ _ (Drawn.text_nil ?_);clear hK K
 generalize hW:World.setCell _ _ _=W1
 clear l0 c0_0 c0_1 c0_2 c0_3 l1 c1_0 c1_1 c1_2 c1_3 z1_0 z1_1 z1_2 z1_3 l2 c2_0 c2_1 c2_2 c2_3 z2_0 z2_1 z2_2 z2_3
 replace A2:At W1 (w.heap.size + 1 + 1) (.cells #[.int .i64 d,.int .i64 b,.int .i64 a,.int .i64 c] 139):=hW ▸ At.set (At.set (A2) 2 _) 3 _
 replace A0:At W1 w.heap.size (.cells #[.int .i64 a,.int .i64 b,.int .i64 c,.int .i64 d] 30):=hW ▸ At.off (At.off (A0) Z3f _ _) Z3f _ _
 replace A1:At W1 (w.heap.size + 1) (.cells #[.int .i64 0,.int .i64 0,.int .i64 0,.int .i64 0] 139):=hW ▸ At.off (At.off (A1) Z3f _ _) Z3f _ _
 replace hB:Below w.heap.size w W1:=hW ▸ Below.setCell (Below.setCell (hB) Z3p _) Z3p _
 clear hW
 obtain ⟨l2,c2_0,c2_1,c2_2,c2_3⟩:=At.four A2
 have z2_0:=A2.thaw 0
 have z2_1:=A2.thaw 1
 have z2_2:=A2.thaw 2
 have z2_3:=A2.thaw 3
 obtain ⟨l0,c0_0,c0_1,c0_2,c0_3⟩:=At.four A0
 obtain ⟨l1,c1_0,c1_1,c1_2,c1_3⟩:=At.four A1
 have z1_0:=A1.thaw 0
 have z1_1:=A1.thaw 1
 have z1_2:=A1.thaw 2
 have z1_3:=A1.thaw 3
 go_wp2
 rw [rounds_succ]
 go_wp2
 refine bodyPost_ret (v:= .agg #[.int .i64 _,.int .i64 _,.int .i64 _,.int .i64 _]) (by simp [results,Tryz.results106,go_sem, *];first | done | exact ⟨rfl,rfl⟩ | exact ⟨rfl,rfl,rfl,rfl⟩ | rfl) rfl ⟨ret_four rfl rfl rfl rfl,?_⟩
 exact Z6
end Go.Proofs.YteggipnplbkijaaGreat.Fix
