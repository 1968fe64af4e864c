/- Proved here: what functions of the program do, in plain numbers (part 7); no conditions but those in sight. -/
import Derived.Deep.RegionWith
import Derived.Deep.Cut
import Derived.Test.YtcbcfdihofclkaaGreatQK
import Derived.Test.YtcbcfdihofclkaaGreatQ04
import Derived.Test.YtcbcfdihofclkaaGreatQ05
import Derived.Test.YtcbcfdihofclkaaGreatQ06
set_option linter.unusedVariables false
set_option linter.unusedSimpArgs false
set_option linter.unusedSectionVars false
set_option maxRecDepth 100000
namespace Go.Proofs.YtcbcfdihofclkaaGreat.aj
open Go Fix
section
variable {P:Program} {ops:Array Oper} {Q:Exit->Act->World->Prop} {md:Region.Mode} {S:World->Prop} {m:Nat}
def Step(P:Program)(K:Value->World->Prop):Result Next->Prop
 | .ok (.value u) w'=>K u w'
 | .ok .skip w'=>K undef w'
 | .ok (.enter f args) w'=>Calls P f args w' λe w''=>∃u,e=.returned u/\K u w''
 | _=>False
theorem Step.mono{K K':Value->World->Prop}{r:Result Next}(h:Step P K r)(hk:∀u w,K u w->K' u w):Step P K' r:=by
 cases r with
 | ok x w' =>
   cases x<;>simp only[Step]at h ⊢
   case value=>exact hk _ _ h
   case skip=>exact hk _ _ h
   case enter=>exact h.mono λe w'' ⟨u,he,hu⟩=>⟨u,he,hk _ _ hu⟩
 | halt=>exact h.elim
theorem Step.value{K:Value->World->Prop}{r:Result Next}{u:Value}{w':World}(hr:r=.ok (.value u) w')(h:K u w'):Step P K r:=by subst hr;exact h
theorem Step.skip{K:Value->World->Prop}{r:Result Next}{w':World}(hr:r=.ok .skip w')(h:K undef w'):Step P K r:=by subst hr;exact h
theorem Step.call{K:Value->World->Prop}{r:Result Next}{f:FuncId}{args:Array Value}{w':World}{R:Ending->World->Prop}(hr:r=.ok (.enter f args) w')(hc:Calls P f args w' R)(h:∀e w'',R e w''->∃u,e=.returned u/\K u w''):Step P K r:=by
 subst hr;exact hc.mono h
def aV(P:Program)(md:Region.Mode)(ops:Array Oper)(Q:Exit->Act->World->Prop)(S:World->Prop)(m:Nat):Nat->Array Bool->Act->World->Prop
 | 0,listed,a,w=>Region.ready md ops listed=[]/\Q .normal a w
 | fuel+1,listed,a,w =>
   Region.ready md ops listed≠[] /\
   ∀i∈Region.ready md ops listed,∃o,ops[i]? = some o /\
    ((Region.wanted o (yielded ops a.tmps)=true/\Step P (λu w'=>(i<m->S w')/\aV P md ops Q S m fuel (listed.setIfInBounds i true) (a.put o.dst u) w') ((execOp a.eval o).run P w)) \/
     (Region.wanted o (yielded ops a.tmps)=false/\aV P md ops Q S m fuel (listed.setIfInBounds i true) (a.put o.dst undef) w))
theorem aV.any:∀(fuel:Nat) (listed:Array Bool) (a:Act) (w:World),aV P md ops Q S m fuel listed a w->wpAny P md ops Q fuel listed a w
 | 0,_,_,_,h=>h
 | fuel+1,listed,a,w,h=>⟨λhr=>absurd hr h.1,λi hi=>by
  obtain⟨o,ho,hcase⟩:=h.2 i hi;unfold Go.wpOp;simp only[ho];rcases hcase with⟨hw,hs⟩|⟨hw,hs⟩
  . simp only[hw,if_true]
    refine .inl ?_;unfold Oper.wp;generalize (execOp a.eval o).run P w=r at *;cases r with
    | ok x w' =>
      cases x<;>simp only[Step]at hs<;>simp only[Oper.upon]
      case value=>exact aV.any fuel _ _ _ hs.2
      case skip=>exact aV.any fuel _ _ _ hs.2
      case enter=>exact Calls.mono hs λe w'' ⟨u,he,hu⟩=>by subst he;exact aV.any fuel _ _ _ hu.2
    | halt=>exact hs.elim
  . simp only[hw,Bool.false_eq_true,if_false]
    exact aV.any fuel _ _ _ hs⟩
def Reads(P:Program)(ops:Array Oper)(S:World->Prop)(o:Oper)(v:Value)(a:Act):Prop :=
 (Region.wanted o (yielded ops a.tmps)=true/\∀w,S w->(execOp a.eval o).run P w=.ok (.value v) w)\/(Region.wanted o (yielded ops a.tmps)=false/\v=undef)
theorem Reads.of_same{o:Oper}{v:Value}{a a':Act}(hy:Reads P ops S o v a)(he:execOp a'.eval o=execOp a.eval o)
  (hw:Region.wanted o (yielded ops a'.tmps)=Region.wanted o (yielded ops a.tmps)):Reads P ops S o v a':=by
 unfold Reads at *;rw[he,hw];exact hy
theorem QJ(ht:bX md ops m=true)(hsel:∀(j:Nat) (o:Oper) cs b,ops[j]? = some o->o.op ≠ .select cs b){i:Nat}{oi:Oper}{v:Value}(him:i<m)(hi:ops[i]? = some oi)
  (fuel:Nat) (listed:Array Bool) (a:Act) (w:World) (hc:Clear md ops listed i oi) (hr:i∈Region.ready md ops listed) (hS:S w) (hy:Reads P ops S oi v a)
  (H:aV P md ops Q S m fuel (listed.setIfInBounds i true) (a.put oi.dst v) w):aV P md ops Q S m (fuel+1) listed a w:=by
 have self:∀(fuel:Nat) (listed:Array Bool) (a:Act) (w:World),S w->Reads P ops S oi v a->aV P md ops Q S m fuel (listed.setIfInBounds i true) (a.put oi.dst v) w ->
   ∃o,ops[i]? = some o/\((Region.wanted o (yielded ops a.tmps)=true/\Step P (λu w'=>(i<m->S w')/\aV P md ops Q S m fuel (listed.setIfInBounds i true) (a.put o.dst u) w') ((execOp a.eval o).run P w)) \/
    (Region.wanted o (yielded ops a.tmps)=false/\aV P md ops Q S m fuel (listed.setIfInBounds i true) (a.put o.dst undef) w)):=by
  intro fuel listed a w hS hy H;rcases hy with⟨hw,hv⟩|⟨hw,rfl⟩
  . exact⟨oi,hi,.inl ⟨hw,Step.value (hv w hS) ⟨λ_=>hS,H⟩⟩⟩
  . exact⟨oi,hi,.inr ⟨hw,H⟩⟩
 induction fuel generalizing listed a w with
 | zero =>
   refine⟨List.ne_nil_of_mem hr,λj hj => ?_⟩;rcases Nat.decEq j i with hji|rfl
   . exfalso
     have:=ready_mono hj hji;rw[H.1]at this;cases this
   . exact self 0 listed a w hS hy H
 | succ fuel ih =>
   refine⟨List.ne_nil_of_mem hr,λj hj => ?_⟩;rcases Nat.decEq j i with hji|rfl
   . obtain⟨oj,ho,hcase⟩:=H.2 j (ready_mono hj hji)
     obtain⟨a1,a2,a3⟩:=Oper.apart_spec ((hc j oj ho hji (mem_ready.1 hj).1).resolve_left (oh hr hj ho));have hjm:j<m:=by
      rcases Nat.lt_or_ge j m with h'|h'
      . exact h'
      . exact(oh hr hj ho (uS ht ho h' him)).elim
     have e1:=execOp_put oj (λcs b=>hsel j oj cs b ho) a oi.dst v a1;have e2:=wanted_put oj a oi.dst v a1;refine⟨oj,ho,?_⟩;have next:∀(u:Value) (w':World),S w'->aV P md ops Q S m fuel ((listed.setIfInBounds i true).setIfInBounds j true) ((a.put oi.dst v).put oj.dst u) w'->aV P md ops Q S m (fuel+1) (listed.setIfInBounds j true) (a.put oj.dst u) w':=by
      intro u w' hS' hn;refine ih _ _ _ (hc.set j) (ready_mono hr (Ne.symm hji)) hS' ?_ ?_
      . exact Z20
      . exact Z3d
     rcases hcase with⟨hw,hs⟩|⟨hw,hs⟩
     . refine .inl ⟨by rw[<-e2];exact hw,?_⟩
       rw[e1]at hs;exact hs.mono λu w' ⟨h1,h2⟩=>⟨h1,next u w' (h1 hjm) h2⟩
     . exact .inr ⟨by rw[<-e2];exact hw,next _ _ hS hs⟩
   . exact self (fuel+1) listed a w hS hy H
theorem mq{i:Nat}{o:Oper}(h:ops.toList[i]? = some o):ops[i]? = some o:=by rw[<-h];simp
theorem rQ{i:Nat}{oi:Oper}{v:Value}{fuel:Nat}{listed:Array Bool}{a:Act}{w:World}(hi0:ops.toList[i]? = some oi)(ht:bX md ops m=true)(hs:Region.noSelect ops=true)
  (hf:Region.free md ops listed i=true) (hr:(Region.ready md ops listed).contains i=true) (him:i<m) (hS:S w) (hy:Reads P ops S oi v a)
  (H:aV P md ops Q S m fuel (listed.setIfInBounds i true) (a.put oi.dst v) w):aV P md ops Q S m (fuel+1) listed a w :=
 QJ ht (Region.noSelect_spec hs) him (mq hi0) fuel listed a w (ow (mq hi0) hf) (by simpa using hr) hS hy H
theorem Yt{i:Nat}{o:Oper}{fuel:Nat}{listed:Array Bool}{a:Act}{w:World}(hr:Region.ready md ops listed=[i])(hi0:ops.toList[i]? = some o)(hw:Region.wanted o (yielded ops a.tmps)=true)
  (h:Step P (λu w'=>(i<m->S w')/\aV P md ops Q S m fuel (listed.setIfInBounds i true) (a.put o.dst u) w') ((execOp a.eval o).run P w)):aV P md ops Q S m (fuel+1) listed a w :=
 ⟨by rw[hr];simp,λj hj=>by rw[hr]at hj;obtain rfl:j=i:=(by simpa using hj);exact⟨o,mq hi0,.inl ⟨hw,h⟩⟩⟩
theorem Yu{i j:Nat}{o o2:Oper}{fuel:Nat}{listed:Array Bool}{a:Act}{w:World}(hr:Region.ready md ops listed=[i,j])(hi0:ops.toList[i]? = some o)(hj0:ops.toList[j]? = some o2)(hw:Region.wanted o (yielded ops a.tmps)=true)(hw2:Region.wanted o2 (yielded ops a.tmps)=true)
  (h:Step P (λu w'=>(i<m->S w')/\aV P md ops Q S m fuel (listed.setIfInBounds i true) (a.put o.dst u) w') ((execOp a.eval o).run P w))
  (h2:Step P (λu w'=>(j<m->S w')/\aV P md ops Q S m fuel (listed.setIfInBounds j true) (a.put o2.dst u) w') ((execOp a.eval o2).run P w)):aV P md ops Q S m (fuel+1) listed a w :=
 ⟨by rw[hr];simp,λk hk=>by
  rw[hr]at hk;rcases(show k=i\/k=j by simpa using hk)with rfl|rfl
  . exact⟨o,mq hi0,.inl ⟨hw,h⟩⟩
  . exact⟨o2,mq hj0,.inl ⟨hw2,h2⟩⟩⟩
theorem Yv{listed:Array Bool}{a:Act}{w:World}(hr:Region.ready md ops listed=[])(h:Q .normal a w):aV P md ops Q S m 0 listed a w:=⟨hr,h⟩
theorem qP{id:Nat}{l:List Oper}{a:Act}{w:World}(m:Nat)(hp:P.follows .mixedOrders=true)(hS:S w.drew)
  (h:S w.drew->aV P .any l.toArray Q S m l.toArray.size (Array.replicate l.toArray.size false) a w.drew):(Code.region id l.toArray true).wp P Q a w :=
 wp_region_any hp (aV.any _ _ _ _ (h hS))
theorem QK{id:Nat}{l:List Oper}{a:Act}{w:World}{n lp:Nat}(m:Nat)(hp:P.follows .mixedOrders=true)(hd:sV l=true)(ho:¬ LetsOut Q)(hS:S w.drew)
  (h:S w.drew->aV P .any l.toArray Q S m l.toArray.size (Array.replicate l.toArray.size false) a w.drew):(Code.region id l.toArray true).wpIn (Fence.wide.inRound lp) n P Q a w :=
 wpIn_region_any hp (qF hd ho _ _ _ _ (aV.any _ _ _ _ (h hS)))
theorem kg{c:Code}{a0:Act}{w0:World}{Q:Exit->Act->World->Prop}(F:Act->Act->World->Prop)(h1:c.wp P (λe a w=>e=.normal/\F a0 a w) a0 w0)(h2:∀a w,F a0 a w->Q .normal a w):c.wp P Q a0 w0 :=
 wp_mono h1 λe a w ⟨he,hf⟩=>by subst he;exact h2 a w hf
end
end Go.Proofs.YtcbcfdihofclkaaGreat.aj
namespace Go.Proofs.YtcbcfdihofclkaaGreat
open Go aj
section
variable {P:Program} {ops:Array Oper} {Q:Exit->Act->World->Prop} {md:Region.Mode} {S:World->Prop} {m:Nat}
theorem aH(i:Nat){oi:Oper}{v:Value}{fuel:Nat}{listed l':Array Bool}{a a':Act}{w:World}(H:aV P md ops Q S m fuel l' a' w)(hi0:ops.toList[i]? = some oi:=by rfl)(ht:bX md ops m=true:=by kernel_rfl)(hs:Region.noSelect ops=true:=by kernel_rfl)
 (hf:Region.free md ops listed i=true:=by kernel_rfl) (hr:(Region.ready md ops listed).contains i=true:=by kernel_rfl) (him:i<m:=by omega) (hS:S w:=by assumption) (hy:Reads P ops S oi v a:=by first|exact .inr ⟨by rfl,rfl⟩|exact .inl ⟨by rfl,by intro w2 hS;obtain⟨hc,hf⟩:=kP hS;go_simp;first|done|with_reducible rfl|exact⟨rfl,rfl⟩⟩)
 (hl:listed.setIfInBounds i true=l':=by first|(simp only[Act.put,List.setIfInBounds_toArray,List.set_cons_zero,List.set_cons_succ];rfl)|(simp only[Act.put,List.setIfInBounds_toArray,List.set_cons_zero,List.set_cons_succ];done)|rfl) (ha:a.put oi.dst v=a':=by first|(simp only[Act.put,List.setIfInBounds_toArray,List.set_cons_zero,List.set_cons_succ];rfl)|(simp only[Act.put,List.setIfInBounds_toArray,List.set_cons_zero,List.set_cons_succ];done)|rfl):aV P md ops Q S m (fuel+1) listed a w:=rQ hi0 ht hs hf hr him hS hy (hl▸ha▸H)
theorem aT(i:Nat){oi:Oper}{v:Value}{fuel:Nat}{listed l':Array Bool}{a a':Act}{w:World}(H:aV P md ops Q S m fuel l' a' w)(hi0:ops.toList[i]? = some oi:=by rfl)(ht:bX md ops m=true:=by kernel_rfl)(hs:Region.noSelect ops=true:=by kernel_rfl)
 (hf:Region.free md ops listed i=true:=by kernel_rfl) (hr:(Region.ready md ops listed).contains i=true:=by kernel_rfl) (him:i<m:=by omega) (hS:S w:=by first|assumption|exact hS0) (hy:Reads P ops S oi v a:=by first|exact .inr ⟨by rfl,rfl⟩|exact .inl ⟨by rfl,by intro w2 hS;(repeat (obtain⟨_,hS⟩:_/\_:=hS));go_simp;first|done|with_reducible rfl|exact⟨rfl,rfl⟩⟩)
 (hl:listed.setIfInBounds i true=l':=by first|(simp only[Act.put,List.setIfInBounds_toArray,List.set_cons_zero,List.set_cons_succ];rfl)|(simp only[Act.put,List.setIfInBounds_toArray,List.set_cons_zero,List.set_cons_succ];done)|rfl) (ha:a.put oi.dst v=a':=by first|(simp only[Act.put,List.setIfInBounds_toArray,List.set_cons_zero,List.set_cons_succ];rfl)|(simp only[Act.put,List.setIfInBounds_toArray,List.set_cons_zero,List.set_cons_succ];done)|rfl):aV P md ops Q S m (fuel+1) listed a w:=rQ hi0 ht hs hf hr him hS hy (hl▸ha▸H)
theorem jD(i:Nat){oi:Oper}{v:Value}{fuel:Nat}{listed l':Array Bool}{a a':Act}{w:World}(H:aV P md ops Q S m fuel l' a' w)(hi0:ops.toList[i]? = some oi:=by rfl)(ht:bX md ops m=true:=by kernel_rfl)(hs:Region.noSelect ops=true:=by kernel_rfl)
 (hf:Region.free md ops listed i=true:=by kernel_rfl) (hr:(Region.ready md ops listed).contains i=true:=by kernel_rfl) (him:i<m:=by omega) (hS:S w:=by assumption) (hy:Reads P ops S oi v a:=by first|exact .inr ⟨by rfl,rfl⟩|exact .inl ⟨by rfl,by intro w2 hS;have hc:=yw hS;go_simp;first|done|with_reducible rfl|exact⟨rfl,rfl⟩⟩)
 (hl:listed.setIfInBounds i true=l':=by first|(simp only[Act.put,List.setIfInBounds_toArray,List.set_cons_zero,List.set_cons_succ];rfl)|(simp only[Act.put,List.setIfInBounds_toArray,List.set_cons_zero,List.set_cons_succ];done)|rfl) (ha:a.put oi.dst v=a':=by first|(simp only[Act.put,List.setIfInBounds_toArray,List.set_cons_zero,List.set_cons_succ];rfl)|(simp only[Act.put,List.setIfInBounds_toArray,List.set_cons_zero,List.set_cons_succ];done)|rfl):aV P md ops Q S m (fuel+1) listed a w:=rQ hi0 ht hs hf hr him hS hy (hl▸ha▸H)
theorem SG(i:Nat){oi:Oper}{v:Value}{fuel:Nat}{listed l':Array Bool}{a a':Act}{w:World}(H:aV P md ops Q S m fuel l' a' w)(hi0:ops.toList[i]? = some oi:=by rfl)(ht:bX md ops m=true:=by kernel_rfl)(hs:Region.noSelect ops=true:=by kernel_rfl)
 (hf:Region.free md ops listed i=true:=by kernel_rfl) (hr:(Region.ready md ops listed).contains i=true:=by kernel_rfl) (him:i<m:=by omega) (hS:S w:=by assumption) (hy:Reads P ops S oi v a:=by first|exact .inr ⟨by rfl,rfl⟩|exact .inl ⟨by rfl,by intro w2 hS;have hc:=JX hS;go_simp;first|done|with_reducible rfl|exact⟨rfl,rfl⟩⟩)
 (hl:listed.setIfInBounds i true=l':=by first|(simp only[Act.put,List.setIfInBounds_toArray,List.set_cons_zero,List.set_cons_succ];rfl)|(simp only[Act.put,List.setIfInBounds_toArray,List.set_cons_zero,List.set_cons_succ];done)|rfl) (ha:a.put oi.dst v=a':=by first|(simp only[Act.put,List.setIfInBounds_toArray,List.set_cons_zero,List.set_cons_succ];rfl)|(simp only[Act.put,List.setIfInBounds_toArray,List.set_cons_zero,List.set_cons_succ];done)|rfl):aV P md ops Q S m (fuel+1) listed a w:=rQ hi0 ht hs hf hr him hS hy (hl▸ha▸H)
theorem gG(i:Nat){oi:Oper}{v:Value}{fuel:Nat}{listed l':Array Bool}{a a':Act}{w:World}(H:aV P md ops Q S m fuel l' a' w)(hi0:ops.toList[i]? = some oi:=by rfl)(ht:bX md ops m=true:=by kernel_rfl)(hs:Region.noSelect ops=true:=by kernel_rfl)
 (hf:Region.free md ops listed i=true:=by kernel_rfl) (hr:(Region.ready md ops listed).contains i=true:=by kernel_rfl) (him:i<m:=by omega) (hS:S w:=by assumption) (hy:Reads P ops S oi v a:=by first|exact .inr ⟨by rfl,rfl⟩|exact .inl ⟨by rfl,by intro w2 hS;obtain⟨hS,hSs⟩:=hS;(repeat (obtain⟨_,hSs⟩:_/\_:=hSs));(first|have hc:=yw hS|have hc:=JX hS);go_simp;first|done|with_reducible rfl|exact⟨rfl,rfl⟩⟩)
 (hl:listed.setIfInBounds i true=l':=by first|(simp only[Act.put,List.setIfInBounds_toArray,List.set_cons_zero,List.set_cons_succ];rfl)|(simp only[Act.put,List.setIfInBounds_toArray,List.set_cons_zero,List.set_cons_succ];done)|rfl) (ha:a.put oi.dst v=a':=by first|(simp only[Act.put,List.setIfInBounds_toArray,List.set_cons_zero,List.set_cons_succ];rfl)|(simp only[Act.put,List.setIfInBounds_toArray,List.set_cons_zero,List.set_cons_succ];done)|rfl):aV P md ops Q S m (fuel+1) listed a w:=rQ hi0 ht hs hf hr him hS hy (hl▸ha▸H)
theorem rD(i:Nat){oi:Oper}{v:Value}{fuel:Nat}{listed l':Array Bool}{a a':Act}{w:World}(hi0:ops.toList[i]? = some oi)(hy:Reads P ops S oi v a)(H:aV P md ops Q S m fuel l' a' w)(ht:bX md ops m=true:=by kernel_rfl)(hs:Region.noSelect ops=true:=by kernel_rfl)
 (hf:Region.free md ops listed i=true:=by kernel_rfl) (hr:(Region.ready md ops listed).contains i=true:=by kernel_rfl) (him:i<m:=by omega) (hS:S w:=by assumption)
 (hl:listed.setIfInBounds i true=l':=by first|(simp only[Act.put,List.setIfInBounds_toArray,List.set_cons_zero,List.set_cons_succ];rfl)|(simp only[Act.put,List.setIfInBounds_toArray,List.set_cons_zero,List.set_cons_succ];done)|rfl) (ha:a.put oi.dst v=a':=by first|(simp only[Act.put,List.setIfInBounds_toArray,List.set_cons_zero,List.set_cons_succ];rfl)|(simp only[Act.put,List.setIfInBounds_toArray,List.set_cons_zero,List.set_cons_succ];done)|rfl):aV P md ops Q S m (fuel+1) listed a w:=rQ hi0 ht hs hf hr him hS hy (hl▸ha▸H)
theorem tk1(i:Nat){o:Oper}{fuel:Nat}{listed:Array Bool}{a:Act}{w:World}(h:Step P (λu w'=>(i<m->S w')/\aV P md ops Q S m fuel (listed.setIfInBounds i true) (a.put o.dst u) w') ((execOp a.eval o).run P w))(hr:Region.ready md ops listed=[i]:=by kernel_rfl)(hi0:ops.toList[i]? = some o:=by rfl)(hw:Region.wanted o (yielded ops a.tmps)=true:=by rfl):aV P md ops Q S m (fuel+1) listed a w:=Yt hr hi0 hw h
theorem tk2(i j:Nat){o o2:Oper}{fuel:Nat}{listed:Array Bool}{a:Act}{w:World}(h:Step P (λu w'=>(i<m->S w')/\aV P md ops Q S m fuel (listed.setIfInBounds i true) (a.put o.dst u) w') ((execOp a.eval o).run P w))
 (h2:Step P (λu w'=>(j<m->S w')/\aV P md ops Q S m fuel (listed.setIfInBounds j true) (a.put o2.dst u) w') ((execOp a.eval o2).run P w)) (hr:Region.ready md ops listed=[i,j]:=by kernel_rfl) (hi0:ops.toList[i]? = some o:=by rfl) (hj0:ops.toList[j]? = some o2:=by rfl) (hw:Region.wanted o (yielded ops a.tmps)=true:=by rfl) (hw2:Region.wanted o2 (yielded ops a.tmps)=true:=by rfl):aV P md ops Q S m (fuel+1) listed a w:=Yu hr hi0 hj0 hw hw2 h h2
theorem jY{listed:Array Bool}{a:Act}{w:World}(h:Q .normal a w)(hr:Region.ready md ops listed=[]:=by kernel_rfl):aV P md ops Q S m 0 listed a w:=Yv hr h
theorem uF{i fuel:Nat}{o:Oper}{r:Result Next}{u:Value}{w':World}{listed l':Array Bool}{a a':Act}(h:aV P md ops Q S m fuel l' a' w')(hr:r=.ok (.value u) w':=by go_simp;first|done|with_reducible rfl|exact⟨rfl,rfl⟩)(hS:i<m->S w')(hl:listed.setIfInBounds i true=l':=by first|(simp only[Act.put,List.setIfInBounds_toArray,List.set_cons_zero,List.set_cons_succ];rfl)|(simp only[Act.put,List.setIfInBounds_toArray,List.set_cons_zero,List.set_cons_succ];done)|rfl)(ha:a.put o.dst u=a':=by first|(simp only[Act.put,List.setIfInBounds_toArray,List.set_cons_zero,List.set_cons_succ];rfl)|(simp only[Act.put,List.setIfInBounds_toArray,List.set_cons_zero,List.set_cons_succ];done)|rfl):Step P (λu w'=>(i<m->S w')/\aV P md ops Q S m fuel (listed.setIfInBounds i true) (a.put o.dst u) w') r:=Step.value hr ⟨hS,hl▸ha▸h⟩
theorem kQ{id:Nat}{l:List Oper}{a:Act}{w:World}(m:Nat)(hS:S w.drew)(h:S w.drew->aV P .any l.toArray Q S m l.toArray.size (Array.replicate l.toArray.size false) a w.drew)(hp:P.follows .mixedOrders=true:=by kernel_rfl):(Code.region id l.toArray true).wp P Q a w:=qP m hp hS h
end
end Go.Proofs.YtcbcfdihofclkaaGreat
namespace Go.Proofs.YtcbcfdihofclkaaGreat.Fix
open Go.ChangeShapes Go.WideShapes Go.ChangeAt Go.RowKit
section
variable {ops:Array Oper} {rest:List Oper} {o:Oper} {a:Act} {w w':World} {Q:Exit->Act->World->Prop}
theorem dY{P:Program}{v:Value}(hw:Region.wanted o (yielded ops a.tmps)=true)(hrun:(execOp a.eval o).run P w=.ok (.value v) w')(h:wpList P ops Q rest (a.put o.dst v) w'):wpList P ops Q (o::rest) a w:=by
 exact Z3b
theorem oD{P:Program}(hw:Region.wanted o (yielded ops a.tmps)=true)(hrun:(execOp a.eval o).run P w=.ok .skip w')(h:wpList P ops Q rest (a.put o.dst undef) w'):wpList P ops Q (o::rest) a w:=by
 exact Z3b
theorem dF(hw:Region.wanted o (yielded ops a.tmps)=true)(ho:o.op=.alloc 51)(h:wpList Tryz.prog ops Q rest (a.put o.dst (.pointer (some ⟨w.heap.size,0,none⟩))) (w.alloc (.cells (cells Re.zero) 51))):wpList Tryz.prog ops Q (o::rest) a w :=
 dY hw (by unfold execOp;simp only[ho,Sem.run_bind,z8,Result.andThen_ok,Sem.run_pure]) h
theorem fC(hw:Region.wanted o (yielded ops a.tmps)=true)(ho:o.op=.build 51 #[])(h:wpList Tryz.prog ops Q rest (a.put o.dst (.agg (cells Re.zero))) w):wpList Tryz.prog ops Q (o::rest) a w :=
 dY hw (by unfold execOp;simp only[ho,Sem.run_bind,List.map_toArray,List.map_nil,JO,Result.andThen_ok,Sem.run_pure]) h
theorem aS(hw:Region.wanted o (yielded ops a.tmps)=true)(x:Operand)(ho:o.op=.load 51 x){b:Nat}(hx:a.eval x=.pointer (some ⟨b,0,none⟩)){s:Re.St}(hs:At w b (.cells (cells s) 51))
  (h:wpList Tryz.prog ops Q rest (a.put o.dst (.agg (cells s))) w):wpList Tryz.prog ops Q (o::rest) a w :=
 dY hw (by unfold execOp;simp only[ho,hx,Sem.run_bind,CX hs,Result.andThen_ok,Sem.run_pure]) h
theorem eu(hw:Region.wanted o (yielded ops a.tmps)=true)(x y:Operand)(ho:o.op=.store 51 x y){b:Nat}(hx:a.eval x=.pointer (some ⟨b,0,none⟩)){s t:Re.St}(hy:a.eval y=.agg (cells t))(hs:At w b (.cells (cells s) 51))
  (h:wpList Tryz.prog ops Q rest (a.put o.dst undef) (w.setRow b (cells t))):wpList Tryz.prog ops Q (o::rest) a w :=
 oD hw (by unfold execOp;simp only[ho,hx,hy,Sem.run_bind,uU hs,Result.andThen_ok,Sem.run_pure]) h
theorem fD(hw:Region.wanted o (yielded ops a.tmps)=true)(x y:Operand)(ho:o.op=.store 51 x y){b:Nat}(hx:a.eval x=.pointer (some ⟨b,0,none⟩)){s:Re.St}(hy:a.eval y=.agg (cells s))(hs:At w b (.cells (cells s) 51))
  (h:wpList Tryz.prog ops Q rest (a.put o.dst undef) w):wpList Tryz.prog ops Q (o::rest) a w :=
 oD hw (by unfold execOp;simp only[ho,hx,hy,Sem.run_bind,zB hs,Result.andThen_ok,Sem.run_pure]) h
end
theorem addr_add(b off k:Nat):(⟨b,off,none⟩:Addr).add k=⟨b,off+k,none⟩:=by
 unfold Addr.add;split
 . subst k;rfl
 . rfl
theorem Ints.from_{w:World}{A:Option Addr}{l:List Int}(h:Ints w A l)(k cap:Nat)(hk:k<=l.length)(hc:l.length<=cap):Ints w (if cap=k then A else A.map (·.add (k*1))) (l.drop k):=by
 refine⟨by rw[List.length_drop];have:=h.1;omega,λh0 => ?_⟩;rw[List.length_drop]at h0;obtain⟨b,off,rfl,hcell⟩:=h.2 ak;rw[if_neg ak];refine⟨b,off+k,by simp[addr_add],λj hj => ?_⟩;rw[List.length_drop]at hj;have:=hcell (k+j) ak;rw[Nat.add_assoc,this];simp[List.getD]
theorem Ints.upto{w:World}{A:Option Addr}{l:List Int}(h:Ints w A l)(k cap:Nat)(hk:k<=l.length)(hc:l.length<=cap):Ints w (if cap=0 then A else A.map (·.add (0*1))) (l.take k):=by
 refine⟨by rw[List.length_take];have:=h.1;omega,λh0 => ?_⟩;rw[List.length_take]at h0;obtain⟨b,off,rfl,hcell⟩:=h.2 ak;rw[if_neg ak];refine⟨b,off,by simp[addr_add],λj hj => ?_⟩;rw[List.length_take]at hj;rw[hcell j ak];simp[List.getD,show j<k by omega]
theorem qQ{P:Program}{w:World}{ops:Array Oper}{rest:List Oper}{o:Oper}{a:Act}{Q:Exit->Act->World->Prop}{t:TypeId}{x:Operand}{lo hi mx:Option Operand}{v:Value}(ho:o.op=.slice t x lo hi mx)(hw:Region.wanted o (yielded ops a.tmps)=true)
  (hrun:(Instr.sliceAt t (a.eval x) (lo.map a.eval) (hi.map a.eval) (mx.map a.eval)).run P w=.ok v w) (h:wpList P ops Q rest (a.put o.dst v) w):wpList P ops Q (o::rest) a w:=by
 unfold wpList;rw[if_pos hw];refine .inl ?_;unfold Oper.wp execOp;simp only[ho,Sem.run_bind,Sem.run_pure,hrun,Result.andThen_ok];exact h
theorem qb(A:Option Addr)(n c k:Nat)(hk:k<=n)(W:World):(Instr.sliceAt 30 (.slice A n c) (some (.int .i64 (k:Int))) none none).run Tryz.prog W=.ok (.slice (if c=k then A else A.map (·.add (k*1))) (n-k) (c-k)) W:=by
 have he:Tryz.prog.elem 30=3:=by kernel_rfl
 have hu:Tryz.prog.underlying 30=some (.slice (Tryz.prog.elem 30)):=by rw[he];exact Tryz.underlying30
 obtain⟨i0,hi0,hz0,hz1,hz2⟩:=info_parts intZero;rw[run_sliceAt_slice (h:=hu),run_slice_l (ht:=hu) (h0:=by omega) (h1:=by omega),he];simp[sizeOf,typeInfo,hi0,hz1,sliced,go_sem]
theorem Dh(A:Option Addr)(n c k:Nat)(hk:k<=c)(W:World):(Instr.sliceAt 30 (.slice A n c) none (some (.int .i64 (k:Int))) none).run Tryz.prog W=.ok (.slice (if c=0 then A else A.map (·.add (0*1))) k c) W:=by
 have he:Tryz.prog.elem 30=3:=by kernel_rfl
 have hu:Tryz.prog.underlying 30=some (.slice (Tryz.prog.elem 30)):=by rw[he];exact Tryz.underlying30
 obtain⟨i0,hi0,hz0,hz1,hz2⟩:=info_parts intZero;rw[run_sliceAt_slice (h:=hu),run_slice_h (ht:=hu) (h0:=by omega) (h2:=by omega),he];simp[sizeOf,typeInfo,hi0,hz1,sliced,go_sem]
theorem Ints.mid{w:World}{A:Option Addr}{l:List Int}(h:Ints w A l)(i j cap:Nat)(hi:i<=j)(hj:j<=l.length)(hc:l.length<=cap):Ints w (if cap=i then A else A.map (·.add (i*1))) ((l.drop i).take (j-i)):=by
 have:=Ints.upto (h.from_ i cap ak hc) (j-i) (l.length-i) (by rw[List.length_drop];omega) (by rw[List.length_drop];omega);refine⟨this.1,λh0 => ?_⟩;obtain⟨b,off,e,hcell⟩:=this.2 h0;rw[List.length_take,List.length_drop]at h0;rw[if_neg ak]at e;generalize hA:(if cap=i then A else A.map (·.add (i*1)))=A1 at *;cases A1 with
 | none=>simp at e
 | some x =>
   refine⟨b,off,?_,hcell⟩;have:x.add (0*1)=x:=by unfold Addr.add;simp
   simpa[this]using e
theorem zl(n lo hi:Int)(w:World):Calls Tryz.prog 219 #[.int .i64 n,.int .i64 lo,.int .i64 hi] w λe w'=>e=.returned (.bool (Re.inn n lo hi))/\w=w':=by
 by_cases h1:lo<=n
 . have e1:decide (lo<=n)=true:=decide_eq_true h1
   by_cases h2:n<=hi
   . have e2:decide (n<=hi)=true:=decide_eq_true h2
     have wu:=Lib.hid (show Re.inn n lo hi=true by unfold Re.inn;rw[e1,e2];rfl);exact Z3r
   . have e2:decide (n<=hi)=false:=decide_eq_false h2
     have wu:=Lib.hid (show Re.inn n lo hi=false by unfold Re.inn;rw[e1,e2];rfl);exact Z3r
 . have e1:decide (lo<=n)=false:=decide_eq_false h1
   have wu:=Lib.hid (show Re.inn n lo hi=false by unfold Re.inn;rw[e1];rfl);exact Z3r
theorem dI{P:Program}{w w':World}{o:Oper}{a:Act}(s x:Operand)(t:TypeId)(ho:o.op=.call { callee:=.builtin .append,args:=#[s,x],argTypes:=#[t,t] }){v u v':Value}(hs:a.eval s=v)(hx:a.eval x=u)
  (hrun:(Builtin.append_ #[t,t] o.type #[v,u]).run P w=.ok v' w'):(execOp a.eval o).run P w=.ok (.value v') w':=by
 exact Z1x
def qR(v u:Value):Prop:=v.ownBlock=none\/u.ownBlock=none\/v.ownBlock≠u.ownBlock
theorem qR.symm{v u:Value}(h:qR v u):qR u v:=by
 rcases h with h|h|h
 . exact .inr (.inl h)
 . exact .inl h
 . exact .inr (.inr (Ne.symm h))
theorem fH{W:World}{base:Nat}{e:TypeId}{sz k:Nat}{v:Value}{xs:List Value}(h:W.ownsRow base e sz v k xs):∃A c,v=.slice A k c:=by
 rcases h.2 with⟨rfl,h0⟩|⟨g,cap,cur,rfl,_⟩
 . exact⟨none,0,by rw[h0]⟩
 . exact⟨_,_,rfl⟩
theorem jf{t e T T2:TypeId}{i0:TypeInfo}{z:Value}{sz by_:Nat}(ht:Tryz.prog.underlying t=some (.slice e))(hi:Tryz.prog.info? e=some i0)(hz0:i0.zero=some z)(hz1:i0.size=sz)(hz2:i0.bytes=by_)(hzc:z.cells.size=sz)(hsz:0<sz)(hby:by_<=100)
  {W:World} {base k m m2 sz2:Nat} {v u:Value} {xs ys news:List Value} (hu:W.ownsRow base e sz u k xs) (hv:W.ownsRow base T2 sz2 v m2 ys) (ha:qR v u) (hbase:base<=W.heap.size) (hnl:news.length=m*sz) (h1:∀x∈news,x.oneCell'=true) (hk:k+m<=1000) :
  ∃A' c' w',(Builtin.append_ #[t,t] t #[u,.slice (some ⟨W.heap.size,0,none⟩) m m]).run Tryz.prog (W.alloc (.cells news.toArray T))=.ok (.slice A' (k+m) c') w' /\
   w'.ownsRow base e sz (.slice A' (k+m) c') (k+m) (xs++news)/\w'.ownsRow base T2 sz2 v m2 ys/\qR v (.slice A' (k+m) c')/\Below base W w'/\base<=w'.heap.size:=by
 have hA:=At.new W (.cells news.toArray T)
 obtain⟨v',w',hr,ho,hg,_,hblk⟩:=run_append_own_at (P:=Tryz.prog) (w:=W.alloc (.cells news.toArray T)) base t t e i0 z sz by_ ht hi hz0 hz1 hz2 hzc hsz u k _ (hu.alloc _) ⟨W.heap.size,0,none⟩ m m news hnl
  (by intro j x hj
      have e:(⟨W.heap.size,0,none⟩:Addr).add j=⟨W.heap.size,0+j,none⟩:=Addr.add_mid _ _ _;rw[e,Nat.zero_add,hA.cell,<-hj]
      simp)
  h1 OZ (aC (Nat.mul_le_mul hk hby) aG) jH
 obtain⟨A',c',rfl⟩:=fH ho;have hvb:v.ownBlock=none\/v.ownBlock≠u.ownBlock:=by
  exact Z40
 refine⟨A',c',w',hr,ho,(hv.alloc _).kept hg hvb,?_,(Below.alloc (Below.refl base W) hbase _).grown hg jH (λj ej=>(hu.lt j ej).1),?_⟩
 . exact Z39
 . have:=hg.size
   simp at this;omega
theorem yx{W:World}{base sz n:Nat}{xs:List Value}{e:TypeId}(hb:base<=W.heap.size)(hl:xs.length=n*sz)(hn:n<=1000):(W.alloc (.cells xs.toArray e)).ownsRow base e sz (.slice (some ⟨W.heap.size,0,none⟩) n n) n xs:=by
 refine⟨hl,.inr ⟨W.heap.size,n,xs.toArray,rfl,hb,At.new W _,ah _,by unfold maxLen;omega,by simpa using hl,?_⟩⟩;simp[<-hl]
theorem QL{W:World}{base sz n g:Nat}{xs:List Value}{e:TypeId}(hg:g=W.heap.size)(hb:base<=W.heap.size)(hl:xs.length=n*sz)(hn:n<=1000):(W.alloc (.cells xs.toArray e)).ownsRow base e sz (.slice (some ⟨g,0,none⟩) n n) n xs:=by
 subst hg;exact yx hb hl hn
theorem zD{W:World}{base sz n c:Nat}{A:Option Addr}{xs:List Value}{e:TypeId}(h:W.ownsRow base e sz (.slice A n c) n xs)(h0:0<n):∃g,A=some ⟨g,0,none⟩/\base<=g/\g<W.heap.size/\∀(j:Nat) (v:Value),xs[j]? = some v->W.cell? ⟨g,j,none⟩=some v:=by
 rcases h.2 with⟨e1,h1⟩|⟨g,cap,cur,e1,hb,hg,_,_,_,hx⟩
 . omega
 . injection e1 with e1
   refine⟨g,e1,hb,(Array.getElem?_eq_some_iff.1 hg).1,λj v hj => ?_⟩;rw[cell_of_row W g j cur e (0,0) hg];rw[<-hx,List.getElem?_take]at hj;split at hj
   . simpa using hj
   . cases hj
end Go.Proofs.YtcbcfdihofclkaaGreat.Fix
