/- Proved here: what functions of the program do, in plain numbers (part 9); no conditions but those in sight. -/
import Derived.Test.YtcbcfdihofclkaaGreatQK
import Derived.Test.YtcbcfdihofclkaaGreatQ06
set_option linter.unusedVariables false
set_option linter.unusedSimpArgs false
set_option linter.unusedSectionVars false
set_option maxRecDepth 100000
namespace Go.Proofs.YtcbcfdihofclkaaGreat.aj
open Go Fix
section
variable {P:Program} {ops:Array Oper} {Q:Exit->Act->World->Prop} {md:Region.Mode} {S:World->Prop} {N:Value->World->Prop} {s m t:Nat} {so:Oper} {tail:List Oper}
def marks(md:Region.Mode)(k:Nat):List Bool->List Oper->List Bool
 | pre,[]=>pre
 | pre,o::os=>marks md k (pre++[pre.length==k||o.after.any λe=>Region.binds md e&&pre.getD e.on false]) os
def vg(md:Region.Mode)(ops:Array Oper)(m:Nat):Bool :=
 (List.range ops.size).all λj=>decide (j<m)||(List.range m).all λk=>(match ops[j]? with
  | some o=>o.after.any λe=>Region.binds md e&&e.on==k
  | none=>true)||(marks md k [] ops.toList).getD j false
def Closed(md:Region.Mode)(ops:Array Oper)(listed:Array Bool):Prop:=∀k o,ops[k]? = some o->listed.getD k true=true->∀e∈o.after,Region.binds md e=true->listed.getD e.on false=true
theorem Closed.start(n:Nat)(h:ops.size=n):Closed md ops (Array.replicate n false):=λk o ho hk=>by
 have hlt:=(Array.getElem?_eq_some_iff.1 ho).1;have:k<n:=by omega
 simp[this]at hk
theorem Closed.set{listed:Array Bool}(h:Closed md ops listed){j:Nat}(hj:j∈Region.ready md ops listed):Closed md ops (listed.setIfInBounds j true):=λk o ho hk e he hb=>by
 obtain⟨hun,oj,hoj,hall⟩:=mem_ready.1 hj;have old:listed.getD e.on false=true:=by
  by_cases hkj:k=j
  . subst hkj
    obtain rfl:oj=o:=Option.some.inj (hoj.symm.trans ho);exact hall e he hb
  . rw[getD_set_ne true (Ne.symm hkj)]at hk
    exact h k o ho hk e he hb
 by_cases e1:e.on=j
 . have hlt:j<listed.size:=by
    rcases Nat.lt_or_ge j listed.size with h'|h'
    . exact h'
    . rw[e1]at old;simp[Array.getElem?_eq_none h']at old
   rw[e1];simp[hlt]
 . have:(listed.setIfInBounds j true).getD e.on false=listed.getD e.on false:=by
    simp only[Array.getD_eq_getD_getElem?,Array.getElem?_setIfInBounds,if_neg (Ne.symm e1)]
   rw[this];exact old
theorem Di(k:Nat):∀(os:List Oper) (pre:List Bool) (all:List Oper),all.drop pre.length=os ->
  (∀i,pre.getD i false=true->i=k\/∃o e,all[i]? = some o/\e∈o.after/\Region.binds md e=true/\e.on<i/\(marks md k pre os).getD e.on false=true) ->
  (∃suf,marks md k pre os=pre++suf)/\∀i,(marks md k pre os).getD i false=true->i=k\/∃o e,all[i]? = some o/\e∈o.after/\Region.binds md e=true/\e.on<i/\(marks md k pre os).getD e.on false=true
 | [],pre,all,hd,h=>⟨⟨[],by simp[marks]⟩,h⟩
 | o::os,pre,all,hd,h=>by
  have hlt:pre.length<all.length:=by
   rcases Nat.lt_or_ge pre.length all.length with h'|h'
   . exact h'
   . rw[List.drop_eq_nil_of_le h']at hd;cases hd
  rw[List.drop_eq_getElem_cons hlt]at hd;have ho:all[pre.length]? = some o:=by rw[List.getElem?_eq_getElem hlt,(List.cons.inj hd).1]
  have hd':=(List.cons.inj hd).2;have key:∃suf,marks md k pre (o::os)=(pre++[pre.length==k||o.after.any λe=>Region.binds md e&&pre.getD e.on false])++suf:=by
   have:∀(os:List Oper) (p:List Bool),∃suf,marks md k p os=p++suf:=by
    intro os
    induction os with
    | nil=>intro p;exact⟨[],by simp[marks]⟩
    | cons o os ih=>intro p;obtain⟨suf,hs⟩:=ih (p++[p.length==k||o.after.any λe=>Region.binds md e&&p.getD e.on false]);exact⟨_::suf,by rw[marks,hs,List.append_assoc];rfl⟩
   exact this os _
  obtain⟨suf,adE⟩:=key
  have ih:=Di k os (pre++[pre.length==k||o.after.any λe=>Region.binds md e&&pre.getD e.on false]) all (by simpa using hd') (λi hi=>by
   have e0:marks md k (pre++[pre.length==k||o.after.any λe=>Region.binds md e&&pre.getD e.on false]) os=marks md k pre (o::os):=rfl;rw[e0];rcases Nat.lt_trichotomy i pre.length with hl|hl|hl
   . refine h i ?_
     simpa[List.getD_eq_getElem?_getD,List.getElem?_append_left hl]using hi
   . subst hl
     simp only[List.getD_eq_getElem?_getD,List.getElem?_append_right (ah _),Nat.sub_self,List.getElem?_cons_zero,Option.getD_some,Bool.or_eq_true,beq_iff_eq]at hi;rcases hi with hi|hi
     . exact .inl hi
     . obtain⟨e,he,hb⟩:=Array.any_eq_true'.1 hi
       simp only[Bool.and_eq_true]at hb;have hon:e.on<pre.length:=by
        rcases Nat.lt_or_ge e.on pre.length with h'|h'
        . exact h'
        . have:=hb.2;simp[List.getElem?_eq_none h']at this
       refine .inr ⟨o,e,ho,he,hb.1,hon,?_⟩;rw[adE,List.append_assoc,List.getD_eq_getElem?_getD,List.getElem?_append_left hon];simpa[List.getD_eq_getElem?_getD]using hb.2
   . exfalso
     rw[List.getD_eq_getElem?_getD,List.getElem?_eq_none jH]at hi
     simp at hi)
  exact⟨⟨_,by rw[adE,List.append_assoc]⟩,ih.2⟩
theorem marked{k:Nat}{listed:Array Bool}(hcl:Closed md ops listed)(hk:listed.getD k true=false):∀i,(marks md k [] ops.toList).getD i false=true->listed.getD i true=false/\(i≠k->i ∉ Region.ready md ops listed):=by
 intro i
 induction i using Nat.strongRecOn with
 | _ i ih =>
   intro hm;rcases(Di (md:=md) k ops.toList [] ops.toList eY (λi hi=>by simp at hi)).2 i hm with rfl|⟨o,e,ho,he,hb,hlt,hme⟩
   . exact⟨hk,λh=>absurd rfl h⟩
   . have hu:=(ih e.on hlt hme).1
     have ho':ops[i]? = some o:=by rw[<-ho];simp
     refine⟨?_,λ_ hr => ?_⟩
     . rcases hc:listed.getD i true with _ | _
       . rfl
       . exact(pY hu (hcl i o ho' hc e he hb)).elim
     . obtain⟨_,o2,ho2,hall⟩:=mem_ready.1 hr
       obtain rfl:o=o2:=Option.some.inj (ho'.symm.trans ho2);exact pY hu (hall e he hb)
theorem FL{m:Nat}(ht:vg md ops m=true){listed:Array Bool}(hcl:Closed md ops listed){i j:Nat}{oj:Oper}(hi:i∈Region.ready md ops listed)(hj:j∈Region.ready md ops listed)(ho:ops[j]? = some oj)(hjm:m<=j)(him:i<m)(hne:i≠j):False:=by
 unfold vg at ht;rw[List.all_eq_true]at ht;have h1:=ht j (List.mem_range.2 (Array.getElem?_eq_some_iff.1 ho).1);have hd:decide (j<m)=false:=by simpa using hjm
 rw[hd,Bool.false_or,List.all_eq_true]at h1;have h2:=h1 i (List.mem_range.2 him);simp only[ho,Bool.or_eq_true]at h2;rcases h2 with h2|h2
 . obtain⟨e,he,hb⟩:=Array.any_eq_true'.1 h2
   simp only[Bool.and_eq_true,beq_iff_eq]at hb;exact oh hi hj ho ⟨e,he,hb.1,hb.2⟩
 . exact(marked hcl (mem_ready.1 hi).1 j h2).2 (Ne.symm hne) hj
theorem M8{m:Nat}{B:Array Bool->Act->Prop}(ht:vg md ops m=true){i:Nat}{oi:Oper}{v:Value}(him:i<m)(hi:ops[i]? = some oi)(hsel:∀(j:Nat) (o:Oper) cs b,ops[j]? = some o->o.op ≠ .select cs b)
  (fuel:Nat) (listed:Array Bool) (a:Act) (hcl:Closed md ops listed) (hc:Clear md ops listed i oi) (hr:i∈Region.ready md ops listed) (hy:Xr P ops S oi v a)
  (H:kV P md ops S m B fuel (listed.setIfInBounds i true) (a.put oi.dst v)):kV P md ops S m B (fuel+1) listed a:=by
 induction fuel generalizing listed a with
 | zero =>
   refine⟨List.ne_nil_of_mem hr,λj hj => ?_⟩;rcases Nat.decEq j i with hji|rfl
   . exact Z35
   . exact⟨oi,v,hi,hy,H⟩
 | succ fuel ih =>
   refine⟨List.ne_nil_of_mem hr,λj hj => ?_⟩;rcases Nat.decEq j i with hji|rfl
   . obtain⟨oj,u,ho,hyj,hn⟩:=H.2 j (ready_mono hj hji)
     obtain⟨a1,a2,a3⟩:=Oper.apart_spec ((hc j oj ho hji (mem_ready.1 hj).1).resolve_left (oh hr hj ho));refine⟨oj,u,ho,hyj.of_same (execOp_put oj (λcs b=>hsel j oj cs b ho) a oi.dst v a1).symm (wanted_put oj a oi.dst v a1).symm,ih _ _ (hcl.set hj) (hc.set j) (ready_mono hr (Ne.symm hji)) ?_ ?_⟩
     . exact Z20
     . exact Z3d
   . exact⟨oi,v,hi,hy,H⟩
theorem JY{m t:Nat}(hs:Region.noSelect ops=true)(ht:vg md ops m=true)(hm:ops.toList.length=m+t):∀(k:Nat) (os:List Oper) (i:Nat) (listed:Array Bool) (a:Act),ops.toList.drop i=os->i+k=m->Closed md ops listed ->
  (∀q,q<i->listed.getD q true=true)->kU md ops t k i listed=true ->
  dW P ops Q S k os a->kV P md ops S m (λlisted a=>∀w,S w->wpAny P md ops Q t listed a w) k listed a
 | 0,os,i,listed,a,hd,hi,hcl,hl,hk,h=>by
  exact Z2t
 | k+1,[],i,listed,a,_,_,_,_,_,h=>h.elim
 | k+1,o::os,i,listed,a,hd,hi,hcl,hl,hk,⟨v,hy,hn⟩=>by
  simp only[kU,Bool.and_eq_true]at hk;obtain⟨⟨hf,hr⟩,hk⟩:=hk;obtain⟨ho,hd'⟩:=drop_cons hd;refine M8 ht ak ho (Region.noSelect_spec hs) k listed a hcl (ow ho hf) (by simpa using hr) hy ?_;refine JY hs ht hm k os (i+1) _ _ hd' ak (hcl.set (by simpa using hr)) ?_ hk hn;exact Z28
theorem Bh{id:Nat}{l:List Oper}{a:Act}{w:World}(m t:Nat)(S:World->Prop)(hp:P.follows .mixedOrders=true)(hs:Region.noSelect l.toArray=true)
  (hl:l.length=m+t) (ht:vg .any l.toArray m=true) (hk:kU .any l.toArray t m 0 (Array.replicate l.length false)=true) (hS:S w.drew) (h:dW P l.toArray Q S m l a):(Code.region id l.toArray true).wp P Q a w :=
 wp_region_any hp (by
  have h1:=kV.any (Q:=Q) (tf:=t) m (Array.replicate l.length false) a (JY (md:=.any) (Q:=Q) (m:=m) (t:=t) hs ht (by simpa using hl) m l 0 (Array.replicate l.length false) a eY ak (Closed.start _ eY) (λq hq=>by omega) hk h) _ hS;have e:l.toArray.size=t+m:=by simp;omega
  rw[e];have e2:Array.replicate (t+m) false=Array.replicate l.length false:=by rw[hl,Nat.add_comm]
  rw[e2];exact h1)
theorem Bj{id:Nat}{l:List Oper}{a:Act}{W0 w:World}(m t:Nat)(h0:RowKit.Below W0.heap.size W0 w)(hp:P.follows .mixedOrders=true)(hs:Region.noSelect l.toArray=true)
  (hl:l.length=m+t) (ht:vg .any l.toArray m=true) (hk:kU .any l.toArray t m 0 (Array.replicate l.length false)=true) (h:dW P l.toArray Q (λw'=>RowKit.Below W0.heap.size W0 w') m l a):(Code.region id l.toArray true).wp P Q a w :=
 Bh m t _ hp hs hl ht hk h0.drew h
theorem JZ{B:Value->Array Bool->Act->Prop}(ht:vg md ops m=true){i:Nat}{oi:Oper}{v:Value}(him:i<m)(his:i≠s)(hi:ops[i]? = some oi)(hsel:∀(j:Nat) (o:Oper) cs b,ops[j]? = some o->o.op ≠ .select cs b)
  (fuel:Nat) (listed:Array Bool) (a:Act) (g:Option Value) (hcl:Closed md ops listed) (hc:Clear md ops listed i oi) (hr:i∈Region.ready md ops listed) (hy:H8 P ops S oi v a)
  (H:oz P md ops S s m B fuel (listed.setIfInBounds i true) (a.put oi.dst v) g):oz P md ops S s m B (fuel+1) listed a g:=by
 induction fuel generalizing listed a g with
 | zero =>
   refine⟨List.ne_nil_of_mem hr,λj hj => ?_⟩;rcases Nat.decEq j i with hji|rfl
   . exact Z35
   . exact⟨oi,hi,.inl ⟨his,v,hy,H⟩⟩
 | succ fuel ih =>
   refine⟨List.ne_nil_of_mem hr,λj hj => ?_⟩;rcases Nat.decEq j i with hji|rfl
   . obtain⟨oj,ho,hcase⟩:=H.2 j (ready_mono hj hji)
     obtain⟨a1,a2,a3⟩:=Oper.apart_spec ((hc j oj ho hji (mem_ready.1 hj).1).resolve_left (oh hr hj ho));rcases hcase with⟨hjs,u,hyj,hn⟩|⟨hjs,hg,hn⟩
     . refine⟨oj,ho,.inl ⟨hjs,u,hyj.of_same (execOp_put oj (λcs b=>hsel j oj cs b ho) a oi.dst v a1).symm (wanted_put oj a oi.dst v a1).symm,ih _ _ _ (hcl.set hj) (hc.set j) (ready_mono hr (Ne.symm hji)) ?_ ?_⟩⟩
       . exact Z20
       . exact Z3d
     . refine⟨oj,ho,.inr ⟨hjs,hg,λu=>ih _ _ _ (hcl.set hj) (hc.set j) (ready_mono hr (Ne.symm hji)) ?_ ?_⟩⟩
       . exact Z20
       . rw[Array.setIfInBounds_comm _ _ hji,<-Act.put_comm a v u a2];exact hn u
   . exact⟨oi,hi,.inl ⟨his,v,hy,H⟩⟩
theorem F8(hs:Region.noSelect ops=true)(ht:vg md ops m=true)(hso:ops[s]? = some so)(hsm:s<m)(htail:ops.toList.drop m=tail)(htl:tail.length=t) :
  ∀(os:List Oper) (L:List Nat) (listed:Array Bool) (a:Act),L.map (λi=>ops[i]?)=os.map some->Closed md ops listed->(∀q,q<m->q ∉ L->q≠s->listed.getD q true=true)->F7 md ops s m t L listed=true ->
  iF P ops Q S N so tail os a->oz P md ops S s m (λv listed a=>∀w,N v w->wpAny P md ops Q t listed a w) (L.length+1) listed a none
 | [],[],listed,a,_,hcl,hl,hk,h=>by
  simp only[F7,Bool.and_eq_true,List.contains_iff_mem]at hk;obtain⟨hr,hf⟩:=hk;refine⟨List.ne_nil_of_mem hr,λi hi => ?_⟩;by_cases his:i=s
  . subst his
    refine⟨so,hso,.inr ⟨rfl,rfl,λv=>⟨λq hq=>Da (λ_=>JV hr) (λhne=>hl q hq eY hne),v,rfl,λw hN => ?_⟩⟩⟩;have:=uM (P:=P) (Q:=Q) tail m (listed.setIfInBounds i true) (a.put so.dst v) w htail (by rw[htl];exact hf) (h v w hN);rw[htl]at this;exact this
  . exfalso
    obtain⟨hun,oi,ho,_⟩:=mem_ready.1 hi;by_cases him:i<m
    . have:=hl i him eY his
      rw[hun]at this;cases this
    . exact FL ht hcl hr hi ho ak hsm (Ne.symm his)
 | [],i::r,_,_,hL,_,_,_,_=>by simp at hL
 | o::os,[],_,_,hL,_,_,_,_=>by simp at hL
 | o::os,i::r,listed,a,hL,hcl,hl,hk,⟨v,hy,hn⟩=>by
  simp only[List.map_cons,List.cons.injEq]at hL;obtain⟨ho,hL⟩:=hL;simp only[F7,Bool.and_eq_true,Bool.not_eq_true',beq_eq_false_iff_ne,decide_eq_true_eq,List.contains_iff_mem]at hk;obtain⟨⟨⟨⟨hf,hr⟩,him⟩,his⟩,hk⟩:=hk;refine JZ ht him his ho (Region.noSelect_spec hs) _ listed a none hcl (ow ho hf) hr hy ?_;refine F8 hs ht hso hsm htail htl os r _ _ hL (hcl.set hr) ?_ hk hn;intro q hq hqr hqs;exact Da (λ_=>JV hr) (λhne=>hl q hq (by simp[hne,hqr]) hqs)
theorem zF{id:Nat}{l:List Oper}{a:Act}{W0 w:World}{x:Obj}{norm:List Oper}(L:List Nat)(s m:Nat)(h0:RowKit.Below W0.heap.size W0 w)(hp:P.follows .mixedOrders=true)(hs:Region.noSelect l.toArray=true)
  (hso:l.toArray[s]? = some so) (htl:l.drop m=tail) (hL:L.map (λi=>l.toArray[i]?)=norm.map some) (hn:l.length=tail.length+(L.length+1))
  (hq:((List.range m).all λq=>L.contains q||q==s)&&decide (s<m)=true) (ht:vg .any l.toArray m=true)
  (hk:F7 .any l.toArray s m tail.length L (Array.replicate l.length false)=true)
  (hsp:∀(a:Act) (w:World),RowKit.Below W0.heap.size W0 w->Region.wanted so (yielded l.toArray a.tmps)=true/\(execOp a.eval so).run P w=.ok (.value (.pointer (some ⟨w.heap.size,0,none⟩))) (w.alloc x))
  (h:iF P l.toArray Q (λw'=>RowKit.Below W0.heap.size W0 w') (Made W0 x) so tail norm a):(Code.region id l.toArray true).wp P Q a w:=by
 refine wp_region_any hp ?_;simp only[Bool.and_eq_true,List.all_eq_true,List.mem_range,Bool.or_eq_true,List.contains_iff_mem,beq_iff_eq,decide_eq_true_eq]at hq
 have hspec:Special P l.toArray (λw'=>RowKit.Below W0.heap.size W0 w') (Made W0 x) so:=λa w hb=>by
  obtain⟨hw,hr⟩:=hsp a w hb;exact⟨hw,_,_,hr,w.heap.size,rfl,hb.size,At.new _ _,Below.alloc' hb _⟩
 have h1:=oz.any (Q:=Q) (tf:=tail.length) hso hspec (H9 W0) (JW W0 x) (λv w ⟨_,_,_,_,hb⟩=>hb) (L.length+1) (Array.replicate l.length false) a none
  (F8 (md:=.any) (Q:=Q) hs ht hso hq.2 (by simpa using htl) rfl norm L (Array.replicate l.length false) a hL (Closed.start _ eY) (λq hqm hqL hqs=>by
   rcases hq.1 q hqm with h'|h'
   . exact absurd h' hqL
   . exact absurd h' hqs) hk h) w.drew h0.drew
 have e:l.toArray.size=tail.length+(L.length+1):=by simpa using hn
 have e2:Array.replicate (tail.length+(L.length+1)) false=Array.replicate l.length false:=by rw[hn]
 rw[e,e2];exact h1
end
end Go.Proofs.YtcbcfdihofclkaaGreat.aj
namespace Go.Proofs.YtcbcfdihofclkaaGreat
open Go aj
section
variable {P:Program} {ops:Array Oper} {Q:Exit->Act->World->Prop} {md:Region.Mode} {S:World->Prop} {N:Value->World->Prop} {so:Oper} {tail:List Oper}
theorem wT{id:Nat}{l:List Oper}{a:Act}{W0 w:World}(m t:Nat)(h:dW P l.toArray Q (λw'=>RowKit.Below W0.heap.size W0 w') m l a)(h0:RowKit.Below W0.heap.size W0 w:=by exact RowKit.Below.refl _ _)(hp:P.follows .mixedOrders=true:=by kernel_rfl)(hs:Region.noSelect l.toArray=true:=by kernel_rfl)
 (hl:l.length=m+t:=by rfl) (ht:vg .any l.toArray m=true:=by kernel_rfl) (hk:kU .any l.toArray t m 0 (Array.replicate l.length false)=true:=by kernel_rfl):(Code.region id l.toArray true).wp P Q a w:=Bj m t h0 hp hs hl ht hk h
theorem Mx{id:Nat}{l:List Oper}{a:Act}{W0 w:World}{x:Obj}{norm:List Oper}(L:List Nat)(s m:Nat)
 (h:iF P l.toArray Q (λw'=>RowKit.Below W0.heap.size W0 w') (Made W0 x) so tail norm a) (h0:RowKit.Below W0.heap.size W0 w:=by exact RowKit.Below.refl _ _) (hp:P.follows .mixedOrders=true:=by kernel_rfl) (hs:Region.noSelect l.toArray=true:=by kernel_rfl)
 (hso:l.toArray[s]? = some so:=by rfl) (htl:l.drop m=tail:=by rfl) (hL:L.map (λi=>l.toArray[i]?)=norm.map some:=by rfl) (hn:l.length=tail.length+(L.length+1):=by rfl)
 (hq:((List.range m).all λq=>L.contains q||q==s)&&decide (s<m)=true:=by kernel_rfl) (ht:vg .any l.toArray m=true:=by kernel_rfl)
 (hk:F7 .any l.toArray s m tail.length L (Array.replicate l.length false)=true:=by kernel_rfl)
 (hsp:∀(a:Act) (w:World),RowKit.Below W0.heap.size W0 w->Region.wanted so (yielded l.toArray a.tmps)=true/\(execOp a.eval so).run P w=.ok (.value (.pointer (some ⟨w.heap.size,0,none⟩))) (w.alloc x):=by intro a w2 hS;refine⟨rfl,?_⟩;go_simp;first|done|with_reducible rfl|exact⟨rfl,rfl⟩):(Code.region id l.toArray true).wp P Q a w:=zF L s m h0 hp hs hso htl hL hn hq ht hk hsp h
end
end Go.Proofs.YtcbcfdihofclkaaGreat
