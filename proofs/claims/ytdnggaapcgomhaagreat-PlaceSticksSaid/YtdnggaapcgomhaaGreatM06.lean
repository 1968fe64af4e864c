/- Steps of the program (6); no conditions. -/
import Derived.Test.YtdnggaapcgomhaaGreatM05
set_option linter.all false
set_option maxRecDepth 100000
set_option maxHeartbeats 16000000
namespace Go.Proofs.YtdnggaapcgomhaaGreat.aj
open Go Fix
open List renaming getElem?_eq_getElem → ja6,ne_nil_of_mem → jb0,getD_eq_getElem?_getD → jb8,range → jb',all_eq_true → jc0,contains_iff_mem → jc6
variable {listed:Array Bool}{l:List Oper}
section
variable {P:Program} {ops:Array Oper} {Q:Exit->Act->World->Prop} {md:Region.Mode} {S:World->Prop} {N:Value->World->Prop} {s m t:Nat} {so:Oper} {tail:List Oper}
def marks(md:Region.Mode)(k:Nat):List Bool->List Oper->List Bool
 | pre,[]=>pre
 | pre,o::os=>marks md k (pre++[pre.length==k||o.after.any λe=>Region.binds md e&&pre.getD e.on false]) os
def vI(md:Region.Mode)(ops:Array Oper)(m:Nat):Bool :=
 (jb' ops.size).all λj=>decide (j<m)||(jb' m).all λk=>(match ops[j]? with
  | some o=>o.after.any λe=>Region.binds md e&&e.on==k
  | none=>true)||(marks md k [] ops.toList).getD j false
def Closed(md:Region.Mode)(ops:Array Oper)(listed:Array Bool):Prop:=∀k o,ops[k]? = some o->listed.getD k true=true->∀e∈o.after,Region.binds md e=true->listed.getD e.on false=true
theorem Closed.start(n:Nat)(h:ops.size=n):Closed md ops (Array.replicate n false):=λk o ho hk=>by
 have hlt:=(Array.getElem?_eq_some_iff.1 ho).1;have:k<n:=by omega
 simp[this]at hk
theorem Closed.set(h:Closed md ops listed){j:Nat}(hj:j∈Region.ready md ops listed):Closed md ops (listed.setIfInBounds j true):=λk o ho hk e he hb=>by
 obtain⟨hun,oj,hoj,hall⟩:=mem_ready.1 hj;have old:listed.getD e.on false=true:=by
  by_cases hkj:k=j
  . subst hkj
    obtain rfl:oj=o:=Option.some.inj (hoj.symm.trans ho);exact hall e he hb
  . rw[getD_set_ne true (Ne.symm hkj)]at hk
    exact h k o ho hk e he hb
 by_cases e1:e.on=j
 . have hlt:j<listed.size:=by
    rcases Nat.lt_or_ge j listed.size with h'|h'
    . exact h'
    . rw[e1]at old;simp[Array.getElem?_eq_none h']at old
   rw[e1];simp[hlt]
 . have:(listed.setIfInBounds j true).getD e.on false=listed.getD e.on false:=by
    simp only[Array.getD_eq_getD_getElem?,Array.getElem?_setIfInBounds,if_neg (Ne.symm e1)]
   rw[this];exact old
theorem Ed(k:Nat):∀(os:List Oper) (pre:List Bool) (all:List Oper),all.drop pre.length=os ->
  (∀i,pre.getD i false=true->i=k\/∃o e,all[i]? = some o/\e∈o.after/\Region.binds md e=true/\e.on<i/\(marks md k pre os).getD e.on false=true) ->
  (∃suf,marks md k pre os=pre++suf)/\∀i,(marks md k pre os).getD i false=true->i=k\/∃o e,all[i]? = some o/\e∈o.after/\Region.binds md e=true/\e.on<i/\(marks md k pre os).getD e.on false=true
 | [],pre,all,hd,h=>⟨⟨[],by simp[marks]⟩,h⟩
 | o::os,pre,all,hd,h=>by
  have hlt:pre.length<all.length:=by
   rcases Nat.lt_or_ge pre.length all.length with h'|h'
   . exact h'
   . rw[List.drop_eq_nil_of_le h']at hd;cases hd
  rw[List.drop_eq_getElem_cons hlt]at hd;have ho:all[pre.length]? = some o:=by rw[ja6 hlt,(List.cons.inj hd).1]
  have hd':=(List.cons.inj hd).2;have key:∃suf,marks md k pre (o::os)=(pre++[pre.length==k||o.after.any λe=>Region.binds md e&&pre.getD e.on false])++suf:=by
   have:∀(os:List Oper) (p:List Bool),∃suf,marks md k p os=p++suf:=by
    intro os
    induction os with
    | nil=>intro p;exact⟨[],by simp[marks]⟩
    | cons o os ih=>intro p;obtain⟨suf,hs⟩:=ih (p++[p.length==k||o.after.any λe=>Region.binds md e&&p.getD e.on false]);exact⟨_::suf,by rw[marks,hs,List.append_assoc];rfl⟩
   exact this os _
  obtain⟨suf,af4⟩:=key
  have ih:=Ed k os (pre++[pre.length==k||o.after.any λe=>Region.binds md e&&pre.getD e.on false]) all (by simpa using hd') (λi hi=>by
   have e0:marks md k (pre++[pre.length==k||o.after.any λe=>Region.binds md e&&pre.getD e.on false]) os=marks md k pre (o::os):=rfl;rw[e0];rcases Nat.lt_trichotomy i pre.length with hl|hl|hl
   . refine h i ?_
     simpa[jb8,List.getElem?_append_left hl]using hi
   . subst hl
     simp only[jb8,List.getElem?_append_right aC,Nat.sub_self,List.getElem?_cons_zero,Option.getD_some,Bool.or_eq_true,beq_iff_eq]at hi;rcases hi with hi|hi
     . exact .inl hi
     . obtain⟨e,he,hb⟩:=Array.any_eq_true'.1 hi
       simp only[Bool.and_eq_true]at hb;have hon:e.on<pre.length:=by
        rcases Nat.lt_or_ge e.on pre.length with h'|h'
        . exact h'
        . have:=hb.2;simp[List.getElem?_eq_none h']at this
       refine .inr ⟨o,e,ho,he,hb.1,hon,?_⟩;rw[af4,List.append_assoc,jb8,List.getElem?_append_left hon];simpa[jb8]using hb.2
   . exfalso
     rw[jb8,List.getElem?_eq_none iJ]at hi
     simp at hi)
  exact⟨⟨_,by rw[af4,List.append_assoc]⟩,ih.2⟩
theorem marked{k:Nat}(hcl:Closed md ops listed)(hk:listed.getD k true=false):∀i,(marks md k [] ops.toList).getD i false=true->listed.getD i true=false/\(i≠k->i ∉ Region.ready md ops listed):=by
 intro i
 induction i using Nat.strongRecOn with
 | _ i ih =>
   intro hm;rcases(Ed (md:=md) k ops.toList [] ops.toList aW (λi hi=>by simp at hi)).2 i hm with rfl|⟨o,e,ho,he,hb,hlt,hme⟩
   . exact⟨hk,λh=>absurd rfl h⟩
   . have hu:=(ih e.on hlt hme).1
     have ho':ops[i]? = some o:=by rw[<-ho];simp
     refine⟨?_,λ_ hr => ?_⟩
     . rcases hc:listed.getD i true with _ | _
       . rfl
       . exact(oU hu (hcl i o ho' hc e he hb)).elim
     . obtain⟨_,o2,ho2,hall⟩:=mem_ready.1 hr
       obtain rfl:o=o2:=Option.some.inj (ho'.symm.trans ho2);exact oU hu (hall e he hb)
theorem GK{m:Nat}(ht:vI md ops m=true)(hcl:Closed md ops listed){i j:Nat}{oj:Oper}(hi:i∈Region.ready md ops listed)(hj:j∈Region.ready md ops listed)(ho:ops[j]? = some oj)(hjm:m<=j)(him:i<m)(hne:i≠j):False:=by
 unfold vI at ht;rw[jc0]at ht;have h1:=ht j (List.mem_range.2 (Array.getElem?_eq_some_iff.1 ho).1);have hd:decide (j<m)=false:=by simpa using hjm
 rw[hd,Bool.false_or,jc0]at h1;have h2:=h1 i (List.mem_range.2 him);simp only[ho,Bool.or_eq_true]at h2;rcases h2 with h2|h2
 . obtain⟨e,he,hb⟩:=Array.any_eq_true'.1 h2
   simp only[Bool.and_eq_true,beq_iff_eq]at hb;exact jF hi hj ho ⟨e,he,hb.1,hb.2⟩
 . exact(marked hcl (mem_ready.1 hi).1 j h2).2 (Ne.symm hne) hj
theorem PD{m:Nat}{B:Array Bool->Act->Prop}(ht:vI md ops m=true){i:Nat}{oi:Oper}{v:Value}(him:i<m)(hi:ops[i]? = some oi)(hsel:∀(j:Nat) (o:Oper) cs b,ops[j]? = some o->o.op ≠ .select cs b)
  (fuel:Nat) (listed:Array Bool) (a:Act) (hcl:Closed md ops listed) (hc:Clear md ops listed i oi) (hr:i∈Region.ready md ops listed) (hy:Det P ops S oi v a)
  (H:jW P md ops S m B fuel (listed.setIfInBounds i true) (a.put oi.dst v)):jW P md ops S m B (fuel+1) listed a:=by
 induction fuel generalizing listed a with
 | zero =>
   refine⟨jb0 hr,λj hj => ?_⟩;rcases Nat.decEq j i with hji|rfl
   . exact Z2f
   . exact⟨oi,v,hi,hy,H⟩
 | succ fuel ih =>
   refine⟨jb0 hr,λj hj => ?_⟩;rcases Nat.decEq j i with hji|rfl
   . obtain⟨oj,u,ho,hyj,hn⟩:=H.2 j (ready_mono hj hji)
     obtain⟨a1,a2,a3⟩:=Oper.apart_spec ((hc j oj ho hji (mem_ready.1 hj).1).resolve_left (jF hr hj ho));refine⟨oj,u,ho,hyj.of_same (execOp_put oj (λcs b=>hsel j oj cs b ho) a oi.dst v a1).symm (wanted_put oj a oi.dst v a1).symm,ih _ _ (hcl.set hj) (hc.set j) (ready_mono hr (Ne.symm hji)) ?_ ?_⟩
     . exact Zx
     . exact Z1z
   . exact⟨oi,v,hi,hy,H⟩
theorem Ml{m t:Nat}(hs:Region.noSelect ops=true)(ht:vI md ops m=true)(hm:ops.toList.length=m+t):∀(k:Nat) (os:List Oper) (i:Nat) (listed:Array Bool) (a:Act),ops.toList.drop i=os->i+k=m->Closed md ops listed ->
  (∀q,q<i->listed.getD q true=true)->jV md ops t k i listed=true ->
  dJ P ops Q S k os a->jW P md ops S m (λlisted a=>∀w,S w->wpAny P md ops Q t listed a w) k listed a
 | 0,os,i,listed,a,hd,hi,hcl,hl,hk,h=>by
  exact Z22
 | k+1,[],i,listed,a,_,_,_,_,_,h=>h.elim
 | k+1,o::os,i,listed,a,hd,hi,hcl,hl,hk,⟨v,hy,hn⟩=>by
  simp only[jV,Bool.and_eq_true]at hk;obtain⟨⟨hf,hr⟩,hk⟩:=hk;obtain⟨ho,hd'⟩:=drop_cons hd;refine PD ht ak ho (Region.noSelect_spec hs) k listed a hcl (j5 ho hf) (by simpa using hr) hy ?_;refine Ml hs ht hm k os (i+1) _ _ hd' ak (hcl.set (by simpa using hr)) ?_ hk hn;exact Z1k
theorem BU{id:Nat}{a:Act}{w:World}(m t:Nat)(S:World->Prop)(hp:P.follows .mixedOrders=true)(hs:Region.noSelect l.toArray=true)
  (hl:l.length=m+t) (ht:vI .any l.toArray m=true) (hk:jV .any l.toArray t m 0 (Array.replicate l.length false)=true) (hS:S w.drew) (h:dJ P l.toArray Q S m l a):(Code.region id l.toArray true).wp P Q a w :=
 wp_region_any hp (by
  have h1:=jW.any (Q:=Q) (tf:=t) m (Array.replicate l.length false) a (Ml (md:=.any) (Q:=Q) (m:=m) (t:=t) hs ht (by simpa using hl) m l 0 (Array.replicate l.length false) a aW ak (Closed.start _ aW) (λq hq=>by omega) hk h) _ hS;have e:l.toArray.size=t+m:=by simp;omega
  rw[e];have e2:Array.replicate (t+m) false=Array.replicate l.length false:=by rw[hl,Nat.add_comm]
  rw[e2];exact h1)
theorem BX{id:Nat}{a:Act}{W0 w:World}(m t:Nat)(h0:RowKit.Below W0.heap.size W0 w)(hp:P.follows .mixedOrders=true)(hs:Region.noSelect l.toArray=true)
  (hl:l.length=m+t) (ht:vI .any l.toArray m=true) (hk:jV .any l.toArray t m 0 (Array.replicate l.length false)=true) (h:dJ P l.toArray Q (λw'=>RowKit.Below W0.heap.size W0 w') m l a):(Code.region id l.toArray true).wp P Q a w :=
 BU m t _ hp hs hl ht hk h0.drew h
theorem Mq{B:Value->Array Bool->Act->Prop}(ht:vI md ops m=true){i:Nat}{oi:Oper}{v:Value}(him:i<m)(his:i≠s)(hi:ops[i]? = some oi)(hsel:∀(j:Nat) (o:Oper) cs b,ops[j]? = some o->o.op ≠ .select cs b)
  (fuel:Nat) (listed:Array Bool) (a:Act) (g:Option Value) (hcl:Closed md ops listed) (hc:Clear md ops listed i oi) (hr:i∈Region.ready md ops listed) (hy:FW P ops S oi v a)
  (H:iY P md ops S s m B fuel (listed.setIfInBounds i true) (a.put oi.dst v) g):iY P md ops S s m B (fuel+1) listed a g:=by
 induction fuel generalizing listed a g with
 | zero =>
   refine⟨jb0 hr,λj hj => ?_⟩;rcases Nat.decEq j i with hji|rfl
   . exact Z2f
   . exact⟨oi,hi,.inl ⟨his,v,hy,H⟩⟩
 | succ fuel ih =>
   refine⟨jb0 hr,λj hj => ?_⟩;rcases Nat.decEq j i with hji|rfl
   . obtain⟨oj,ho,hcase⟩:=H.2 j (ready_mono hj hji)
     obtain⟨a1,a2,a3⟩:=Oper.apart_spec ((hc j oj ho hji (mem_ready.1 hj).1).resolve_left (jF hr hj ho));rcases hcase with⟨hjs,u,hyj,hn⟩|⟨hjs,hg,hn⟩
     . refine⟨oj,ho,.inl ⟨hjs,u,hyj.of_same (execOp_put oj (λcs b=>hsel j oj cs b ho) a oi.dst v a1).symm (wanted_put oj a oi.dst v a1).symm,ih _ _ _ (hcl.set hj) (hc.set j) (ready_mono hr (Ne.symm hji)) ?_ ?_⟩⟩
       . exact Zx
       . exact Z1z
     . refine⟨oj,ho,.inr ⟨hjs,hg,λu=>ih _ _ _ (hcl.set hj) (hc.set j) (ready_mono hr (Ne.symm hji)) ?_ ?_⟩⟩
       . exact Zx
       . rw[Array.setIfInBounds_comm _ _ hji,<-Act.put_comm a v u a2];exact hn u
   . exact⟨oi,hi,.inl ⟨his,v,hy,H⟩⟩
theorem Ho(hs:Region.noSelect ops=true)(ht:vI md ops m=true)(hso:ops[s]? = some so)(hsm:s<m)(htail:ops.toList.drop m=tail)(htl:tail.length=t) :
  ∀(os:List Oper) (L:List Nat) (listed:Array Bool) (a:Act),L.map (λi=>ops[i]?)=os.map some->Closed md ops listed->(∀q,q<m->q ∉ L->q≠s->listed.getD q true=true)->vv md ops s m t L listed=true ->
  fC P ops Q S N so tail os a->iY P md ops S s m (λv listed a=>∀w,N v w->wpAny P md ops Q t listed a w) (L.length+1) listed a none
 | [],[],listed,a,_,hcl,hl,hk,h=>by
  simp only[vv,Bool.and_eq_true,jc6]at hk;obtain⟨hr,hf⟩:=hk;refine⟨jb0 hr,λi hi => ?_⟩;by_cases his:i=s
  . exact Z1n
  . exfalso
    obtain⟨hun,oi,ho,_⟩:=mem_ready.1 hi;by_cases him:i<m
    . have:=hl i him aW his
      rw[hun]at this;cases this
    . exact GK ht hcl hr hi ho ak hsm (Ne.symm his)
 | [],i::r,_,_,hL,_,_,_,_=>by simp at hL
 | o::os,[],_,_,hL,_,_,_,_=>by simp at hL
 | o::os,i::r,listed,a,hL,hcl,hl,hk,⟨v,hy,hn⟩=>by
  simp only[List.map_cons,List.cons.injEq]at hL;obtain⟨ho,hL⟩:=hL;simp only[vv,Bool.and_eq_true,Bool.not_eq_true',beq_eq_false_iff_ne,decide_eq_true_eq,jc6]at hk;obtain⟨⟨⟨⟨hf,hr⟩,him⟩,his⟩,hk⟩:=hk;refine Mq ht him his ho (Region.noSelect_spec hs) _ listed a none hcl (j5 ho hf) hr hy ?_;refine Ho hs ht hso hsm htail htl os r _ _ hL (hcl.set hr) ?_ hk hn;intro q hq hqr hqs;exact xF (λ_=>Di hr) (λhne=>hl q hq (by simp[hne,hqr]) hqs)
theorem zX{id:Nat}{a:Act}{W0 w:World}{x:Obj}{norm:List Oper}(L:List Nat)(s m:Nat)(h0:RowKit.Below W0.heap.size W0 w)(hp:P.follows .mixedOrders=true)(hs:Region.noSelect l.toArray=true)
  (hso:l.toArray[s]? = some so) (htl:l.drop m=tail) (hL:L.map (λi=>l.toArray[i]?)=norm.map some) (hn:l.length=tail.length+(L.length+1))
  (hq:((jb' m).all λq=>L.contains q||q==s)&&decide (s<m)=true) (ht:vI .any l.toArray m=true)
  (hk:vv .any l.toArray s m tail.length L (Array.replicate l.length false)=true)
  (hsp:∀(a:Act) (w:World),RowKit.Below W0.heap.size W0 w->Region.wanted so (yielded l.toArray a.tmps)=true/\(execOp a.eval so).run P w=.ok (.value (.pointer w)) (w.alloc x))
  (h:fC P l.toArray Q (λw'=>RowKit.Below W0.heap.size W0 w') (Made W0 x) so tail norm a):(Code.region id l.toArray true).wp P Q a w:=by
 refine wp_region_any hp ?_;simp only[Bool.and_eq_true,jc0,List.mem_range,Bool.or_eq_true,jc6,beq_iff_eq,decide_eq_true_eq]at hq
 have hspec:Special P l.toArray (λw'=>RowKit.Below W0.heap.size W0 w') (Made W0 x) so:=λa w hb=>by
  obtain⟨hw,hr⟩:=hsp a w hb;exact⟨hw,_,_,hr,w.heap.size,rfl,hb.size,At.new _ _,aB hb _⟩
 have h1:=iY.any (Q:=Q) (tf:=tail.length) hso hspec (yD W0) (AA W0 x) (λv w ⟨_,_,_,_,hb⟩=>hb) (L.length+1) (Array.replicate l.length false) a none
  (Ho (md:=.any) (Q:=Q) hs ht hso hq.2 (by simpa using htl) rfl norm L (Array.replicate l.length false) a hL (Closed.start _ aW) (λq hqm hqL hqs=>by
   rcases hq.1 q hqm with h'|h'
   . exact absurd h' hqL
   . exact absurd h' hqs) hk h) w.drew h0.drew
 exact Z2k
end
end Go.Proofs.YtdnggaapcgomhaaGreat.aj
namespace Go.Proofs.YtdnggaapcgomhaaGreat
open Go aj
section
variable {P:Program} {ops:Array Oper} {Q:Exit->Act->World->Prop} {md:Region.Mode} {S:World->Prop} {N:Value->World->Prop} {so:Oper} {tail:List Oper}
theorem xA{id:Nat}{l:List Oper}{a:Act}{W0 w:World}(m t:Nat)(h:dJ P l.toArray Q (λw'=>RowKit.Below W0.heap.size W0 w') m l a)(h0:RowKit.Below W0.heap.size W0 w:=by exact RowKit.Below.refl _ _)(hp:P.follows .mixedOrders=true:=by kernel_rfl)(hs:Region.noSelect l.toArray=true:=by kernel_rfl)
 (hl:l.length=m+t:=by rfl) (ht:vI .any l.toArray m=true:=by kernel_rfl) (hk:jV .any l.toArray t m 0 (Array.replicate l.length false)=true:=by kernel_rfl):(Code.region id l.toArray true).wp P Q a w:=BX m t h0 hp hs hl ht hk h
theorem adB{id:Nat}{l:List Oper}{a:Act}{W0 w:World}{x:Obj}{norm:List Oper}(L:List Nat)(s m:Nat)
 (h:fC P l.toArray Q (λw'=>RowKit.Below W0.heap.size W0 w') (Made W0 x) so tail norm a) (h0:RowKit.Below W0.heap.size W0 w:=by exact RowKit.Below.refl _ _) (hp:P.follows .mixedOrders=true:=by kernel_rfl) (hs:Region.noSelect l.toArray=true:=by kernel_rfl)
 (hso:l.toArray[s]? = some so:=by rfl) (htl:l.drop m=tail:=by rfl) (hL:L.map (λi=>l.toArray[i]?)=norm.map some:=by rfl) (hn:l.length=tail.length+(L.length+1):=by rfl)
 (hq:((List.range m).all λq=>L.contains q||q==s)&&decide (s<m)=true:=by kernel_rfl) (ht:vI .any l.toArray m=true:=by kernel_rfl)
 (hk:vv .any l.toArray s m tail.length L (Array.replicate l.length false)=true:=by kernel_rfl)
 (hsp:∀(a:Act) (w:World),RowKit.Below W0.heap.size W0 w->Region.wanted so (yielded l.toArray a.tmps)=true/\(execOp a.eval so).run P w=.ok (.value (.pointer w)) (w.alloc x):=by intro a w2 hS;refine⟨rfl,?_⟩;go_simp;first|done|with_reducible rfl|exact⟨rfl,rfl⟩):(Code.region id l.toArray true).wp P Q a w:=zX L s m h0 hp hs hso htl hL hn hq ht hk hsp h
end
end Go.Proofs.YtdnggaapcgomhaaGreat
namespace Go.Proofs.YtdnggaapcgomhaaGreat.Fix
open Go.ChangeShapes Go.WideShapes Go.ChangeAt Go.RowKit
open Go.Proofs.Tryz renaming prog → ja0
open List renaming setIfInBounds_toArray → ja1,set_cons_zero → ja2,set_cons_succ → ja3,getElem?_eq_getElem → ja6,length_cons → ja9,getD_eq_getElem?_getD → jb8,range → jb',size_toArray → jc4,length_take → jc9
open World renaming alloc → ja4,setCell → ja5
variable {z:Int}
theorem qK(x:Int):IntKind.i64.wrap x=Fw.wr x:=(IntWalk.i64_left x).trans (uQ x)
def bxe(s:Re.St)(fl ap:Value)(ib:Bool):Array Value:=#[s.c 3,s.c 4,s.c 7,s.c 8,s.c 11,s.c 12,s.c 5,s.c 6,s.c 9,s.c 10,s.c 13,s.c 14,Fw.ed s 3,Fw.ed s 1,Fw.ed s 0,Fw.ed s 2,fl,ap,ib]
def GQ(s:Re.St)(fl ap:Value)(ib:Bool):Array Value:=cells s++bxe s fl ap ib
theorem JA(s:Re.St)(fl ap:Value)(ib:Bool){i:Nat}(h:i<55):(GQ s fl ap ib)[i]? = some (cell s i):=by
 unfold GQ;rw[Array.getElem?_append_left (by rw[bI];exact h),gM s h]
theorem abB(s:Re.St)(fl ap:Value)(ib:Bool)(j:Nat):(GQ s fl ap ib)[55+j]? = (bxe s fl ap ib)[j]? := by
 unfold GQ;rw[Array.getElem?_append_right Z4j,bI,show 55+j-55=j by omega]
theorem PE(s:Re.St)(fl fl' ap:Value)(ib:Bool):(GQ s fl ap ib).setIfInBounds 71 fl'=GQ s fl' ap ib:=by
 exact Z2s
theorem PG(s:Re.St)(fl ap ap':Value)(ib:Bool):(GQ s fl ap ib).setIfInBounds 72 ap'=GQ s fl ap' ib:=by
 exact Z2s
theorem PI(s:Re.St)(fl ap:Value)(ib ib':Bool):(GQ s fl ap ib).setIfInBounds 73 (.bool ib')=GQ s fl ap ib':=by
 exact Z2s
theorem PK(s:Re.St)(W:World):(Instr.build 162 #[(0,.agg (cells s)),(1,.agg #[s.c 3,s.c 4,s.c 7,s.c 8,s.c 11,s.c 12,s.c 5,s.c 6,s.c 9,s.c 10,s.c 13,s.c 14]),(2,.agg #[Fw.ed s 3,Fw.ed s 1,Fw.ed s 0,Fw.ed s 2])]).run ja0 W=.ok (.agg (GQ s (.slice none 0 0) (.slice none 0 0) false)) W:=by kernel_rfl
section
variable {W:World} {b:Nat} {s:Re.St} {fl ap:Value} {ib:Bool}
abbrev aL(W:World)(b:Nat)(s:Re.St)(fl ap:Value)(ib:Bool):Prop:=At W b (.cells (GQ s fl ap ib) 162)
theorem aL.lt(h:aL W b s fl ap ib):b<W.heap.size:=At.lt h
theorem aL.int(h:aL W b s fl ap ib)(i:Nat)(hi:i<55)(hb:Re.rW i=false):W.cell? ⟨b,i,none⟩=some (.int .i64 (s.c i)):=(At.cell h i).trans (by rw[JA _ _ _ _ hi,Dy s hb])
theorem aL.ext(h:aL W b s fl ap ib)(j:Nat):W.cell? ⟨b,55+j,none⟩=(bxe s fl ap ib)[j]? := (At.cell h (55+j)).trans (abB s fl ap ib j)
theorem aL.keep{W':World}(h:aL W b s fl ap ib)(hb:Below W W W'):aL W' b s fl ap ib:=At.keep h hb
theorem aL.alloc(h:aL W b s fl ap ib)(o:Obj):aL (W.alloc o) b s fl ap ib:=At.alloc h o
theorem At.bx0(h:aL W b s fl ap ib):b<W.heap.size/\W.cell? ⟨b,55,none⟩=some (.int .i64 (s.c 3))/\W.cell? ⟨b,56,none⟩=some (.int .i64 (s.c 4))/\W.cell? ⟨b,57,none⟩=some (.int .i64 (s.c 7))/\W.cell? ⟨b,58,none⟩=some (.int .i64 (s.c 8))/\W.cell? ⟨b,59,none⟩=some (.int .i64 (s.c 11))/\W.cell? ⟨b,60,none⟩=some (.int .i64 (s.c 12))/\W.cell? ⟨b,67,none⟩=some (.int .i64 (Fw.ed s 3))/\W.cell? ⟨b,68,none⟩=some (.int .i64 (Fw.ed s 1)) :=
 ⟨h.lt,h.ext 0,h.ext 1,h.ext 2,h.ext 3,h.ext 4,h.ext 5,h.ext 12,h.ext 13⟩
theorem At.bx1(h:aL W b s fl ap ib):b<W.heap.size/\W.cell? ⟨b,61,none⟩=some (.int .i64 (s.c 5))/\W.cell? ⟨b,62,none⟩=some (.int .i64 (s.c 6))/\W.cell? ⟨b,63,none⟩=some (.int .i64 (s.c 9))/\W.cell? ⟨b,64,none⟩=some (.int .i64 (s.c 10))/\W.cell? ⟨b,65,none⟩=some (.int .i64 (s.c 13))/\W.cell? ⟨b,66,none⟩=some (.int .i64 (s.c 14))/\W.cell? ⟨b,69,none⟩=some (.int .i64 (Fw.ed s 0))/\W.cell? ⟨b,70,none⟩=some (.int .i64 (Fw.ed s 2)) :=
 ⟨h.lt,h.ext 6,h.ext 7,h.ext 8,h.ext 9,h.ext 10,h.ext 11,h.ext 14,h.ext 15⟩
theorem At.bxm(h:aL W b s fl ap ib):b<W.heap.size/\W.cell? ⟨b,15,none⟩=some (.int .i64 (s.c 15))/\W.cell? ⟨b,16,none⟩=some (.int .i64 (s.c 16))/\W.cell? ⟨b,17,none⟩=some (.int .i64 (s.c 17))/\W.cell? ⟨b,18,none⟩=some (.int .i64 (s.c 18))/\W.cell? ⟨b,19,none⟩=some (.int .i64 (s.c 19))/\W.cell? ⟨b,20,none⟩=some (.int .i64 (s.c 20))/\W.cell? ⟨b,21,none⟩=some (.int .i64 (s.c 21))/\W.cell? ⟨b,22,none⟩=some (.int .i64 (s.c 22)) :=
 ⟨h.lt,h.int 15 aG rfl,h.int 16 aG rfl,h.int 17 aG rfl,h.int 18 aG rfl,h.int 19 aG rfl,h.int 20 aG rfl,h.int 21 aG rfl,h.int 22 aG rfl⟩
theorem At.abC{x0 x1 x2 x3 x4 x5:Value}{T:TypeId}(h:At W b (.cells #[x0,x1,x2,x3,x4,x5] T))(y0 y1 y2 y3 y4 y5:Value):At ((((((W.setCell ⟨b,0,none⟩ y0).setCell ⟨b,1,none⟩ y1).setCell ⟨b,2,none⟩ y2).setCell ⟨b,3,none⟩ y3).setCell ⟨b,4,none⟩ y4).setCell ⟨b,5,none⟩ y5) b (.cells #[y0,y1,y2,y3,y4,y5] T):=(((((h.set 0 y0).set 1 y1).set 2 y2).set 3 y3).set 4 y4).set 5 y5
theorem At.six{x0 x1 x2 x3 x4 x5:Value}{T:TypeId}(h:At W b (.cells #[x0,x1,x2,x3,x4,x5] T)):b<W.heap.size/\W.cell? ⟨b,0,none⟩=some x0/\W.cell? ⟨b,1,none⟩=some x1/\W.cell? ⟨b,2,none⟩=some x2/\W.cell? ⟨b,3,none⟩=some x3/\W.cell? ⟨b,4,none⟩=some x4/\W.cell? ⟨b,5,none⟩=some x5:=⟨h.lt,h.cell 0,h.cell 1,h.cell 2,h.cell 3,h.cell 4,h.cell 5⟩
end
theorem fI(b:Nat)(s:Re.St)(fl ap:Value)(ib:Bool)(r0 r1:Int)(w:World)(h:aL w b s fl ap ib):Calls ja0 122 #[b,.agg #[r0,r1]] w λe w'=>e=.returned (.agg #[Fw.mg s 0 0 r0,Fw.mg s 0 1 r0,Fw.mg s 1 0 r0,Fw.mg s 1 1 r0])/\Below w w w':=by
 have i0:∀(a b c d:Int) (w:World),(Instr.index 160 (.agg #[a,.int .i64 b,c,d]) (.int .i64 0)).run ja0 w=.ok (.agg #[a,.int .i64 b]) w:=λ_ _ _ _ _=>by kernel_rfl
 have i1:∀(a b c d:Int) (w:World),(Instr.index 160 (.agg #[a,.int .i64 b,c,d]) (.int .i64 1)).run ja0 w=.ok (.agg #[c,d]) w:=λ_ _ _ _ _=>by kernel_rfl
 go_enter Tryz.func122,Tryz.ntmps122
 go_upto_region 1 with(fail)
 generalize hW:ja4 _ _=W0;have A0:At W0 w (.cells #[r0,r1] 95):=hW▸At.alloc (At.new _ _) _;have A1:At W0 (w.heap.size+1) (.cells #[(),(),(),()] 160):=hW▸At.new' _ aW;have A2:aL W0 b s fl ap ib:=hW▸aL.alloc (aL.alloc h _) _;have hB:Below w w W0:=hW▸aB (aB aD _) _;clear hW h;have c0:=A0.lc;have c1:=A1.nM;obtain⟨l2,bS,bX,bY,bZ,cu,cK,bU,bV⟩:=At.bxm A2;refine yw 19 1 ?_
 (repeat (first|refine jc ?_ | refine jd ?_ (hc:=by intro w2 hS;first|with_reducible exact iq hS (Px _ _ _ _ _ _ _ _ _ _)|with_reducible exact iq hS (sW _ _ _ _ _))|refine je ?_))
 refine aj.bL ?_;intro w2 hS
 (clear c0 c1);(replace hB:=Below.ay qN aC hS);replace A0:=At.keep uL hS;replace A1:=At.keep sH hS;clear hS;have c0:=A0.lc;have c1:=A1.nM
 refine wz ?_;intro K hK;go_simp;refine hK _ _ (aj.bC ?_);clear hK K;generalize hW:ja5 _ _ _=W1;replace A1:At W1 (w.heap.size+1) (.cells #[.int .i64 (Fx.len (s.c 21) (s.c 22) r0 0),.int .i64 (Fx.len (s.c 17) (s.c 18) r0 0),.int .i64 (Fx.len (s.c 15) (s.c 16) (-1) 0),.int .i64 (Fx.len (s.c 19) (s.c 20) (-1) 0)] 160):=hW▸At.set (At.set (At.set (At.set A1 0 _) 1 _) 2 _) 3 _;replace hB:Below w w W1:=hW▸Below.setCell (Below.setCell (Below.setCell (Below.setCell hB aW _) aW _) aW _) aW _;clear hW c0 c1 A0;have c1:=A1.lc;go_wp2;refine bodyPost_ret (v:=.agg #[_,_,_,_]) (by simp[results,Tryz.results122,go_sem, *];first|done|exact⟨rfl,rfl⟩|exact⟨rfl,rfl,rfl,rfl⟩|rfl) rfl ⟨yH rfl rfl rfl rfl,?_⟩;exact Z0
theorem AZ(a b c d:Int)(w:World):(Instr.index 160 (.agg #[a,b,c,d]) (.int .i64 0)).run ja0 w=.ok (.agg #[a,b]) w:=by kernel_rfl
theorem pY(a b c d:Int)(w:World):(Instr.index 160 (.agg #[a,b,c,d]) (.int .i64 1)).run ja0 w=.ok (.agg #[c,d]) w:=by kernel_rfl
theorem af5(b:Nat)(s:Re.St)(fl ap:Value)(ib:Bool)(r0 r1 t0 t1:Int)(w:World)(h:aL w b s fl ap ib):Calls ja0 85 #[b,(),.agg #[r0,r1],.agg #[t0,t1]] w λe w'=>e=.returned (.int .i64 (Fw.FU s 0 r0 r0 t0))/\Below w w w':=by
 have ix0:=AZ;go_enter Tryz.func85,Tryz.ntmps85
 go_upto_region 1 with(fail)
 generalize hW:ja4 _ _=W0;have A0:At W0 w (.cells #[r0,r1] 95):=hW▸At.alloc (At.new _ _) _;have A1:At W0 (w.heap.size+1) (.cells #[t0,t1] 95):=by rw[<-hW];exact At.new' _ Ku
 have A2:aL W0 b s fl ap ib:=hW▸aL.alloc (aL.alloc h _) _;have hB:Below w w W0:=hW▸aB (aB aD _) _;clear hW h;have c0:=A0.lc;have c1:=A1.lc;obtain⟨l2,bS,bX,bY,bZ,cu,cK,bU,bV⟩:=At.bx0 A2;refine adB [0,1,2,3,4,5,6,7,8,9,10,11,12] 13 14 ?_ (norm:=[⟨_,_,_,_,_,_⟩,⟨_,_,_,_,_,_⟩,⟨_,_,_,_,_,_⟩,⟨_,_,_,_,_,_⟩,⟨_,_,_,_,_,_⟩,⟨_,_,_,_,_,_⟩,⟨_,_,_,_,_,_⟩,⟨_,_,_,_,_,_⟩,⟨_,_,_,_,_,_⟩,⟨_,_,_,_,_,_⟩,⟨_,_,_,_,_,_⟩,⟨_,_,_,_,_,_⟩,⟨_,_,_,_,_,_⟩]) (tail:=[⟨_,_,_,_,_,_⟩,⟨_,_,_,_,_,_⟩]) (x:=.cells #[(),(),(),(),(),()] 157) (so:=⟨_,_,_,_,_,_⟩)
 (repeat (first|refine sbk ?_ | refine sbc ?_ (hc:=by intro w2 hS;first|with_reducible exact(eY _ _ _))|refine sbv ?_))
 refine aj.yj ?_;intro n0 w2 hn hA hS;(try simp only[bM,bN,bO,tks])
 ((have hB0:=hB);have BF:=dX (aT A0.lt hn);have ne1:=dX (aT A1.lt hn);have BG:=dX (aT A2.lt hn);(clear c0 c1 l2 bS bX bY bZ cu cK bU bV);(replace hB:=Below.ay qN aC hS);replace A0:=At.keep uL hS;replace A1:=At.keep sH hS;replace A2:=At.keep uh hS;clear hS;have c0:=A0.lc;have c1:=A1.lc;obtain⟨l2,bS,bX,bY,bZ,cu,cK,bU,bV⟩:=At.bx0 A2;have A3:=hA;clear hA;have c3:=A3.nM;have g0:=aJ Z4g hn;clear hB0)
 (refine aj.zP aR ?_;intro K hK;go_simp;refine hK _ _ ?_;clear hK K)
 refine wz ?_;intro K hK;go_simp;refine hK _ _ (aj.bC ?_);clear hK K
 (generalize hW:ja5 (ja5 (ja5 (ja5 (ja5 (ja5 _ _ _) _ _) _ _) _ _) _ _) _ _=W1;clear c0 c1 l2 bS bX bY bZ cu cK bU bV c3;replace A3:At W1 _ _:=hW▸(At.abC A3 _ _ _ _ _ _);replace A0:At W1 _ _:=hW▸(At.off (At.off (At.off (At.off (At.off (At.off A0 BF _ _) BF _ _) BF _ _) BF _ _) BF _ _) BF _ _);replace A1:At W1 _ _:=hW▸(At.off (At.off (At.off (At.off (At.off (At.off A1 ne1 _ _) ne1 _ _) ne1 _ _) ne1 _ _) ne1 _ _) ne1 _ _);replace A2:At W1 _ _:=hW▸(At.off (At.off (At.off (At.off (At.off (At.off A2 BG _ _) BG _ _) BG _ _) BG _ _) BG _ _) BG _ _);replace hB:Below w w W1:=hW▸(Below.setCell (Below.setCell (Below.setCell (Below.setCell (Below.setCell (Below.setCell hB g0 _) g0 _) g0 _) g0 _) g0 _) g0 _);clear hW BF ne1 BG;have c0:=A0.lc;have c1:=A1.lc;obtain⟨l2,bS,bX,bY,bZ,cu,cK,bU,bV⟩:=At.bx0 A2;have c3:=A3.lc)
 by_cases ht:t0 = -1
 . subst ht
   go_upto_region 4 with(fail)
   refine rZ ?_
   (repeat (first|refine jc ?_ | refine jd ?_ (hc:=by intro w2 hS;first|with_reducible exact iq hS (jY _ _ _ _ _ _ _ _))|refine je ?_))
   refine aj.bD ?_;intro w2 hS
   (clear c0 c1 l2 bS bX bY bZ cu cK bU bV c3);(replace hB:=Below.ay qN aC hS);replace A0:=At.keep uL hS;replace A1:=At.keep sH hS;replace A2:=At.keep uh hS;replace A3:=At.keep zG hS;clear hS;have c0:=A0.lc;have c1:=A1.lc;obtain⟨l2,bS,bX,bY,bZ,cu,cK,bU,bV⟩:=At.bx0 A2;have c3:=A3.lc
   cases hf:Fx.dD (s.c 3) r0
   . have HF:=ah hf
     clear hf
     go_upto_region 7 with(fail)
     have HX:aL _ b s fl ap ib:=A2;refine rZ ?_
     (repeat (first|refine jc ?_ | refine jd ?_ (hc:=by intro w2 hS;first|with_reducible exact iq hS (fI _ _ _ _ _ _ _ _ Z4c)|with_reducible exact iq hS (eY _ _ _))|refine je ?_))
     refine aj.bD ?_;intro w2 hS
     (clear c0 c1 l2 bS bX bY bZ cu cK bU bV c3);(replace hB:=Below.ay qN aC hS);replace A0:=At.keep uL hS;replace A1:=At.keep sH hS;replace A2:=At.keep uh hS;replace A3:=At.keep zG hS;clear hS;have c0:=A0.lc;have c1:=A1.lc;obtain⟨l2,bS,bX,bY,bZ,cu,cK,bU,bV⟩:=At.bx0 A2;have c3:=A3.lc
     go_upto_region 8 with(fail)
     refine rZ ?_
     (repeat (first|refine jc ?_ | refine jd ?_ (hc:=by intro w2 hS;first|with_reducible exact iq hS (rA _ _ _ _ _ _ _ _ _))|refine je ?_))
     refine aj.bD ?_;intro w2 hS
     (clear c0 c1 l2 bS bX bY bZ cu cK bU bV c3);(replace hB:=Below.ay qN aC hS);replace A0:=At.keep uL hS;replace A1:=At.keep sH hS;replace A2:=At.keep uh hS;replace A3:=At.keep zG hS;clear hS;have c0:=A0.lc;have c1:=A1.lc;obtain⟨l2,bS,bX,bY,bZ,cu,cK,bU,bV⟩:=At.bx0 A2;have c3:=A3.lc
     go_wp2
     go_ret
     refine⟨bA ?_,?_⟩
     . unfold Fw.FU Fw.Kw;rw[if_neg (λq=>q rfl),if_neg (by rw[HF.out];simp),if_pos rfl];(try simp only[uQ,qK]);rfl
     . exact Z0
   . have HF:=ah hf
     clear hf
     go_upto_region 5 with(fail)
     refine rZ ?_
     (repeat (first|refine jc ?_ | refine jd ?_ (hc:=by intro w2 hS;first|with_reducible exact iq hS (iP _ _ _ _ _)|with_reducible exact iq hS (rA _ _ _ _ _ _ _ _ _))|refine je ?_))
     refine aj.bD ?_;intro w2 hS
     (clear c0 c1 l2 bS bX bY bZ cu cK bU bV c3);(replace hB:=Below.ay qN aC hS);replace A0:=At.keep uL hS;replace A1:=At.keep sH hS;replace A2:=At.keep uh hS;replace A3:=At.keep zG hS;clear hS;have c0:=A0.lc;have c1:=A1.lc;obtain⟨l2,bS,bX,bY,bZ,cu,cK,bU,bV⟩:=At.bx0 A2;have c3:=A3.lc
     go_wp2
     go_ret
     refine⟨bA ?_,?_⟩
     . unfold Fw.FU Fw.Kw;rw[if_neg (λq=>q rfl),if_pos HF.out];rfl
     . exact Z0
 . have hne:(t0 != -1)=true:=by simpa using ht
   go_wp2
   go_ret
   refine⟨bA ?_,?_⟩
   . unfold Fw.FU;rw[if_pos ht];(try simp only[uQ,qK]);rfl
   . exact Z0
theorem af6(b:Nat)(s:Re.St)(fl ap:Value)(ib:Bool)(r0 r1 t0 t1:Int)(w:World)(h:aL w b s fl ap ib):Calls ja0 85 #[b,.int .i64 1,.agg #[r0,r1],.agg #[t0,t1]] w λe w'=>e=.returned (.int .i64 (Fw.FU s 1 r0 r1 t1))/\Below w w w':=by
 have ix0:=AZ;go_enter Tryz.func85,Tryz.ntmps85
 go_upto_region 1 with(fail)
 generalize hW:ja4 _ _=W0;have A0:At W0 w (.cells #[r0,r1] 95):=hW▸At.alloc (At.new _ _) _;have A1:At W0 (w.heap.size+1) (.cells #[t0,t1] 95):=by rw[<-hW];exact At.new' _ Ku
 have A2:aL W0 b s fl ap ib:=hW▸aL.alloc (aL.alloc h _) _;have hB:Below w w W0:=hW▸aB (aB aD _) _;clear hW h;have c0:=A0.lc;have c1:=A1.lc;obtain⟨l2,bS,bX,bY,bZ,cu,cK,bU,bV⟩:=At.bx1 A2;refine adB [0,1,2,3,4,5,6,7,8,9,10,11,12] 13 14 ?_ (norm:=[⟨_,_,_,_,_,_⟩,⟨_,_,_,_,_,_⟩,⟨_,_,_,_,_,_⟩,⟨_,_,_,_,_,_⟩,⟨_,_,_,_,_,_⟩,⟨_,_,_,_,_,_⟩,⟨_,_,_,_,_,_⟩,⟨_,_,_,_,_,_⟩,⟨_,_,_,_,_,_⟩,⟨_,_,_,_,_,_⟩,⟨_,_,_,_,_,_⟩,⟨_,_,_,_,_,_⟩,⟨_,_,_,_,_,_⟩]) (tail:=[⟨_,_,_,_,_,_⟩,⟨_,_,_,_,_,_⟩]) (x:=.cells #[(),(),(),(),(),()] 157) (so:=⟨_,_,_,_,_,_⟩)
 (repeat (first|refine sbk ?_ | refine sbc ?_ (hc:=by intro w2 hS;first|with_reducible exact(eY _ _ _))|refine sbv ?_))
 refine aj.yj ?_;intro n0 w2 hn hA hS;(try simp only[bM,bN,bO,tks])
 ((have hB0:=hB);have BF:=dX (aT A0.lt hn);have ne1:=dX (aT A1.lt hn);have BG:=dX (aT A2.lt hn);(clear c0 c1 l2 bS bX bY bZ cu cK bU bV);(replace hB:=Below.ay qN aC hS);replace A0:=At.keep uL hS;replace A1:=At.keep sH hS;replace A2:=At.keep uh hS;clear hS;have c0:=A0.lc;have c1:=A1.lc;obtain⟨l2,bS,bX,bY,bZ,cu,cK,bU,bV⟩:=At.bx1 A2;have A3:=hA;clear hA;have c3:=A3.nM;have g0:=aJ Z4g hn;clear hB0)
 (refine aj.zP aR ?_;intro K hK;go_simp;refine hK _ _ ?_;clear hK K)
 refine wz ?_;intro K hK;go_simp;refine hK _ _ (aj.bC ?_);clear hK K
 (generalize hW:ja5 (ja5 (ja5 (ja5 (ja5 (ja5 _ _ _) _ _) _ _) _ _) _ _) _ _=W1;clear c0 c1 l2 bS bX bY bZ cu cK bU bV c3;replace A3:At W1 _ _:=hW▸(At.abC A3 _ _ _ _ _ _);replace A0:At W1 _ _:=hW▸(At.off (At.off (At.off (At.off (At.off (At.off A0 BF _ _) BF _ _) BF _ _) BF _ _) BF _ _) BF _ _);replace A1:At W1 _ _:=hW▸(At.off (At.off (At.off (At.off (At.off (At.off A1 ne1 _ _) ne1 _ _) ne1 _ _) ne1 _ _) ne1 _ _) ne1 _ _);replace A2:At W1 _ _:=hW▸(At.off (At.off (At.off (At.off (At.off (At.off A2 BG _ _) BG _ _) BG _ _) BG _ _) BG _ _) BG _ _);replace hB:Below w w W1:=hW▸(Below.setCell (Below.setCell (Below.setCell (Below.setCell (Below.setCell (Below.setCell hB g0 _) g0 _) g0 _) g0 _) g0 _) g0 _);clear hW BF ne1 BG;have c0:=A0.lc;have c1:=A1.lc;obtain⟨l2,bS,bX,bY,bZ,cu,cK,bU,bV⟩:=At.bx1 A2;have c3:=A3.lc)
 by_cases ht:t1 = -1
 . subst ht
   go_upto_region 4 with(fail)
   refine rZ ?_
   (repeat (first|refine jc ?_ | refine jd ?_ (hc:=by intro w2 hS;first|with_reducible exact iq hS (jY _ _ _ _ _ _ _ _))|refine je ?_))
   refine aj.bD ?_;intro w2 hS
   (clear c0 c1 l2 bS bX bY bZ cu cK bU bV c3);(replace hB:=Below.ay qN aC hS);replace A0:=At.keep uL hS;replace A1:=At.keep sH hS;replace A2:=At.keep uh hS;replace A3:=At.keep zG hS;clear hS;have c0:=A0.lc;have c1:=A1.lc;obtain⟨l2,bS,bX,bY,bZ,cu,cK,bU,bV⟩:=At.bx1 A2;have c3:=A3.lc
   cases hf:Fx.dD (s.c 5) r1
   . have HF:=ah hf
     clear hf;go_wp2
     go_ret
     refine⟨bA ?_,?_⟩
     . unfold Fw.FU Fw.Kw;rw[if_neg (λq=>q rfl),if_neg (by rw[HF.out];simp),if_neg aG]
     . exact Z0
   . have HF:=ah hf
     clear hf
     go_upto_region 5 with(fail)
     refine rZ ?_
     (repeat (first|refine jc ?_ | refine jd ?_ (hc:=by intro w2 hS;first|with_reducible exact iq hS (iP _ _ _ _ _)|with_reducible exact iq hS (rA _ _ _ _ _ _ _ _ _))|refine je ?_))
     refine aj.bD ?_;intro w2 hS
     (clear c0 c1 l2 bS bX bY bZ cu cK bU bV c3);(replace hB:=Below.ay qN aC hS);replace A0:=At.keep uL hS;replace A1:=At.keep sH hS;replace A2:=At.keep uh hS;replace A3:=At.keep zG hS;clear hS;have c0:=A0.lc;have c1:=A1.lc;obtain⟨l2,bS,bX,bY,bZ,cu,cK,bU,bV⟩:=At.bx1 A2;have c3:=A3.lc
     go_wp2
     go_ret
     refine⟨bA ?_,?_⟩
     . unfold Fw.FU Fw.Kw;rw[if_neg (λq=>q rfl),if_pos HF.out];rfl
     . exact Z0
 . have hne:(t1 != -1)=true:=by simpa using ht
   go_wp2
   go_ret
   refine⟨bA ?_,?_⟩
   . unfold Fw.FU;rw[if_pos ht];(try simp only[uQ,qK]);rfl
   . exact Z0
section
variable {W:World} {b:Nat} {s:Re.St} {fl ap:Value} {ib:Bool}
theorem At.bxi(h:aL W b s fl ap ib):b<W.heap.size/\W.cell? ⟨b,23,none⟩=some (.int .i64 (s.c 23))/\W.cell? ⟨b,24,none⟩=some (.int .i64 (s.c 24))/\W.cell? ⟨b,25,none⟩=some (.int .i64 (s.c 25))/\W.cell? ⟨b,26,none⟩=some (.int .i64 (s.c 26))/\W.cell? ⟨b,27,none⟩=some (.int .i64 (s.c 27))/\W.cell? ⟨b,28,none⟩=some (.int .i64 (s.c 28))/\W.cell? ⟨b,29,none⟩=some (.int .i64 (s.c 29))/\W.cell? ⟨b,30,none⟩=some (.int .i64 (s.c 30)) :=
 ⟨h.lt,h.int 23 aG rfl,h.int 24 aG rfl,h.int 25 aG rfl,h.int 26 aG rfl,h.int 27 aG rfl,h.int 28 aG rfl,h.int 29 aG rfl,h.int 30 aG rfl⟩
theorem aL.style(h:aL W b s fl ap ib):uy W b 0 s:=λj hj=>by rw[Nat.zero_add];exact(At.cell h j).trans (JA _ _ _ _ hj)
theorem Below.cell_{X Y:World}(h:Below X X Y){b:Nat}(hb:b<X.heap.size)(i:Nat):Y.cell? ⟨b,i,none⟩=X.cell? ⟨b,i,none⟩:=(fO h).1 _ _ hb
end
theorem Mr(b:Nat)(s:Re.St)(fl ap:Value)(ib:Bool)(r0 r1:Int)(w:World)(h:aL w b s fl ap ib):Calls ja0 119 #[b,.agg #[r0,r1]] w λe w'=>e=.returned (.int .i64 (Fw.byc s r0))/\Below w w w':=by
 go_enter Tryz.func119,Tryz.ntmps119
 go_upto_region 1 with(fail)
 generalize hW:ja4 _ _=W0;have A0:At W0 w (.cells #[r0,r1] 95):=hW▸At.new _ _;have A2:aL W0 b s fl ap ib:=hW▸aL.alloc h _;have hB:Below w w W0:=hW▸aB aD _;clear hW h;have c0:=A0.lc;obtain⟨l2,bS,bX,bY,bZ,cu,cK,bU,bV⟩:=At.bx0 A2;have d0:=A2.int 53 aG rfl;refine rZ ?_
 (repeat (first|refine jc ?_ | refine jd ?_ (hc:=by intro w2 hS;first|with_reducible exact iq hS (rA _ _ _ _ _ _ _ _ _)|with_reducible exact iq hS (eY _ _ _))|refine je ?_))
 exact Z35
theorem vJ(b:Nat)(s:Re.St)(fl ap:Value)(ib:Bool)(r0 r1:Int)(w:World)(h:aL w b s fl ap ib):Calls ja0 158 #[b,(),(),.agg #[r0,r1]] w λx w'=>x=.returned (.tuple #[Fw.ins s 0 0 r0,.bool (Fw.FH s 0 0 r0)])/\Below w w w':=by
 exact Z2
theorem yL(b:Nat)(s:Re.St)(fl ap:Value)(ib:Bool)(r0 r1:Int)(w:World)(h:aL w b s fl ap ib):Calls ja0 158 #[b,(),.int .i64 1,.agg #[r0,r1]] w λx w'=>x=.returned (.tuple #[Fw.ins s 0 1 r0,.bool (Fw.FH s 0 1 r0)])/\Below w w w':=by
 exact Z2
theorem uP(b:Nat)(s:Re.St)(fl ap:Value)(ib:Bool)(r0 r1:Int)(w:World)(h:aL w b s fl ap ib):Calls ja0 158 #[b,.int .i64 1,(),.agg #[r0,r1]] w λx w'=>x=.returned (.tuple #[Fw.ins s 1 0 r1,.bool (Fw.FH s 1 0 r1)])/\Below w w w':=by
 exact Z2
theorem yh(b:Nat)(s:Re.St)(fl ap:Value)(ib:Bool)(r0 r1:Int)(w:World)(h:aL w b s fl ap ib):Calls ja0 158 #[b,.int .i64 1,.int .i64 1,.agg #[r0,r1]] w λx w'=>x=.returned (.tuple #[Fw.ins s 1 1 r1,.bool (Fw.FH s 1 1 r1)])/\Below w w w':=by
 exact Z2
def hR:Value->Option (DataW Value×List MemPlace):=λv=>some (.held v,[])
def GM(k:TypeId)(W:World)(b n:Nat)(g:Lit->Option Value):Prop :=
 ∃D:DataW Value,W.ownsMap ja0 k hR b n D/\Maps.size D=n/\∀l,WideAt.IsKeyLit l->(∀z,D.atKey l (.held z)=.held ((g l).getD z))/\Maps.has D l=(g l).isSome
section
variable {k t e:TypeId} {W W':World} {b n:Nat} {g:Lit->Option Value}
theorem GM.lt(h:GM k W b n g):b<W.heap.size:=by obtain⟨D,h,_⟩:=h;exact h.lt
theorem GM.obj(h:GM k W b n g):∃es clock,At W b (.map es clock):=by obtain⟨D,⟨es,clock,hb,_⟩,_⟩:=h;exact⟨es,clock,hb⟩
theorem GM.out{M:Nat->Prop}(h:GM k W b n g)(hm:¬ M b)(q:Out M W W'):GM k W' b n g:=by
 have hl:=h.lt;obtain⟨D,⟨es,clock,hb,r⟩,r2⟩:=h;exact⟨D,⟨es,clock,(q.2 b hl hm).trans hb,r⟩,r2⟩
theorem GM.keep(h:GM k W b n g)(hb:Below W W W'):GM k W' b n g:=h.out (M:=λ_=>False) (λq=>q) (Out.of_below hb)
theorem GM.congr{g':Lit->Option Value}(h:GM k W b n g)(q:∀l,WideAt.IsKeyLit l->g l=g' l):GM k W b n g':=by
 obtain⟨D,h1,h2,h3⟩:=h;exact⟨D,h1,h2,λl hl=>by rw[<-q l hl];exact h3 l hl⟩
theorem GM.look(h:GM k W b n g)(K:Maps.Keyed ja0 k)(ht:Tryz.prog.underlying t=some (.map k e)){z:Value}(hz:(zeroValue e).run ja0 W=.ok z W){key:Value}{kl:Lit}(hkey:keyOf ja0 k key=some kl) :
  (Instr.lookup t (.map (some b)) key false).run ja0 W=.ok ((g kl).getD z) W:=by
 obtain⟨D,h1,_,h3⟩:=h;obtain⟨v,ps,hr,hv⟩:=h1.lookup (z:=z) (zd:=.held z) (zp:=[]) K ht hz rfl hkey;rw[(h3 kl (K.key hkey)).1 z]at hv;simp only[hR,Option.some.injEq,Prod.mk.injEq,DataW.held.injEq]at hv;rw[hr,hv.1]
theorem GM.look_ok(h:GM k W b n g)(K:Maps.Keyed ja0 k)(ht:Tryz.prog.underlying t=some (.map k e)){z:Value}(hz:(zeroValue e).run ja0 W=.ok z W){key:Value}{kl:Lit}(hkey:keyOf ja0 k key=some kl) :
  (Instr.lookup t (.map (some b)) key true).run ja0 W=.ok (.tuple #[(g kl).getD z,.bool (g kl).isSome]) W:=by
 obtain⟨D,h1,_,h3⟩:=h;obtain⟨v,ps,hr,hv⟩:=h1.look_ok (z:=z) (zd:=.held z) (zp:=[]) K ht hz rfl hkey;rw[(h3 kl (K.key hkey)).1 z]at hv;simp only[hR,Option.some.injEq,Prod.mk.injEq,DataW.held.injEq]at hv;rw[hr,hv.1,(h3 kl (K.key hkey)).2]
theorem GM.len(h:GM k W b n g)(ht:Tryz.prog.underlying t=some (.map k e))(ty:TypeId):(Builtin.len_ #[t] ty #[.map (some b)]).run ja0 W=.ok (.int .i64 (n:Int)) W:=by
 obtain⟨D,h1,h2,_⟩:=h;rw[h1.len ht ty,h2]
noncomputable def xO(g:Lit->Option Value)(l:Lit)(v:Value):Lit->Option Value:=λy=>@ite (Option Value) (y=l) (Classical.propDecidable _) (some v) (g y)
theorem iU(g:Lit->Option Value)(l:Lit)(v:Value):xO g l v l=some v:=if_pos rfl
theorem jZ{g:Lit->Option Value}{l y:Lit}{v:Value}(h:y≠l):xO g l v y=g y:=if_neg h
theorem XJ{P:Program}{k:TypeId}{R:Value->Option (DataW Value×List MemPlace)}{W:World}{b n:Nat}{D:DataW Value}(h:W.ownsMap P k R b n D):W.ownsMap P k R b (Maps.size D) D:=by
 obtain⟨es,clock,hb,F,hs,rfl⟩:=h;exact⟨es,clock,hb,F,by simp[Maps.size,length_sorted],rfl⟩
theorem GM.store(h:GM k W b n g)(K:Maps.Keyed ja0 k)(ht:Tryz.prog.underlying t=some (.map k e))(hn:n<maxLen){key v:Value}{kl:Lit}(hkey:keyOf ja0 k key=some kl)(hf:g kl=none) :
  ∃W',(Instr.mapUpdate t (.map (some b)) key v).run ja0 W=.ok () W'/\GM k W' b (n+1) (xO g kl v)/\Out (λx=>x=b) W W':=by
 obtain⟨D,h1,h2,h3⟩:=h;obtain⟨W',hr,ho,ht⟩:=h1.store K ht hn hkey (val:=v) rfl;have hsz:Maps.size (D.put kl (.held v))=n+1:=by
  rw[Maps.size_put (h1.tidy K),(h3 kl (K.key hkey)).2,hf,h2];rfl
 refine⟨W',hr,⟨_,hsz▸XJ ho,hsz,λy hy => ?_⟩,Out.turned ht⟩;exact Z1p
theorem GM.made(k:TypeId)(W:World):GM k (W.alloc (.map #[] 0)) W.heap.size 0 (λ_=>none) :=
 ⟨.map [],World.ownsMap_made _ _ _ _,rfl,λl hl=>⟨λz=>rfl,rfl⟩⟩
end
theorem CJ:Maps.Keyed ja0 99:=Maps.Keyed.of_law (deep_law (m:=5) aG aV aV aV)
def PL(z a b:Int):Value:=.agg #[z,a,b]
def klit(z a b:Int):Lit:=.string (keyBytes [.int .i64 z,.int .i64 a,.int .i64 b])
theorem JB(d:Nat)(h:Wf z):Tryz.prog.keyLits (d+1) 3 [.int .i64 z]=some [.int .i64 z]:=by
 have h':(Lit.int .i64 z).wf=true:=h;simp[Program.keyLits,Tryz.underlying3,h']
theorem XK(d:Nat){a b:Int}(ha:Wf a)(hb:Wf b):Tryz.prog.keyLits (d+2) 95 [.int .i64 a,.int .i64 b]=some [.int .i64 a,.int .i64 b]:=by
 have hc:Tryz.prog.cellsOf 95=2:=by kernel_rfl
 have hi:Tryz.prog.cellsOf 3=1:=by kernel_rfl
 have e1:=JB d ha;have e2:=JB d hb;unfold Program.keyLits;simp only[Tryz.underlying95,hc,hi,ja9,List.length_nil,Nat.reduceAdd,if_true];rw[show jb' 2=[0,1]from rfl];simp[e1,e2]
theorem Ms{z a b:Int}(hz:Wf z)(ha:Wf a)(hb:Wf b):keyOf ja0 99 (PL z a b)=some (klit z a b):=by
 have hc:Tryz.prog.cellsOf 99=3:=by kernel_rfl
 have hs:Tryz.prog.cellsOf 95=2:=by kernel_rfl
 have hi:Tryz.prog.cellsOf 3=1:=by kernel_rfl
 have hk:Tryz.prog.keyType 99=true:=by kernel_rfl
 obtain⟨d,hd⟩:∃d,Tryz.prog.types.size+1=d+3:=⟨Tryz.prog.types.size-2,by have h:Nat.ble 2 Tryz.prog.types.size=true:=aV;have:=Nat.le_of_ble_eq_true h;omega⟩;have e1:=JB (d+1) hz;have e2:=XK d ha hb;have hf:Value.formed ja0 99 (PL z a b)=true:=by simp[Value.formed,PL,Tryz.underlying99,hc]
 have hl:Tryz.prog.keyLits (d+3) 99 [.int .i64 z,.int .i64 a,.int .i64 b]=some [.int .i64 z,.int .i64 a,.int .i64 b]:=by
  unfold Program.keyLits;simp only[Tryz.underlying99,hc,ja9,List.length_nil,Nat.reduceAdd];simp[hs,hi,e1,e2]
 unfold keyOf;simp only[Tryz.underlying99,hk,hd,hf,Bool.and_self,if_true];rw[show(PL z a b).cells.toList=[.int .i64 z,.int .i64 a,.int .i64 b]from rfl,hl];rfl
theorem XL{z a b z' a' b':Int}(hz:Wf z)(ha:Wf a)(hb:Wf b)(hz':Wf z')(ha':Wf a')(hb':Wf b')(h:klit z a b=klit z' a' b'):z=z'/\a=a'/\b=b':=by
 have e:=CJ.inj (Ms hz ha hb) (h▸Ms hz' ha' hb');simpa[PL]using e
theorem kV(w:World):Calls ja0 46 #[] w λe w'=>e=.returned (.agg #[.int .i64 (-1),.int .i64 (-1)])/\Below w w w':=by
 go_enter Tryz.func46,Tryz.ntmps46
 go_wp2;refine bodyPost_ret (v:=.agg #[.int .i64 (-1),.int .i64 (-1)]) (by simp[results,Tryz.results46,go_sem, *];first|done|exact⟨rfl,rfl⟩|rfl) rfl ⟨rfl,?_⟩;exact Z0
theorem JC(s:Re.St)(fl ap:Value)(ib:Bool)(W:World):(Instr.box 162 (.agg (GQ s fl ap ib))).run ja0 W=.ok (.pointer W) (W.alloc (.cells (GQ s fl ap ib) 162)):=by kernel_rfl
theorem F7{o:Oper}{a:Act}{W:World}{s:Re.St}{fl ap:Value}{ib:Bool}(p:Operand)(ho:o.op=.box 162 p)(hp:a.eval p=.agg (GQ s fl ap ib)):(execOp a.eval o).run ja0 W=.ok (.value (.pointer W)) (W.alloc (.cells (GQ s fl ap ib) 162)):=by
 unfold execOp;simp only[ho,hp,Sem.run_bind,JC,Result.andThen_ok,Sem.run_pure]
theorem PN{ops:Array Oper}{S:World->Prop}{o:Oper}{a:Act}(s:Re.St)(hw:Region.wanted o (yielded ops a.tmps)=true)(ps:Array (Nat×Operand))(ho:o.op=.build 162 ps)(hq:(ps.map λp=>(p.1,a.eval p.2))=#[(0,.agg (cells s)),(1,.agg #[s.c 3,s.c 4,s.c 7,s.c 8,s.c 11,s.c 12,s.c 5,s.c 6,s.c 9,s.c 10,s.c 13,s.c 14]),(2,.agg #[Fw.ed s 3,Fw.ed s 1,Fw.ed s 0,Fw.ed s 2])]):aj.Reads ja0 ops S o (.agg (GQ s (.slice none 0 0) (.slice none 0 0) false)) a:=by
 refine .inl ⟨hw,λw _ => ?_⟩;unfold execOp;simp only[ho,hq,Sem.run_bind,PK,Result.andThen_ok,Sem.run_pure]
theorem Mt(s:Re.St)(w:World):Calls ja0 81 #[.agg (cells s)] w λe w'=>(∃b,e=.returned (.pointer (some ⟨b,0,none⟩))/\w.heap.size<=b/\aL w' b s (.slice none 0 0) (.slice none 0 0) false)/\Below w w w':=by
 go_enter Tryz.func81,Tryz.ntmps81
 go_upto_region 1 with(fail)
 generalize hW:ja4 _ _=W0;have A1:At W0 w (.cells (cells s) 68):=hW▸At.new _ _;have hB:Below w w W0:=hW▸aB aD _;clear hW;have HA:=ah A1;have l1:=A1.lt;have c3:=A1.st 3 aG rfl;have c4:=A1.st 4 aG rfl;have c5:=A1.st 5 aG rfl;have c6:=A1.st 6 aG rfl;have c7:=A1.st 7 aG rfl;have c8:=A1.st 8 aG rfl;have c9:=A1.st 9 aG rfl;have c10:=A1.st 10 aG rfl;have c11:=A1.st 11 aG rfl;have c12:=A1.st 12 aG rfl;have c13:=A1.st 13 aG rfl;have c14:=A1.st 14 aG rfl;have hS0:Below W0 W0 W0.drew:=Below.drew aD;refine iC (S:=λW=>Below W0 W0 W) 22 ?_ ?_
 . exact hS0
 intro hS1;clear hS0;refine jh 0 rfl (eP aR (.tmp 1) rfl rfl (λW h=>At.keep HA.out h)) ?_;refine aF 1 ?_;refine aF 2 ?_;refine aF 3 ?_;refine aF 4 ?_;refine aF 5 ?_;refine aF 6 ?_;refine aF 7 ?_;refine aF 8 ?_;refine aF 9 ?_;refine aF 10 ?_;refine aF 11 ?_;refine aF 12 ?_;refine aF 13 ?_;refine aF 14 ?_;refine aF 15 ?_;refine jh 16 rfl (eP aR (.tmp 1) rfl rfl (λW h=>At.keep HA.out h)) ?_;refine tk1 17 ?_;refine aj.Step.call eD (Ec s _) ?_;rintro e w2 ⟨rfl,hb2⟩;refine⟨_,rfl,λ_=>Below.after hS1 hb2,?_⟩;replace hS1:=Below.after hS1 hb2;clear hb2
 (try simp only[bM,bN,bO,tks])
 refine tk1 18 ?_;refine aj.Step.call (by go_simp;first|done|with_reducible rfl|exact⟨⟨rfl,rfl,rfl,rfl⟩,rfl⟩) (sW _ _ _ _ _) ?_;rintro e w3 ⟨rfl,hb3⟩;refine⟨_,rfl,λ_=>Below.after hS1 hb3,?_⟩;replace hS1:=Below.after hS1 hb3;clear hb3
 (try simp only[bM,bN,bO,tks])
 refine jh 19 rfl (PN s aR _ rfl Wy) ?_;refine tk1 20 ?_;refine aj.Step.value (F7 (.tmp 22) rfl rfl) ?_;refine⟨λ_=>hS1.alloc hS1.size _,?_⟩;have hA2:aL (w3.alloc (.cells (GQ s (.slice none 0 0) (.slice none 0 0) false) 162)) w3.heap.size s (.slice none 0 0) (.slice none 0 0) false:=At.new _ _;have hle:=hS1.size;replace hS1:=hS1.alloc hS1.size (.cells (GQ s (.slice none 0 0) (.slice none 0 0) false) 162);generalize hbn:w3.heap.size=bn at *;generalize w3.alloc _=w4 at *
 (try simp only[bM,bN,bO,tks])
 refine aF 21 ?_;refine gZ ?_;go_wp2;refine bodyPost_ret (results_tmp rfl _ _ _) rfl ⟨⟨bn,rfl,aJ hB.size hle,hA2⟩,Below.ay hB aC hS1⟩
def RN(T:Tr.T):Nat->Int->Bool
 | 0,_=>true
 | f+1,z=>match T z with
   | none=>true
   | some nd=>(nd.sty.c 0 != 3)&&RN T f nd.up
theorem F8(s:Re.St)(W:World):(Instr.field 68 (.agg (cells s)) 0).run ja0 W=.ok (.int .i64 (s.c 0)) W:=by kernel_rfl
noncomputable def uj(T:Tr.T)(z:Int):Nat:=@dite Nat (∃m,Tr.Dp T z m) (Classical.propDecidable _) (λh=>h.choose+1) (λ_=>0)
theorem qO{T:Tr.T}{m:Nat}(h:Tr.Dp T z m):uj T z=m+1:=by
 have e:∃m,Tr.Dp T z m:=⟨m,h⟩;unfold uj;rw[dif_pos e,e.choose_spec.WU h]
theorem Oy{T:Tr.T}(h:T z=none):uj T z=0:=by
 unfold uj;refine dif_neg ?_;rintro⟨m,hm⟩;obtain⟨nd,hn⟩:=hm.live;rw[h]at hn;cases hn
section
variable {w:World} {t n:Nat} {L:Lay} {T:Tr.T}
theorem Mv(h:dQ w t L T n)(hr:∀nd,T 0=some nd->nd.up = -1){d:Nat}(hd:Tr.Dp T z d):Calls ja0 42 #[t,z] w λe w'=>e=.returned (.bool (RN T (d+1) z))/\Below w w w':=by
 have hm:T (-1)=none:=by
  exact Z29
 obtain⟨nd0,hT0⟩:=hd.live;have XM:=eZ h (h.wf hT0);rw[hT0]at XM;have HR:=ah h;have GH:=ah hr;have HD:=ah hd;obtain⟨ans,eF⟩:∃x,Hid (RN T (d+1) z=x):=⟨_,ah rfl⟩;rw[eF.out];clear h hr hd hT0;go_enter Tryz.func42,Tryz.ntmps42
 go_wp2_with (go_at_call 59;(with_reducible refine XM.mono ?_);rintro e w' ⟨rfl,rfl⟩)
 go_loopw [1] (λi wr=>((∃(y:Int) (m:Nat),i=.int .i64 y/\Tr.Dp T y m/\RN T (m+1) y=ans)\/(i=.int .i64 (-1)/\ans=true))/\Below w w wr) (λi _=>uj T (intOf i))
 case atStart=>exact⟨.inl ⟨z,d,rfl,HD.out,eF.out⟩,Below.refl _ _⟩
 case round =>
  obtain⟨hrel,hB⟩:=hrel;rcases hrel with⟨y,m,rfl,hD,hs⟩|⟨rfl,rfl⟩
  . obtain⟨nd,hT⟩:=hD.live
    have h1:=HR.out.after hB;have key:=eZ h1 (h1.wf hT);have key2:=dH h1 (h1.wf hT);rw[hT]at key key2;have HB:=ah hB;have Rc:=ah hD;have PO:=ah hs;have HT:=ah hT;have H1:=ah h1;have hfd:=F8 nd.sty;have ql:=λX (hb:Below wr wr X)=>nZ (h1.after hb) (h1.wf hT);have hu:Hid (iX T y=nd.up):=ah (by unfold iX;rw[hT]);generalize iX T y=u at *;clear hB hD hs h1 hT;simp only[Option.elim_some]at key2;cases hc:(nd.sty.c 0==3)
    . have HC:=ah hc
      go_wp2_with (first|(go_at_call 59;(with_reducible refine key.mono ?_);rintro e w' ⟨rfl,rfl⟩)|(go_at_call 22;(with_reducible refine key2.mono ?_);rintro e w2 ⟨rfl,hb2⟩)|(go_at_call 21;(with_reducible refine(ql _ hb2).mono ?_);rintro e w' ⟨rfl,rfl⟩))
      have hs:=PO.out;have hne:(nd.sty.c 0 != 3)=true:=by simp only[bne,HC.out];rfl
      have hB2:Below w w w2:=Below.ay HB.out aC hb2;rw[hu.out];have hsh:RN T (m+1) y=RN T m nd.up:=by
       show(match T y with|none=>true|some nd=>(nd.sty.c 0 != 3)&&RN T m nd.up)=_;rw[HT.out];simp only[hne,Bool.true_and]
      rw[hsh]at hs;exact Zg
    . go_wp2_with (first|(go_at_call 59;(with_reducible refine key.mono ?_);rintro e w' ⟨rfl,rfl⟩)|(go_at_call 22;(with_reducible refine key2.mono ?_);rintro e w2 ⟨rfl,hb2⟩))
      go_ret
      refine⟨dF ?_,Below.ay HB.out aC hb2⟩;rw[<-PO.out];show false=(match T y with|none=>true|some nd=>(nd.sty.c 0 != 3)&&RN T m nd.up);rw[HT.out];simp only[bne,hc];rfl
  . exact Z2b
end
def Apart(v u:Value):Prop:=v.ownBlock=none\/u.ownBlock=none\/v.ownBlock≠u.ownBlock
theorem Apart.symm{v u:Value}(h:Apart v u):Apart u v:=by
 rcases h with h|h|h
 . exact .inr (.inl h)
 . exact .inl h
 . exact .inr (.inr (Ne.symm h))
theorem xB{W:World}{base k m:Nat}{v u:Value}{xs ys:List Int}(x:Int)(hu:W.ownsRow base 3 1 u k (xs.map (Value.int .i64)))(hv:W.ownsRow base 3 1 v m (ys.map (Value.int .i64)))(ha:Apart v u)(hbase:base<=W.heap.size)(hk:k<=10000) :
  ∃g c w',(Builtin.append_ #[37,37] 37 #[u,.slice W 1 1]).run ja0 (W.alloc (.cells #[x] 3))=.ok (.slice (some ⟨g,0,none⟩) (k+1) c) w' /\
   w'.ownsRow base 3 1 (.slice g (k+1) c) (k+1) ((xs++[x]).map (Value.int .i64))/\w'.ownsRow base 3 1 v m (ys.map (Value.int .i64))/\Apart v (.slice g (k+1) c)/\Below base W w'/\base<=w'.heap.size:=by
 obtain⟨i0,hi0,hz0,hz1,hz2⟩:=info_parts intZero
 obtain⟨v',w',hr,ho,hg,_,hblk⟩:=run_append_own_at (P:=ja0) (w:=W.alloc (.cells #[x] 3)) base 37 37 3 i0 (.int .i64 0) 1 8 Tryz.underlying37 hi0 hz0 hz1 hz2 rfl aG u k _ (hu.alloc _) ⟨W,0,none⟩ 1 1 [.int .i64 x] rfl
  (by intro j u hj
      match j,hj with
      | 0,hj=>simp at hj;subst hj;simp[Addr.add])
  Kv Oi ak iJ
 obtain⟨g,c,rfl⟩:=ownsRow_succ ho;have hv2:=hv.alloc (.cells #[x] 3);have hB:Below base W w':=(Below.alloc (Below.refl base W) hbase _).grown hg iJ (λj ej=>(hu.lt j ej).1);have hvb:v.ownBlock=none\/v.ownBlock≠u.ownBlock:=by
  exact Z34
 refine⟨g,c,w',hr,by rw[List.map_append];exact ho,hv2.kept hg hvb,?_,hB,?_⟩
 . exact Z2i
 . have:=hg.size
   simp at this;omega
def bQ(T:Tr.T)(z:Int):Re.St:=(T z).elim Re.zero (·.sty)
def oW(s:Re.St):Bool:=s.c 1==2||s.c 1==3
def pF(T:Tr.T)(l:List Int):List Int:=l.filter λk=>((bQ T k).c 0 != 3) && !oW (bQ T k)
def qj(T:Tr.T)(l:List Int):List Int:=l.filter λk=>((bQ T k).c 0 != 3)&&oW (bQ T k)
theorem IW(T:Tr.T)(l:List Int)(k:Nat)(h:l.length<=5000):(pF T (l.take k)).length<=10000:=by
 unfold pF;have:=List.length_filter_le (λk=>((bQ T k).c 0 != 3) && !oW (bQ T k)) (l.take k);rw[jc9]at this;omega
theorem IX(T:Tr.T)(l:List Int)(k:Nat)(h:l.length<=5000):(qj T (l.take k)).length<=10000:=by
 unfold qj;have:=List.length_filter_le (λk=>((bQ T k).c 0 != 3)&&oW (bQ T k)) (l.take k);rw[jc9]at this;omega
theorem uT{k L:Nat}(h:k<L):L-(intOf (.int .i64 ((k:Int)+1))).toNat<L-(intOf (.int .i64 (k:Int))).toNat:=by simp[intOf];omega
section
variable {w:World} {t n:Nat} {L:Lay} {T:Tr.T}
theorem Uv(h:dQ w t L T n){nd:Tr.Nd}(hT:T z=some nd)(ks:List Int)(hks:nd.kids=ks)(hk:∀x∈ks,∃xd,T x=some xd)(hl:ks.length<=5000):Calls ja0 82 #[t,z] w λe w'=>(∃v u,e=.returned (.tuple #[v,u])/\w'.ownsRow w.heap.size 3 1 v (pF T ks).length ((pF T ks).map (Value.int .i64))/\w'.ownsRow w.heap.size 3 1 u (qj T ks).length ((qj T ks).map (Value.int .i64))/\Apart v u)/\Below w w w':=by
 have qC:=Hg h (h.wf hT);rw[hT]at qC;simp only[Option.elim_some,hks]at qC;clear hks;have HR:=ah h;have HK:=ah hk;have HL:=ah hl;clear h hk hl;go_enter Tryz.func82,Tryz.ntmps82
 go_upto_region 2 with(go_at_call 28;(with_reducible refine qC.mono ?_);rintro e w1 ⟨⟨v1,rfl,ho1⟩,hb1⟩;obtain⟨A1,c1,rfl,hI1,_,_,akA⟩:=KS.ints (dP ho1 oI))
 have HI:=ah hI1;have HB1:=ah hb1;have hw1:=hb1.size;clear ho1 qC hb1;clear hT
 go_loopw [4,5,13] (λf a i wr=>∃(k:Nat),k<=ks.length/\i=.int .i64 (k:Nat)/\wr.ownsRow w1.heap.size 3 1 f (pF T (ks.take k)).length ((pF T (ks.take k)).map (Value.int .i64))/\wr.ownsRow w1.heap.size 3 1 a (qj T (ks.take k)).length ((qj T (ks.take k)).map (Value.int .i64))/\Apart f a/\Below w1 w1 wr) (λ_ _ i _=>ks.length-(intOf i).toNat)
 case atStart=>exact⟨0,by omega,rfl,by simpa[pF]using World.ownsRow_nil _ _ _ _,by simpa[qj]using World.ownsRow_nil _ _ _ _,.inl rfl,Below.refl _ _⟩
 case round =>
  obtain⟨k,hkl,rfl,hv,hu,hap,hB⟩:=hrel;by_cases hlt:k<ks.length
  . obtain⟨b0,o0,Ue,l0,c0⟩:=(HI.out.after hB).at_ (k:=k) hlt
    subst Ue;obtain⟨x,hx⟩:=aA (ks.getD k 0);rw[hx]at c0;have hxx:ks[k]=x:=by rw[<-hx,jb8,ja6 hlt];rfl
    obtain⟨xd,hxd⟩:=HK.out x (hxx▸List.getElem_mem _);have h1:=(HR.out.after HB1.out).after hB;have key2:=dH h1 (h1.wf hxd);have hst:(T x).elim Re.zero (·.sty)=bQ T x:=rfl;rw[hst]at key2;have htk:ks.take (k+1)=ks.take k++[x]:=by rw[List.take_succ_eq_append_getElem hlt,hxx]
    have SL:pF T (ks.take (k+1))=pF T (ks.take k)++pF T [x]:=by rw[htk];simp[pF]
    have IV:qj T (ks.take (k+1))=qj T (ks.take k)++qj T [x]:=by rw[htk];simp[qj]
    have SQ:pF T [x]=if ((bQ T x).c 0 != 3 && !oW (bQ T x))=true then [x]else []:=by simp[pF,List.filter];split<;>simp_all
    have SS:qj T [x]=if ((bQ T x).c 0 != 3&&oW (bQ T x))=true then [x]else []:=by simp[qj,List.filter];split<;>simp_all
    generalize bQ T x=sx at *;clear h1;cases e0:(sx.c 0==3)
    . cases e2:(sx.c 1==2)
      . cases e3:(sx.c 1==3)
        . have hwk:wrap64 ((k:Int)+1)=(k:Int)+1:=by have:=HL.out;exact IntWalk.wrap64_in _ ak
          have Db:=ah hlt;have n0:(sx.c 0 != 3)=true:=by simp only[bne,e0];rfl
          have no:oW sx=false:=by unfold oW;rw[e2,e3];rfl
          have HKF:Hid (pF T (ks.take (k+1))=pF T (ks.take k)++[x]):=ah (by rw[SL,SQ,if_pos (by rw[n0,no];rfl)]);have HKA:Hid (qj T (ks.take (k+1))=qj T (ks.take k)):=ah (by rw[IV,SS,if_neg (by rw[n0,no];decide),List.append_nil]);clear SL IV SQ SS
          go_upto_region 4 with(fail)
          go_upto_region 6 with(first|(go_at_call 22;(with_reducible refine key2.mono ?_);rintro e w2 ⟨rfl,hb2⟩)|(refine aS aR rfl ?_)|(refine bE aR rfl ?_)|(refine aQ aR _ rfl rfl oC ?_)|(refine bF aR _ _ rfl rfl rfl oC ?_)|(refine aU aR _ _ rfl rfl rfl oC ?_))
          (try simp only[bM,bN,bO,tks])
          generalize hW:World.setRow _ _ _=w3;have A3:At w3 w2 (.cells (cells sx) 68):=by rw[<-hW];exact At.setRow (At.new w2 (.cells (cells Re.zero) 68)) (cells sx)
          have hb3:Below wr wr w3:=by rw[<-hW];exact below_setRow (hb2.alloc hb2.size (.cells (cells Re.zero) 68)) hb2.size (cells sx)
          clear hW;have hv3:=bG (M:=λ_=>False) hv (λ_ _ q=>q) (Out.of_below hb3);have hu3:=bG (M:=λ_=>False) hu (λ_ _ q=>q) (Out.of_below hb3);have hB3:Below w1 w1 w3:=Below.ay hB aC hb3;have l3:=A3.lt;have d0:=A3.st 0 aG rfl;have d1:=A3.st 1 aG rfl;have hlen1:(pF T (ks.take k)).length<=10000:=IW T ks k HL.out;have Wz:(qj T (ks.take k)).length<=10000:=IX T ks k HL.out;obtain⟨g,c,w4,hr,ho4,hp4,ha4,hb4,hs4⟩:=xB x hv3 hu3 hap.symm (by have:=hB3.size;omega) hlen1;have HRR:=ah hr;clear hr
          go_wp2_with (at_builtin;refine wpList_append_run aR _ _ 37 rfl rfl rfl HRR.out ?_)
          (try simp only[bM,bN,bO,tks])
          (try simp only[Act.put,ja1,ja2,ja3,jc4,Array.getD_eq_getD_getElem?])
          go_roundw
          case rel =>
           refine⟨k+1,Nat.succ_le_of_lt Db.out,?_,?_⟩
           . exact Z2w
           . rw[HKF.out,HKA.out]
             exact⟨by rw[List.length_append];exact ho4,hp4,ha4.symm,hB3.trans hb4⟩
          case measure =>
           exact Z1s
        . have hwk:wrap64 ((k:Int)+1)=(k:Int)+1:=by have:=HL.out;exact IntWalk.wrap64_in _ ak
          have Db:=ah hlt;have n0:(sx.c 0 != 3)=true:=by simp only[bne,e0];rfl
          have no:oW sx=true:=by unfold oW;rw[e2,e3];rfl
          exact Z7
      . have hwk:wrap64 ((k:Int)+1)=(k:Int)+1:=by have:=HL.out;exact IntWalk.wrap64_in _ ak
        have Db:=ah hlt;have n0:(sx.c 0 != 3)=true:=by simp only[bne,e0];rfl
        have no:oW sx=true:=by unfold oW;rw[e2];rfl
        exact Z7
    . have hwk:wrap64 ((k:Int)+1)=(k:Int)+1:=by have:=HL.out;exact IntWalk.wrap64_in _ ak
      have Db:=ah hlt;have n0:(sx.c 0 != 3)=false:=by simp only[bne,e0];rfl
      have HKF:Hid (pF T (ks.take (k+1))=pF T (ks.take k)):=ah (by rw[SL,SQ,if_neg (by rw[n0];simp),List.append_nil]);have HKA:Hid (qj T (ks.take (k+1))=qj T (ks.take k)):=ah (by rw[IV,SS,if_neg (by rw[n0];simp),List.append_nil]);clear SL IV SQ SS
      go_upto_region 4 with(fail)
      go_upto_region 6 with(first|(go_at_call 22;(with_reducible refine key2.mono ?_);rintro e w2 ⟨rfl,hb2⟩)|(refine aS aR rfl ?_)|(refine bE aR rfl ?_)|(refine aQ aR _ rfl rfl oC ?_)|(refine bF aR _ _ rfl rfl rfl oC ?_)|(refine aU aR _ _ rfl rfl rfl oC ?_))
      (try simp only[bM,bN,bO,tks])
      generalize hW:World.setRow _ _ _=w3;have A3:At w3 w2 (.cells (cells sx) 68):=by rw[<-hW];exact At.setRow (At.new w2 (.cells (cells Re.zero) 68)) (cells sx)
      have hb3:Below wr wr w3:=by rw[<-hW];exact below_setRow (hb2.alloc hb2.size (.cells (cells Re.zero) 68)) hb2.size (cells sx)
      clear hW;have hv3:=bG (M:=λ_=>False) hv (λ_ _ q=>q) (Out.of_below hb3);have hu3:=bG (M:=λ_=>False) hu (λ_ _ q=>q) (Out.of_below hb3);have hB3:Below w1 w1 w3:=Below.ay hB aC hb3;have l3:=A3.lt;have d0:=A3.st 0 aG rfl;have d1:=A3.st 1 aG rfl;have hlen1:(pF T (ks.take k)).length<=10000:=IW T ks k HL.out;have Wz:(qj T (ks.take k)).length<=10000:=IX T ks k HL.out;go_wp2
      (try simp only[bM,bN,bO,tks])
      (try simp only[Act.put,ja1,ja2,ja3,jc4,Array.getD_eq_getD_getElem?])
      go_roundw
      case rel =>
       refine⟨k+1,Nat.succ_le_of_lt Db.out,?_,?_⟩
       . exact Z2w
       . rw[HKF.out,HKA.out]
         exact⟨hv3,hu3,hap,hB3⟩
      case measure =>
       exact Z1s
  . obtain rfl:k=ks.length:=by omega
    rw[List.take_length]at hv hu;go_wp2;refine bodyPost_ret (v:=.tuple #[_,_]) (by simp[results,Tryz.results82,go_sem];first|done|exact⟨rfl,rfl⟩|rfl) rfl ⟨⟨_,_,rfl,dP hv hw1,dP hu hw1,hap⟩,Below.ay HB1.out aC hB⟩
end
end Go.Proofs.YtdnggaapcgomhaaGreat.Fix
namespace Go.Proofs.YtdnggaapcgomhaaGreat
namespace Fl
open Ieee Go
variable {n:Nat}
def W(s:Bool)(n:Nat):Nat:=double.nearest s n 0
def sg(s:Bool)(n:Nat):Int:=if s then -(n:Int)else n
def R(n:Nat):Nat:=if n=0 then 0 else (n.log2+1022)*4503599627370496+n*2^(52-n.log2)
theorem Ee(n k:Nat)(h:n≠0):(n*2^k).log2=n.log2+k:=by
 have h1:=Nat.log2_self_le h;have h2:=Nat.lt_log2_self (n:=n);have hp:0<2^k:=Nat.two_pow_pos k;rw[Nat.log2_eq_iff (Nat.mul_ne_zero h ak)];rw[Nat.pow_add,show n.log2+k+1=(n.log2+1)+k by omega,Nat.pow_add];exact⟨Nat.mul_le_mul_right _ h1,Nat.mul_lt_mul_of_pos_right h2 hp⟩
theorem rC(h0:n≠0)(h:n<9007199254740992):n.log2<=52:=by
 have:=(Nat.log2_lt (k:=53) h0).2 h;omega
theorem XO(s:Bool)(n:Nat):Toward.even.cut s n 0=n:=by
 unfold Toward.cut;simp[Nat.mod_one]
theorem Uw(s:Bool)(n d:Nat)(h0:n≠0):Toward.even.cut s (n*2^d) d=n:=by
 unfold Toward.cut;have hm:min d ((n*2^d).log2+2)=d:=by rw[Ee n d h0];omega
 have hp:0<2^d:=Nat.two_pow_pos d;simp only[hm,Nat.one_shiftLeft,Nat.mul_mod_left,Nat.mul_div_left _ hp,Nat.mul_zero];have h1:decide (2^d<0)=false:=by simp
 have h2:(2^d==0)=false:=by simp
 rw[h1,h2];simp
theorem abD(h0:n≠0)(h:n<9007199254740992):4503599627370496<=n*2^(52-n.log2)/\n*2^(52-n.log2)<9007199254740992:=by
 have hl:=rC h0 h;have h1:=Nat.log2_self_le h0;have h2:=Nat.lt_log2_self (n:=n);have e1:2^n.log2*2^(52-n.log2)=4503599627370496:=by rw[<-Nat.pow_add,show n.log2+(52-n.log2)=52 by omega]
 have e2:2^(n.log2+1)*2^(52-n.log2)=9007199254740992:=by rw[<-Nat.pow_add,show n.log2+1+(52-n.log2)=53 by omega]
 constructor
 . rw[<-e1];exact Nat.mul_le_mul_right _ h1
 . rw[<-e2];exact Nat.mul_lt_mul_of_pos_right h2 (Nat.two_pow_pos _)
theorem aiM(h0:n≠0)(h:n<9007199254740992):(n.log2+1022)*4503599627370496+n*2^(52-n.log2)<=2047*4503599627370496:=by
 obtain⟨b1,b2⟩:=abD h0 h;have hl:=rC h0 h;generalize n*2^(52-n.log2)=x at *;omega
theorem PS(s:Bool)(n k:Nat)(h:n<9007199254740992):double.nearest s (n*2^k) (-(k:Int))=double.word s (R n):=by
 by_cases h0:n=0
 . subst h0;simp[Format.nearest,R]
 have hl:=rC h0 h;obtain⟨b1,b2⟩:=abD h0 h;have hp:0<2^k:=Nat.two_pow_pos k;have hne:n*2^k≠0:=Nat.mul_ne_zero h0 ak;unfold Format.nearest;rw[if_neg hne];simp only[Ee n k h0];have hfb:double.fractionBits=52:=rfl;have hlp:double.leastPlace = -1074:=by decide
 have hbi:double.binade=4503599627370496:=rfl;have hin:double.infRung=2047*4503599627370496:=by decide
 rw[hfb,hlp,hbi,hin];have hlast:max (-(k:Int)+((n.log2+k:Nat):Int)-((52:Nat):Int)) (-1074)=(n.log2:Int)-52:=by omega
 rw[hlast];have hkept:Toward.even.cut s ((n*2^k) <<< (-(k:Int)-((n.log2:Int)-52)).toNat) ((n.log2:Int)-52 - -(k:Int)).toNat=n*2^(52-n.log2):=by
  by_cases hk:k<=52-n.log2
  . rw[show((n.log2:Int)-52 - -(k:Int)).toNat=0 by omega,XO,show(-(k:Int)-((n.log2:Int)-52)).toNat=52-n.log2-k by omega,Nat.shiftLeft_eq,Nat.mul_assoc,<-Nat.pow_add]
    congr 2;omega
  . rw[show(-(k:Int)-((n.log2:Int)-52)).toNat=0 by omega,Nat.shiftLeft_zero]
    have e:n*2^k=n*2^(52-n.log2)*2^(((n.log2:Int)-52 - -(k:Int)).toNat):=by
     rw[Nat.mul_assoc,<-Nat.pow_add];congr 2;omega
    rw[e];exact Uw s _ _ ak
 rw[hkept];unfold R;rw[if_neg h0,show((n.log2:Int)-52 - -1074).toNat=n.log2+1022 by omega];rw[Nat.min_eq_left (aiM h0 h)]
theorem adU(s:Bool)(h:n<9007199254740992):W s n=double.word s (R n):=by
 have:=PS s n 0 h;simpa[W]using this
def Val(d:Datum)(s:Bool)(n:Nat):Prop:=∃k:Nat,d=.number s (n*2^k) (-(k:Int))
theorem af7(h:n<9007199254740992):R n<9223372036854775808:=by
 unfold R;split
 . decide
 . rename_i h0
   obtain⟨b1,b2⟩:=abD h0 h;have hl:=rC h0 h;have:(n.log2+1022)*4503599627370496<=1074*4503599627370496:=Nat.mul_le_mul_right _ ak;omega
theorem PU(s:Bool)(h:n<9007199254740992):Val (double.read (W s n)) s n:=by
 have hR:=af7 h;rw[adU s h];have hsw:double.signWeight=9223372036854775808:=by decide
 have e1:((double.word s (R n))/double.signWeight%2==1)=s:=by
  unfold Format.word;rw[hsw];cases s
  . rw[if_neg aG,Nat.div_eq_of_lt hR];rfl
  . rw[if_pos rfl,Nat.add_div_left _ aG,Nat.div_eq_of_lt hR];rfl
 have e2:(double.word s (R n))%double.signWeight=R n:=by
  unfold Format.word;rw[hsw];cases s
  . rw[if_neg aG,Nat.mod_eq_of_lt hR]
  . rw[if_pos rfl,Nat.add_mod_left,Nat.mod_eq_of_lt hR]
 unfold Format.read;simp only[e1,e2];have hbi:double.binade=4503599627370496:=rfl;have hin:double.infRung=2047*4503599627370496:=by decide
 have hlp:double.leastPlace = -1074:=by decide
 rw[hbi,hin,hlp];by_cases h0:n=0
 . subst h0
   have e0:R 0=0:=rfl;rw[e0,if_pos aG];obtain⟨k,hk⟩:∃k:Nat,k=1074:=⟨_,rfl⟩;refine⟨k,?_⟩;rw[Nat.zero_mul,hk];rfl
 . obtain⟨b1,b2⟩:=abD h0 h
   have hl:=rC h0 h;have e:R n=(n.log2+1022)*4503599627370496+n*2^(52-n.log2):=by unfold R;rw[if_neg h0]
   have:(n.log2+1022)*4503599627370496<=1074*4503599627370496:=Nat.mul_le_mul_right _ ak;rw[if_neg ak,if_pos ak];refine⟨52-n.log2,?_⟩;generalize hx:n*2^(52-n.log2)=x at *;have em:R n%4503599627370496=x-4503599627370496:=by rw[e];omega
   have ed:R n/4503599627370496=n.log2+1023:=by rw[e];omega
   rw[em,ed,show 4503599627370496+(x-4503599627370496)=x by omega,show(-1074:Int)+((n.log2+1023-1:Nat):Int) = -((52-n.log2:Nat):Int)by omega]
theorem Hq(s:Bool)(n k:Nat):signed s n k=sg s n*2^k:=by
 unfold signed sg;rw[Nat.shiftLeft_eq];cases s<;>simp[Int.neg_mul]
theorem Ht(s:Bool)(n k M:Nat)(h:k<=M):signed s (n*2^k) (M-k)=sg s n*2^M:=by
 rw[Hq];have:((2:Int)^M)=2^k*2^(M-k):=by rw[<-Int.pow_add];congr 1;omega
 rw[this];unfold sg;cases s<;>simp[Int.mul_assoc,Int.neg_mul]
theorem Ux{d e:Datum}{s t:Bool}{n m:Nat}(hd:Val d s n)(he:Val e t m):d.order e=some (compare (sg s n) (sg t m)):=by
 obtain⟨k,rfl⟩:=hd;obtain⟨j,rfl⟩:=he;unfold Datum.order;have hb:min (-(k:Int)) (-(j:Int)) = -((max k j:Nat):Int):=by omega
 simp only[hb];have e1:(-(k:Int) - -((max k j:Nat):Int)).toNat=max k j-k:=by omega
 have e2:(-(j:Int) - -((max k j:Nat):Int)).toNat=max k j-j:=by omega
 rw[e1,e2,Ht _ _ _ _ ak,Ht _ _ _ _ ak];have hp:(0:Int)<2^(max k j):=Int.pow_pos aG;generalize sg s n=x;generalize sg t m=y;congr 1;have hl:∀a b:Int,a*2^max k j<b*2^max k j↔a<b:=λa b=>⟨λh=>Int.lt_of_mul_lt_mul_right h (Int.le_of_lt hp),λh=>Int.mul_lt_mul_of_pos_right h hp⟩;rcases Int.lt_trichotomy x y with h|h|h
 . rw[Int.compare_eq_lt.2 h,Int.compare_eq_lt.2 ((hl _ _).2 h)]
 . subst h;simp
 . rw[Int.compare_eq_gt.2 h,Int.compare_eq_gt.2 ((hl _ _).2 h)]
theorem Uy{d:Datum}{s:Bool}(hd:Val d s n):d.toInt .zero=some (sg s n):=by
 obtain⟨k,rfl⟩:=hd;unfold Datum.toInt Datum.integral;simp only;rw[show(-(k:Int)).toNat=0 by omega,show(- -(k:Int)).toNat=k by omega,Nat.shiftLeft_zero];have:Toward.zero.cut s (n*2^k) k=n:=by
  unfold Toward.cut;by_cases h0:n=0
  . subst h0;simp
  . have hm:min k ((n*2^k).log2+2)=k:=by rw[Ee n k h0];omega
    simp[hm,Nat.one_shiftLeft,Nat.mul_div_left _ (Nat.two_pow_pos k)]
 rw[this,Hq];simp
def Has(b:Nat)(z:Int):Prop:=∃s n,n<9007199254740992/\b=W s n/\sg s n=z
theorem adV(z:Int):sg (decide (z<0)) z.natAbs=z:=by
 unfold sg;by_cases h:z<0
 . simp[h];omega
 . simp[h];omega
theorem adW(z:Int):FloatKind.f64.nearest z=W (decide (z<0)) z.natAbs:=rfl
theorem Mw{z:Int}(h1 : -9007199254740992<z)(h2:z<9007199254740992):Has (FloatKind.f64.nearest z) z :=
 ⟨_,_,by omega,adW z,adV z⟩
theorem wI{a b:Nat}{x y:Int}(ha:Has a x)(hb:Has b y):FloatKind.f64.format.order a b=some (compare x y):=by
 obtain⟨s,n,hn,rfl,rfl⟩:=ha;obtain⟨t,m,hm,rfl,rfl⟩:=hb;exact Ux (PU s hn) (PU t hm)
theorem JD{a:Nat}{x:Int}(ha:Has a x):floatToIntVal .f64 a .i64=some x:=by
 have ha':=ha;obtain⟨s,n,hn,rfl,rfl⟩:=ha;have e:(FloatKind.f64.decode (W s n)).toInt .zero=some (sg s n):=Uy (PU s hn);unfold floatToIntVal;rw[e];dsimp only;have b1:IntKind.i64.min<=sg s n:=by
  have:IntKind.i64.min = -9223372036854775808:=rfl;rw[this];unfold sg;cases s<;>simp<;>omega
 have b2:sg s n<=IntKind.i64.max:=by
  have:IntKind.i64.max=9223372036854775807:=rfl;rw[this];unfold sg;cases s<;>simp<;>omega
 rw[if_pos ⟨b1,b2⟩]
theorem adX(s:Bool)(n:Nat):sg (!s) n = -sg s n:=by unfold sg;cases s<;>simp
theorem RP{r:Nat}(h:r<9223372036854775808):r ^^^ 9223372036854775808=9223372036854775808+r:=by
 have e:(9223372036854775808:Nat)=2^63:=by decide
 rw[e]at *;apply Nat.eq_of_testBit_eq;intro j;rw[Nat.testBit_xor];rcases Nat.lt_trichotomy j 63 with hj|hj|hj
 . rw[Nat.testBit_two_pow_add_gt hj,Nat.testBit_two_pow,decide_eq_false ak,Bool.xor_false]
 . subst hj;rw[Nat.testBit_two_pow_add_eq,Nat.testBit_two_pow];cases r.testBit 63<;>rfl
 . have h0:2^63<=2^j:=Nat.pow_le_pow_right aG ak
   have h1:r.testBit j=false:=Nat.testBit_lt_two_pow (aT h h0)
   have h2:(2^63+r).testBit j=false:=Nat.testBit_lt_two_pow (by
    have:2^64<=2^j:=Nat.pow_le_pow_right aG ak;have e2:(2^64:Nat)=2^63+2^63:=by decide
    rw[e2]at this;generalize (2^63:Nat)=c at *
    omega)
   rw[h1,h2,Nat.testBit_two_pow,decide_eq_false ak,Bool.xor_false]
theorem CK{a:Nat}{x:Int}(ha:Has a x):Has (Op.negFloat .f64 a) (-x):=by
 obtain⟨s,n,hn,rfl,rfl⟩:=ha;have hR:=af7 hn;refine⟨!s,n,hn,?_,adX s n⟩;rw[adU _ hn,adU _ hn];have hsw:double.signWeight=9223372036854775808:=by decide
 have e:Op.negFloat .f64 (double.word s (R n))=double.word s (R n) ^^^ 9223372036854775808:=rfl;rw[e];unfold Format.word;rw[hsw];cases s
 . exact RP hR
 . show(9223372036854775808+R n) ^^^ 9223372036854775808=R n
   rw[<-RP hR,Nat.xor_assoc,Nat.xor_self,Nat.xor_zero]
def fb(z:Int):Nat:=FloatKind.f64.nearest (Fx.cut z)
theorem qD(z:Int):Has (fb z) (Fx.cut z):=by
 have h1:=Fx.dU z;have h2:=Fx.fU z;exact Mw ak ak
theorem XP(a b:Int):FloatKind.f64.format.order (fb a) (fb b)=some (compare (Fx.cut a) (Fx.cut b)):=wI (qD a) (qD b)
theorem ac7(a b:Int):(FloatKind.f64.format.order (fb a) (fb b)==some .eq)=decide (Fx.cut a=Fx.cut b):=by
 rw[XP];by_cases h:Fx.cut a=Fx.cut b
 . rw[h];simp
 . rcases Int.lt_or_gt_of_ne h with g|g
   . rw[Int.compare_eq_lt.2 g];simp[h]
   . rw[Int.compare_eq_gt.2 g];simp[h]
end Fl
end Go.Proofs.YtdnggaapcgomhaaGreat
namespace Go.Proofs.YtdnggaapcgomhaaGreat.Fix
open Go.ChangeShapes Go.WideShapes Go.ChangeAt Go.RowKit
open Go.Proofs.Tryz renaming prog → ja0
section
open Fl
variable {b c:Nat}{x y:Int}
def pt(x y:Int):Value:=.complex .f64 (fb x) (fb y)
theorem CO:(Value.complex .f64 0 0)=pt 0 0:=by
 unfold pt;rw[show fb 0=0 from by decide]
theorem XQ(op:BinOp)(t:TypeId)(x y:Operand)(a b:Int)(v:Value):eqGuard op t x y (pt a b) v=pure ():=by cases op<;>rfl
theorem PV{P:Program}(t:TypeId)(a b c d:Int)(w:World):(binOp .eql t (pt a b) (pt c d)).run P w=.ok (.bool (decide (Fx.cut a=Fx.cut c)&&decide (Fx.cut b=Fx.cut d))) w:=by
 unfold pt;rw[run_eql_complex,ac7,ac7]
theorem F9{b:Nat}{x:Int}(w:World)(h:Has b x)(h1 : -1099511627776<=x)(h2:x<=1099511627776) :
  Calls ja0 132 #[.float .f64 b] w λe w'=>e=.returned (.bool true)/\w=w':=by
 have hlo:Has 14010698440749613056 (-1099511627776):=⟨true,1099511627776,by decide,by decide,by decide⟩;have hhi:Has 4787326403894837248 1099511627776:=⟨false,1099511627776,by decide,by decide,by decide⟩;have o1:(FloatKind.f64.format.order 14010698440749613056 b==some .lt||FloatKind.f64.format.order 14010698440749613056 b==some .eq)=true:=by
  rw[wI hlo h];rcases Int.lt_or_eq_of_le h1 with g|g
  . rw[Int.compare_eq_lt.2 g];rfl
  . subst g;rfl
 have o2:(FloatKind.f64.format.order b 4787326403894837248==some .lt||FloatKind.f64.format.order b 4787326403894837248==some .eq)=true:=by
  rw[wI h hhi];rcases Int.lt_or_eq_of_le h2 with g|g
  . rw[Int.compare_eq_lt.2 g];rfl
  . subst g;rfl
 have o3:(FloatKind.f64.format.order b (floatOfInt .f64 x)==some .eq)=true:=by
  rw[show FloatKind.f64.format.order b (floatOfInt .f64 x)=some (compare x x)from wI h (Mw ak ak)];simp
 have hc:=JD h;have hop:∀w,(convert 110 3 (.float .f64 b)).run ja0 w=.ok (.int .i64 x) w:=λw=>run_convert_float_int w 110 3 .f64 .i64 b x (by rw[Tryz.underlying110];rfl) Tryz.underlying3 hc;clear hc hlo hhi;go_enter Tryz.func132,Tryz.ntmps132
 go_wp2_with (simp only[hop])
 all_goals
  exact Zv
theorem Uz(w:World)(hb:Has b x)(hc:Has c y)(x1 : -1099511627776<=x)(x2:x<=1099511627776)(y1 : -1099511627776<=y)(y2:y<=1099511627776) :
  Calls ja0 99 #[.complex .f64 b c] w λe w'=>e=.returned (.bool true)/\w=w':=by
 go_enter Tryz.func99,Tryz.ntmps99
 go_wp2_with (first|(go_at_call 132;with_reducible refine mI (F9 _ (by assumption) (by assumption) (by assumption)) ?_))
 exact Zv
theorem Ba(w:World)(hb:Has b x)(hc:Has c y)(x1 : -1099511627776<=x)(x2:x<=1099511627776)(y1 : -1099511627776<=y)(y2:y<=1099511627776) :
  Calls ja0 63 #[.complex .f64 b c] w λe w'=>e=.returned (.complex .f64 b c)/\w=w':=by
 go_enter Tryz.func63,Tryz.ntmps63
 go_wp2_with (go_at_call 99;refine(Uz _ hb hc x1 x2 y1 y2).mono ?_;rintro e w' ⟨rfl,rfl⟩)
 exact Zv
theorem ac8(w:World)(hb:Has b x)(hc:Has c y)(x1 : -1099511627776<=x)(x2:x<=1099511627776)(y1 : -1099511627776<=y)(y2:y<=1099511627776) :
  Calls ja0 25 #[.complex .f64 b c] w λe w'=>e=.returned x/\w=w':=by
 have hi:=JD hb;have hop:∀w,(convert 110 3 (.float .f64 b)).run ja0 w=.ok (.int .i64 x) w:=λw=>run_convert_float_int w 110 3 .f64 .i64 b x (by rw[Tryz.underlying110];rfl) Tryz.underlying3 hi;clear hi;go_enter Tryz.func25,Tryz.ntmps25
 go_wp2_with (go_at_call 63;refine(Ba _ hb hc x1 x2 y1 y2).mono ?_;rintro e w' ⟨rfl,rfl⟩)
 exact Zv
theorem ac9(w:World)(hb:Has b x)(hc:Has c y)(x1 : -1099511627776<=x)(x2:x<=1099511627776)(y1 : -1099511627776<=y)(y2:y<=1099511627776) :
  Calls ja0 26 #[.complex .f64 b c] w λe w'=>e=.returned y/\w=w':=by
 have hi:=JD hc;have hop:∀w,(convert 110 3 (.float .f64 c)).run ja0 w=.ok (.int .i64 y) w:=λw=>run_convert_float_int w 110 3 .f64 .i64 c y (by rw[Tryz.underlying110];rfl) Tryz.underlying3 hi;clear hi;go_enter Tryz.func26,Tryz.ntmps26
 go_wp2_with (go_at_call 63;refine(Ba _ hb hc x1 x2 y1 y2).mono ?_;rintro e w' ⟨rfl,rfl⟩)
 exact Zv
theorem nO(x y:Int)(w:World) :
  Calls ja0 12 #[x,y] w λe w'=>e=.returned (pt x y)/\w=w':=by
 go_enter Tryz.func12,Tryz.ntmps12
 go_wp2_with (first|(go_at_call 48;with_reducible refine mI (eu _ _) ?_))
 exact Zv
theorem Rf(x y:Int)(w:World):Calls ja0 25 #[pt x y] w λe w'=>e=.returned (.int .i64 (Fx.cut x))/\w=w' :=
 ac8 w (qD x) (qD y) (Fx.fU x) (Fx.dU x) (Fx.fU y) (Fx.dU y)
theorem Rh(x y:Int)(w:World):Calls ja0 26 #[pt x y] w λe w'=>e=.returned (.int .i64 (Fx.cut y))/\w=w' :=
 ac9 w (qD x) (qD y) (Fx.fU x) (Fx.dU x) (Fx.fU y) (Fx.dU y)
theorem yM(a b:Int):Fx.add (Fx.cut a) (Fx.cut b)=Fx.add a b:=by unfold Fx.add;rw[Fx.eT,Fx.eT]
theorem Ef(a b c:Int):Fx.clamp (Fx.cut a) (Fx.cut b) (Fx.cut c)=Fx.clamp a b c:=by unfold Fx.clamp;rw[Fx.eT,Fx.eT,Fx.eT]
theorem XR(a b c d:Int)(w:World):Calls ja0 60 #[pt a b,pt c d] w λe w'=>e=.returned (pt (Fx.add a c) (Fx.add b d))/\w=w':=by
 rw[<-yM a c,<-yM b d];go_enter Tryz.func60,Tryz.ntmps60
 go_wp2_with (first|(go_at_call 25;with_reducible refine mI (Rf _ _ _) ?_)|(go_at_call 26;with_reducible refine mI (Rh _ _ _) ?_)|(go_at_call 67;with_reducible refine mI (iR _ _ _) ?_)|(go_at_call 12;with_reducible refine mI (nO _ _ _) ?_))
 exact Zv
theorem PW(a b c d x y:Int)(w:World):Calls ja0 11 #[pt a b,pt c d,pt x y] w λe w'=>e=.returned (pt (Fx.clamp a c x) (Fx.clamp b d y))/\w=w':=by
 rw[<-Ef a c x,<-Ef b d y];go_enter Tryz.func11,Tryz.ntmps11
 go_wp2_with (first|(go_at_call 25;with_reducible refine mI (Rf _ _ _) ?_)|(go_at_call 26;with_reducible refine mI (Rh _ _ _) ?_)|(go_at_call 47;with_reducible refine mI (oF _ _ _ _) ?_)|(go_at_call 12;with_reducible refine mI (nO _ _ _) ?_))
 exact Zv
end
open World renaming alloc → ja4,setCell → ja5
theorem rD{a b c d:Int}(h1:a=c)(h2:b=d):Ending.returned (.agg #[.int .i64 a,.int .i64 b])=.returned (.agg #[c,d]):=by rw[h1,h2]
theorem JE(a b c d:Int)(w:World):(binOp .eql 114 (.agg #[a,b]) (.agg #[.int .i64 c,.int .i64 d])).run ja0 w=.ok (.bool (decide (a=c)&&decide (b=d))) w:=by
 rw[run_eql_struct];by_cases h1:a=c<;>by_cases h2:b=d<;>go_simp<;>simp[h1,h2]
theorem zY(a b:Int)(w:World):Calls ja0 97 #[.agg #[a,b]] w λe w'=>e=.returned (.bool (decide (b<=a)))/\Below w w w':=by
 go_enter Tryz.func97,Tryz.ntmps97
 go_wp2
 go_ret
 exact⟨rfl,(Below.refl _ _).alloc aC _⟩
theorem XT(a b:Int)(w:World):Calls ja0 163 #[.agg #[a,b]] w λe w'=>e=.returned (.int .i64 (Fx.size a b))/\Below w w w':=by
 go_enter Tryz.func163,Tryz.ntmps163
 go_wp2_with (first|(go_at_call 52;with_reducible refine mI (kD _ _ _) ?_))
 all_goals
  go_ret
  exact⟨bA (by unfold Fx.size;split<;>omega),(Below.refl _ _).alloc aC _⟩
theorem RQ(n m:Int)(w:World):Calls ja0 91 #[n,m] w λe w'=>e=.returned (.agg #[Fx.cut n,.int .i64 (Fx.add n (Fx.mx m 0))])/\Below w w w':=by
 go_enter Tryz.func91,Tryz.ntmps91
 go_wp2_with (first|(go_at_call 48;with_reducible refine mI (eu _ _) ?_)|(go_at_call 67;with_reducible refine mI (iR _ _ _) ?_))
 all_goals
  refine bodyPost_ret (by simp[results,Tryz.results91,go_sem];first|done|exact⟨rfl,rfl⟩|rfl) rfl ⟨rD rfl (by unfold Fx.mx;first|rw[if_pos ak]|rw[if_neg ak]|(congr 1;split<;>omega)),?_⟩;exact Z0
theorem Eh(a b c d:Int)(w:World):Calls ja0 131 #[.agg #[a,b],.agg #[c,d]] w λe w'=>e=.returned (.agg #[Fx.mn a c,Fx.mx b d])/\Below w w w':=by
 go_enter Tryz.func131,Tryz.ntmps131
 go_wp2
 all_goals
  refine bodyPost_ret (by simp[results,Tryz.results131,go_sem];first|done|exact⟨rfl,rfl⟩|rfl) rfl ⟨rD (by unfold Fx.mn;split<;>omega) (by unfold Fx.mx;split<;>omega),?_⟩;exact Z0
theorem XU(a b c d:Int)(w:World):Calls ja0 98 #[.agg #[a,b],.agg #[c,d]] w λe w'=>e=.returned (.bool (Fx.ends a b c d))/\Below w w w':=by
 have q:=JE;go_enter Tryz.func98,Tryz.ntmps98
 go_wp2;refine rZ ?_ (h0:=by first|assumption|exact Below.refl _ _)
 (repeat (first|refine jc ?_ | refine jd ?_ (hc:=by intro w2 hS;first|with_reducible exact iq hS (Eh _ _ _ _ _))|refine je ?_))
 refine aj.bD ?_;intro w2 hS;go_wp2
 go_ret
 refine⟨dF (Fx.aaY a b c d),?_⟩;exact Z0
theorem XV(a b c d:Int)(w:World):Calls ja0 164 #[.agg #[a,b],.agg #[c,d]] w λe w'=>e=.returned (.agg #[Fx.lH a b c d,Fx.uU a b c d])/\Below w w w':=by
 go_enter Tryz.func164,Tryz.ntmps164
 go_wp2_with (first|(go_at_call 97;(with_reducible refine(zY _ _ _).mono ?_);rintro e w' ⟨rfl,hb⟩;(try replace hb:=Below.after (by assumption) hb);obtain⟨hc,hf⟩:=fO hb;have hz:=hb.size;(try simp at hz)))
 all_goals
  refine bodyPost_ret (v:=.agg #[_,_]) (by simp[results,Tryz.results164,go_sem, *];first|done|exact⟨rfl,rfl⟩|rfl) rfl ⟨rD (by unfold Fx.lH Fx.mn Fx.mx;(repeat' split)<;>omega) (by unfold Fx.uU Fx.mn Fx.mx;(repeat' split)<;>omega),?_⟩;exact Z0
theorem XW(a b c d:Int)(w:World):Calls ja0 125 #[.agg #[a,b],.agg #[c,d]] w λe w'=>e=.returned (.agg #[Fx.OD a b c d,Fx.OE a b c d])/\Below w w w':=by
 go_enter Tryz.func125,Tryz.ntmps125
 go_wp2_with (first|(go_at_call 97;(with_reducible refine(zY _ _ _).mono ?_);rintro e w' ⟨rfl,hb⟩;(try replace hb:=Below.after (by assumption) hb);obtain⟨hc,hf⟩:=fO hb;have hz:=hb.size;(try simp at hz))|(go_at_call 131;(with_reducible refine(Eh _ _ _ _ _).mono ?_);rintro e w' ⟨rfl,hb⟩;(try replace hb:=Below.after (by assumption) hb);obtain⟨hc,hf⟩:=fO hb;have hz:=hb.size;(try simp at hz)))
 all_goals
  refine bodyPost_ret (v:=.agg #[_,_]) (by simp[results,Tryz.results125,go_sem, *];first|done|exact⟨rfl,rfl⟩|rfl) rfl ⟨rD (by unfold Fx.OD Fx.mn;(repeat' split)<;>omega) (by unfold Fx.OE Fx.mx;(repeat' split)<;>omega),?_⟩;exact Z0
theorem XY(a b c d:Int)(w:World):Calls ja0 62 #[.agg #[a,b],.agg #[c,d]] w λe w'=>e=.returned (.bool (Fx.inn a b c d))/\Below w w w':=by
 go_enter Tryz.func62,Tryz.ntmps62
 go_wp2_with (first|(go_at_call 97;(with_reducible refine(zY _ _ _).mono ?_);rintro e w' ⟨rfl,hb⟩;(try replace hb:=Below.after (by assumption) hb);obtain⟨hc,hf⟩:=fO hb;have hz:=hb.size;(try simp at hz))|(go_at_call 98;(with_reducible refine(XU _ _ _ _ _).mono ?_);rintro e w' ⟨rfl,hb⟩;(try replace hb:=Below.after (by assumption) hb);obtain⟨hc,hf⟩:=fO hb;have hz:=hb.size;(try simp at hz)))
 all_goals go_ret
 all_goals
  refine⟨dF (by simp[Fx.inn,Fx.ends, *]<;>omega),?_⟩;exact Z0
theorem qQ{a b c d a' b' c' d':Int}(h1:a=a')(h2:b=b')(h3:c=c')(h4:d=d'):Ending.returned (.agg #[.int .i64 a,.int .i64 b,.int .i64 c,.int .i64 d])=.returned (.agg #[a',b',c',d']):=by rw[h1,h2,h3,h4]
theorem mM(x y a b:Int)(w:World):Calls ja0 61 #[.agg #[x,y,a,b]] w λe w'=>e=.returned (.bool (Fx.emp a b))/\Below w w w':=by
 go_enter Tryz.func61,Tryz.ntmps61
 go_wp2
 all_goals go_ret
 all_goals exact⟨dF (by unfold Fx.emp;simp<;>omega),(Below.refl _ _).alloc aC _⟩
theorem p8(x y a b:Int)(w:World):Calls ja0 24 #[x,y,a,b] w λe w'=>e=.returned (.agg #[Fx.cut x,Fx.cut y,.int .i64 (Fx.mx (Fx.cut a) 0),.int .i64 (Fx.mx (Fx.cut b) 0)])/\Below w w w':=by
 go_enter Tryz.func24,Tryz.ntmps24
 go_wp2_with (first|(go_at_call 48;with_reducible refine mI (eu _ _) ?_))
 all_goals
  refine bodyPost_ret (v:=.agg #[_,_,_,_]) (by simp[results,Tryz.results24,go_sem];first|done|exact⟨rfl,rfl⟩|exact⟨rfl,rfl,rfl,rfl⟩|rfl) rfl ⟨qQ rfl rfl (by unfold Fx.mx;split<;>omega) (by unfold Fx.mx;split<;>omega),?_⟩;exact Z0
theorem mO(x y a b:Int)(w:World):Calls ja0 53 #[.agg #[x,y,a,b]] w λe w'=>e=.returned (.agg #[Fx.cut x,Fx.hi x a])/\Below w w w':=by
 go_enter Tryz.func53,Tryz.ntmps53
 go_wp2_with (first|(go_at_call 91;(with_reducible refine(RQ _ _ _).mono ?_);rintro e w' ⟨rfl,hb⟩;(try replace hb:=Below.after (by assumption) hb);obtain⟨hc,hf⟩:=fO hb;have hz:=hb.size;(try simp at hz)))
 refine bodyPost_ret (by simp[results,Tryz.results53,go_sem, *];first|done|exact⟨rfl,rfl⟩|rfl) rfl ⟨rD rfl rfl,?_⟩;exact Z0
theorem rF(x y a b:Int)(w:World):Calls ja0 54 #[.agg #[x,y,a,b]] w λe w'=>e=.returned (.agg #[Fx.cut y,Fx.hi y b])/\Below w w w':=by
 go_enter Tryz.func54,Tryz.ntmps54
 go_wp2_with (first|(go_at_call 91;(with_reducible refine(RQ _ _ _).mono ?_);rintro e w' ⟨rfl,hb⟩;(try replace hb:=Below.after (by assumption) hb);obtain⟨hc,hf⟩:=fO hb;have hz:=hb.size;(try simp at hz)))
 refine bodyPost_ret (by simp[results,Tryz.results54,go_sem, *];first|done|exact⟨rfl,rfl⟩|rfl) rfl ⟨rD rfl rfl,?_⟩;exact Z0
theorem RS(a b c d:Int)(w:World):Calls ja0 124 #[.agg #[a,b],.agg #[c,d]] w λe w'=>e=.returned (.agg #[a,c,Fx.size a b,Fx.size c d])/\Below w w w':=by
 go_enter Tryz.func124,Tryz.ntmps124
 go_wp2;refine yw 9 1 ?_ (h0:=by first|assumption|exact Below.refl _ _)
 (repeat (first|refine jc ?_ | refine jd ?_ (hc:=by intro w2 hS;first|with_reducible exact iq hS (XT _ _ _))|refine je ?_))
 refine aj.bL ?_;intro w2 hS;obtain⟨hc,hf⟩:=fO hS;refine wz ?_;intro K hK;go_simp;refine hK _ _ (aj.bC ?_);clear hK K;go_wp2;refine bodyPost_ret (by simp[results,Tryz.results124,go_sem, *];first|done|exact⟨rfl,rfl⟩|rfl) rfl ⟨qQ rfl rfl rfl rfl,?_⟩;exact Z0
theorem IU(x y a b x' y' a' b':Int)(w:World):Calls ja0 23 #[.agg #[x,y,a,b],.agg #[x',y',a',b']] w λe w'=>e=.returned (.bool (Fx.Tn x y a b x' y' a' b'))/\Below w w w':=by
 cases hE:Fx.emp a b with
 | true =>
   go_enter Tryz.func23,Tryz.ntmps23
   go_wp2;refine rZ ?_ (h0:=by first|assumption|exact Below.refl _ _)
   (repeat (first|refine jc ?_ | refine jd ?_ (hc:=by intro w2 hS;first|with_reducible exact iq hS (mM _ _ _ _ _))|refine je ?_))
   refine aj.bD ?_;intro w2 hS;go_wp2
   go_ret
   refine⟨dF (by simp[Fx.Tn,hE]),?_⟩;exact Z0
 | false =>
   cases hX:Fx.inn (Fx.cut x) (Fx.hi x a) (Fx.cut x') (Fx.hi x' a')with
   | false =>
     go_enter Tryz.func23,Tryz.ntmps23
     go_wp2;refine rZ ?_ (h0:=by first|assumption|exact Below.refl _ _)
     (repeat (first|refine jc ?_ | refine jd ?_ (hc:=by intro w2 hS;first|with_reducible exact iq hS (mM _ _ _ _ _)|with_reducible exact iq hS (mO _ _ _ _ _)|with_reducible exact iq hS (XY _ _ _ _ _))|refine je ?_))
     refine aj.bD ?_;intro w2 hS;go_wp2
     go_ret
     refine⟨dF (by simp[Fx.Tn,hE,hX]),?_⟩;exact Z0
   | true =>
     go_enter Tryz.func23,Tryz.ntmps23
     go_wp2;refine rZ ?_ (h0:=by first|assumption|exact Below.refl _ _)
     (repeat (first|refine jc ?_ | refine jd ?_ (hc:=by intro w2 hS;first|with_reducible exact iq hS (mM _ _ _ _ _)|with_reducible exact iq hS (mO _ _ _ _ _)|with_reducible exact iq hS (rF _ _ _ _ _)|with_reducible exact iq hS (XY _ _ _ _ _))|refine je ?_))
     refine aj.bD ?_;intro w2 hS;go_wp2
     go_ret
     refine⟨dF (by simp[Fx.Tn,hE,hX]),?_⟩;exact Z0
theorem UA(x y a b x' y' a' b':Int)(w:World):Calls ja0 127 #[.agg #[x,y,a,b],.agg #[x',y',a',b']] w λe w'=>e=.returned (.agg #[.int .i64 (Fx.WG x y a b x' y' a' b' (Fx.mLo x a x' a')),.int .i64 (Fx.WG x y a b x' y' a' b' (Fx.mLo y b y' b')),.int .i64 (Fx.WG x y a b x' y' a' b' (Fx.Le x a x' a')),.int .i64 (Fx.WG x y a b x' y' a' b' (Fx.Le y b y' b'))])/\Below w w w':=by
 cases hE:Fx.emp (Fx.Le x a x' a') (Fx.Le y b y' b')
 all_goals
  have HE:=ah hE;unfold Fx.Le Fx.mLo Fx.mHi at hE;go_enter Tryz.func127,Tryz.ntmps127
  go_wp2
  (generalize hW:ja4 (ja4 (ja4 w _) _) _=W0;have A0:At W0 (w.heap.size) (.cells #[x,y,a,b] 40):=WE;have A1:At W0 (w.heap.size+1) (.cells #[x',y',a',b'] 40):=Tc;have A2:At W0 (w.heap.size+1+1) (.cells #[(),(),(),()] 40):=Td;have hB:Below w w W0:=Z3w;clear hW;have c0:=A0.lc;have c1:=A1.lc;have c2:=A2.nM)
  refine sbt [0,1,2,3,4,5,6,7,8,9,10] 11 12 ?_ (norm:=[⟨_,_,_,_,_,_⟩,⟨_,_,_,_,_,_⟩,⟨_,_,_,_,_,_⟩,⟨_,_,_,_,_,_⟩,⟨_,_,_,_,_,_⟩,⟨_,_,_,_,_,_⟩,⟨_,_,_,_,_,_⟩,⟨_,_,_,_,_,_⟩,⟨_,_,_,_,_,_⟩,⟨_,_,_,_,_,_⟩,⟨_,_,_,_,_,_⟩]) (tail:=[⟨_,_,_,_,_,_⟩]) (x:=.cells #[(),(),(),()] 40) (so:=⟨_,_,_,_,_,_⟩)
  (repeat (first|refine sbk ?_ | refine sbc ?_ (hc:=by intro w2 hS;first|with_reducible exact(mO _ _ _ _ _)|with_reducible exact(rF _ _ _ _ _)|with_reducible exact(XV _ _ _ _ _)|with_reducible exact(RS _ _ _ _ _))|refine sbv ?_))
  refine aj.yj ?_;intro n0 w2 hn hA hS;(try simp only[bM,bN,bO,tks])
  ((have hB0:=hB);have BF:=dX (aT A0.lt hn);have ne1:=dX (aT A1.lt hn);have BG:=dX (aT A2.lt hn);(clear c0 c1 c2);(replace hB:=Below.ay qN aC hS);replace A0:=At.keep uL hS;replace A1:=At.keep sH hS;replace A2:=At.keep uh hS;clear hS;have c0:=A0.lc;have c1:=A1.lc;have c2:=A2.nM;have A3:=hA;clear hA;have c3:=A3.nM;have g0:=aJ Z4g hn;clear hB0)
  refine wz ?_;intro K hK;go_simp;refine hK _ _ (aj.bC ?_);clear hK K
  (generalize hW:ja5 (ja5 (ja5 (ja5 _ _ _) _ _) _ _) _ _=W2;clear c0 c1 c2 c3;replace A3:At W2 _ _:=hW▸(At.SV A3 _ _ _ _);replace A0:At W2 _ _:=hW▸(At.off (At.off (At.off (At.off A0 BF _ _) BF _ _) BF _ _) BF _ _);replace A1:At W2 _ _:=hW▸(At.off (At.off (At.off (At.off A1 ne1 _ _) ne1 _ _) ne1 _ _) ne1 _ _);replace A2:At W2 _ _:=hW▸(At.off (At.off (At.off (At.off A2 BG _ _) BG _ _) BG _ _) BG _ _);replace hB:Below w w W2:=hW▸(Below.setCell (Below.setCell (Below.setCell (Below.setCell hB g0 _) g0 _) g0 _) g0 _);clear hW BF ne1 BG;have c0:=A0.lc;have c1:=A1.lc;have c2:=A2.nM;have c3:=A3.lc)
  clear A0 c0 A1 c1
  go_wp2_with (first|(go_at_call 61;(with_reducible refine(mM _ _ _ _ _).mono ?_);rintro e w' ⟨rfl,hb⟩;(clear c2 c3);(replace hB:=Below.ay qN aC hb);replace A2:=At.keep uh hb;replace A3:=At.keep zG hb;clear hb;have c2:=A2.nM;have c3:=A3.lc))
  refine bodyPost_ret (v:=.agg #[_,_,_,_]) (by simp[results,Tryz.results127,go_sem, *];first|done|exact⟨rfl,rfl⟩|exact⟨rfl,rfl,rfl,rfl⟩|rfl) rfl ⟨qQ Z4n Z4n Z4n Z4n,?_⟩;exact Z0
theorem UC(x y a b x' y' a' b':Int)(w:World):Calls ja0 89 #[.agg #[x,y,a,b],.agg #[x',y',a',b']] w λe w'=>e=.returned (.agg #[.int .i64 (Fx.Tf a b a' b' x x' (Fx.jLo x a x' a')),.int .i64 (Fx.Tf a b a' b' y y' (Fx.jLo y b y' b')),.int .i64 (Fx.Tf a b a' b' a a' (Fx.jSz x a x' a')),.int .i64 (Fx.Tf a b a' b' b b' (Fx.jSz y b y' b'))])/\Below w w w':=by
 cases hE:Fx.emp a b<;>cases hE':Fx.emp a' b'
 . have HE:=ah hE
   have HE':=ah hE';go_enter Tryz.func89,Tryz.ntmps89
   go_upto_region 1 with(fail)
   (generalize hW:ja4 (ja4 (ja4 w _) _) _=W0;have A0:At W0 (w.heap.size) (.cells #[x,y,a,b] 40):=WE;have A1:At W0 (w.heap.size+1) (.cells #[x',y',a',b'] 40):=Tc;have A2:At W0 (w.heap.size+1+1) (.cells #[(),(),(),()] 40):=Td;have hB:Below w w W0:=Z3w;clear hW;have c0:=A0.lc;have c1:=A1.lc;have c2:=A2.nM)
   go_upto_region 7 with(first|(go_at_call 61;(with_reducible refine(mM _ _ _ _ _).mono ?_);rintro e w' ⟨rfl,hb⟩;(clear c0 c1 c2);(replace hB:=Below.ay qN aC hb);replace A0:=At.keep uL hb;replace A1:=At.keep sH hb;replace A2:=At.keep uh hb;clear hb;have c0:=A0.lc;have c1:=A1.lc;have c2:=A2.nM))
   refine yw 11 1 ?_
   (repeat (first|refine jc ?_ | refine jd ?_ (hc:=by intro w2 hS;first|with_reducible exact iq hS (mO _ _ _ _ _)|with_reducible exact iq hS (rF _ _ _ _ _)|with_reducible exact iq hS (XW _ _ _ _ _)|with_reducible exact iq hS (RS _ _ _ _ _))|refine je ?_))
   refine aj.bL ?_;intro w2 hS
   (clear c0 c1 c2);(replace hB:=Below.ay qN aC hS);replace A0:=At.keep uL hS;replace A1:=At.keep sH hS;replace A2:=At.keep uh hS;clear hS;have c0:=A0.lc;have c1:=A1.lc;have c2:=A2.nM
   refine wz ?_;intro K hK;go_simp;refine hK _ _ (aj.bC ?_);clear hK K;go_wp2;exact Z1c
 all_goals
  have HE:=ah hE;have HE':=ah hE';go_enter Tryz.func89,Tryz.ntmps89
  go_upto_region 1 with(fail)
  (generalize hW:ja4 (ja4 (ja4 w _) _) _=W0;have A0:At W0 (w.heap.size) (.cells #[x,y,a,b] 40):=WE;have A1:At W0 (w.heap.size+1) (.cells #[x',y',a',b'] 40):=Tc;have A2:At W0 (w.heap.size+1+1) (.cells #[(),(),(),()] 40):=Td;have hB:Below w w W0:=Z3w;clear hW;have c0:=A0.lc;have c1:=A1.lc;have c2:=A2.nM)
  go_wp2_with (first|(go_at_call 61;(with_reducible refine(mM _ _ _ _ _).mono ?_);rintro e w' ⟨rfl,hb⟩;(clear c0 c1 c2);(replace hB:=Below.ay qN aC hb);replace A0:=At.keep uL hb;replace A1:=At.keep sH hb;replace A2:=At.keep uh hb;clear hb;have c0:=A0.lc;have c1:=A1.lc;have c2:=A2.nM))
  exact Z1c
theorem Hu(x y a b p q:Int)(w:World):Calls ja0 18 #[.agg #[x,y,a,b],pt p q] w λe w'=>e=.returned (.agg #[.int .i64 (Fx.cut (Fx.add x p)),.int .i64 (Fx.cut (Fx.add y q)),a,b])/\Below w w w':=by
 go_enter Tryz.func18,Tryz.ntmps18
 go_wp2_with (first|(go_at_call 12;with_reducible refine mI (nO _ _ _) ?_)|(go_at_call 60;with_reducible refine mI (XR _ _ _ _ _) ?_))
 exact Z11
theorem Ga(s0 s1 s2 s3:Int)(w:World):Calls ja0 66 #[.agg #[s0,s1,s2,s3]] w λe w'=>e=.returned (.tuple #[.int .i64 (Fx.add (Fx.add 0 s1) s3),.int .i64 (Fx.add (Fx.add 0 s0) s2)])/\Below w w w':=by
 have i0:∀w:World,(Instr.index 61 (.agg #[s0,s1,s2,s3]) (.int .i64 0)).run ja0 w=.ok (.int .i64 s0) w:=λ_=>by kernel_rfl
 have i1:∀w:World,(Instr.index 61 (.agg #[s0,s1,s2,s3]) (.int .i64 1)).run ja0 w=.ok (.int .i64 s1) w:=λ_=>by kernel_rfl
 have i2:∀w:World,(Instr.index 61 (.agg #[s0,s1,s2,s3]) (.int .i64 2)).run ja0 w=.ok (.int .i64 s2) w:=λ_=>by kernel_rfl
 have i3:∀w:World,(Instr.index 61 (.agg #[s0,s1,s2,s3]) (.int .i64 3)).run ja0 w=.ok (.int .i64 s3) w:=λ_=>by kernel_rfl
 go_enter Tryz.func66,Tryz.ntmps66
 go_wp2;refine wp_loop_rounds 5 ?_
 repeat (rw[rounds_succ];go_wp2_with (first|(go_at_call 67;with_reducible refine mI (iR _ _ _) ?_)))
 go_ret2
 exact⟨rfl,(Below.refl _ _).alloc aC _⟩
theorem Ei(x y a b s0 s1 s2 s3:Int)(w:World):Calls ja0 30 #[.agg #[x,y,a,b],.agg #[s0,s1,s2,s3]] w λe w'=>e=.returned (.agg #[Fx.add x s3,Fx.add y s0,.int .i64 (Fx.less a (Fx.add (Fx.add 0 s1) s3)),.int .i64 (Fx.less b (Fx.add (Fx.add 0 s0) s2))])/\Below w w w':=by
 by_cases h1:Fx.sub a (Fx.add (Fx.add 0 s1) s3)<0<;>by_cases h2:Fx.sub b (Fx.add (Fx.add 0 s0) s2)<0
 all_goals
  (try replace h1:=Int.not_lt.1 h1)
  (try replace h2:=Int.not_lt.1 h2)
  go_enter Tryz.func30,Tryz.ntmps30
  go_upto_region 1 with(fail)
  (generalize hW:ja4 (ja4 (ja4 w _) _) _=W0;have A0:At W0 (w.heap.size) (.cells #[x,y,a,b] 40):=WE;have A1:At W0 (w.heap.size+1) (.cells #[s0,s1,s2,s3] 61):=Tc;have A2:At W0 (w.heap.size+1+1) (.cells #[(),(),(),()] 40):=Td;have hB:Below w w W0:=Z3w;clear hW;have c0:=A0.lc;have c1:=A1.lc;have c2:=A2.nM)
  go_upto_region 2 with(first|(go_at_call 66;(with_reducible refine(Ga _ _ _ _ _).mono ?_);rintro e w' ⟨rfl,hb⟩;(clear c0 c1 c2);(replace hB:=Below.ay qN aC hb);replace A0:=At.keep uL hb;replace A1:=At.keep sH hb;replace A2:=At.keep uh hb;clear hb;have c0:=A0.lc;have c1:=A1.lc;have c2:=A2.nM))
  refine yw 21 1 ?_
  (repeat (first|refine jc ?_ | refine jd ?_ (hc:=by intro w2 hS;first|with_reducible exact zn hS (iR _ _ _)|with_reducible exact zn hS (kD _ _ _))|refine je ?_))
  refine aj.bL ?_;intro w2 hS
  (clear c0 c1 c2);(replace hB:=Below.ay qN aC hS);replace A0:=At.keep uL hS;replace A1:=At.keep sH hS;replace A2:=At.keep uh hS;clear hS;have c0:=A0.lc;have c1:=A1.lc;have c2:=A2.nM
  refine wz ?_;intro K hK;go_simp;refine hK _ _ (aj.bC ?_);clear hK K;go_wp2;refine bodyPost_ret (v:=.agg #[_,_,_,_]) (by simp[results,Tryz.results30,go_sem, *];first|done|exact⟨rfl,rfl⟩|exact⟨rfl,rfl,rfl,rfl⟩|rfl) rfl ⟨qQ rfl rfl (by unfold Fx.less Fx.mx;split<;>omega) (by unfold Fx.less Fx.mx;split<;>omega),?_⟩;exact Z0
end Go.Proofs.YtdnggaapcgomhaaGreat.Fix
