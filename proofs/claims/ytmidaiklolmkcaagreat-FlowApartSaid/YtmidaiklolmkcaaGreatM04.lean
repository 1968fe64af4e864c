/- What functions of the program do, in plain numbers, part 4; no conditions. -/
import Derived.Test.YtmidaiklolmkcaaGreatM03
set_option linter.unusedVariables false
set_option linter.unusedSimpArgs false
set_option linter.unusedSectionVars false
set_option maxRecDepth 100000
namespace Go.Proofs.YtmidaiklolmkcaaGreat.ak
open Go Fix
section
variable {P:Program} {ops:Array Oper} {Q:Exit->Act->World->Prop} {md:Region.Mode} {S:World->Prop} {N:Value->World->Prop} {s m t:Nat} {so:Oper} {tail:List Oper}
def abB(P:Program)(w:World)(v:Value):Result Next->Prop
 | .ok (.value u) w'=>u=v/\RowKit.Below w.heap.size w w'
 | .ok (.enter f args) w'=>Calls P f args w' λe w''=>e=.returned v/\RowKit.Below w.heap.size w w''
 | _=>False
def Iu(P:Program)(ops:Array Oper)(S:World->Prop)(o:Oper)(v:Value)(a:Act):Prop :=
 (Region.wanted o (yielded ops a.tmps)=true/\∀w,S w->abB P w v ((execOp a.eval o).run P w)) \/
 (Region.wanted o (yielded ops a.tmps)=false/\v=undef)
def Stable(S:World->Prop):Prop:=∀w w',S w->RowKit.Below w.heap.size w w'->S w'
theorem Iu.of_same{o:Oper}{v:Value}{a a':Act}(hy:Iu P ops S o v a)(he:execOp a'.eval o=execOp a.eval o)
  (hw:Region.wanted o (yielded ops a'.tmps)=Region.wanted o (yielded ops a.tmps)):Iu P ops S o v a':=by
 unfold Iu at *;rw[he,hw];exact hy
theorem Iu.wpOp{i:Nat}{o:Oper}{v:Value}{a:Act}(hi:ops[i]? = some o)(hy:Iu P ops S o v a)
  {K:Act->World->Prop} {w:World} (hS:S w) (h:∀w',RowKit.Below w.heap.size w w'->K (a.put o.dst v) w'):wpOp P ops Q i K a w:=by
 unfold Go.wpOp;simp only[hi];rcases hy with⟨hw,hv⟩|⟨hw,rfl⟩
 . simp only[hw,if_true]
   refine .inl ?_;unfold Oper.wp;have h1:=hv w hS;generalize (execOp a.eval o).run P w=r at *;cases r with
   | ok n w' =>
     cases n<;>simp only[abB]at h1<;>simp only[Oper.upon]
     case value u=>obtain⟨rfl,hs⟩:=h1;exact h _ hs
     case enter f args=>exact Calls.mono h1 λe w'' ⟨he,hs⟩=>by subst he;exact h _ hs
   | halt x w'=>exact h1.elim
 . simp only[hw,Bool.false_eq_true,if_false];exact h _ (RowKit.Below.refl _ _)
def Known(S:World->Prop)(N:Value->World->Prop):Option Value->World->Prop
 | none,w=>S w
 | some v,w=>N v w
def oJ(P:Program)(md:Region.Mode)(ops:Array Oper)(S:World->Prop)(s m:Nat)(B:Value->Array Bool->Act->Prop):Nat->Array Bool->Act->Option Value->Prop
 | 0,listed,a,g=>(∀k,k<m->listed.getD k true=true)/\∃v,g=some v/\B v listed a
 | fuel+1,listed,a,g =>
   Region.ready md ops listed≠[] /\
   ∀i∈Region.ready md ops listed,∃o,ops[i]? = some o /\
    ((i≠s/\∃v,Iu P ops S o v a/\oJ P md ops S s m B fuel (listed.setIfInBounds i true) (a.put o.dst v) g) \/
     (i=s/\g=none/\∀v,oJ P md ops S s m B fuel (listed.setIfInBounds i true) (a.put o.dst v) (some v)))
def Special(P:Program)(ops:Array Oper)(S:World->Prop)(N:Value->World->Prop)(o:Oper):Prop :=
 ∀(a:Act) (w:World),S w->Region.wanted o (yielded ops a.tmps)=true/\∃v w',(execOp a.eval o).run P w=.ok (.value v) w'/\N v w'
theorem Special.wpOp{i:Nat}{a:Act}(hi:ops[i]? = some so)(hy:Special P ops S N so)
  {K:Act->World->Prop} {w:World} (hS:S w) (h:∀v w',N v w'->K (a.put so.dst v) w'):wpOp P ops Q i K a w:=by
 unfold Go.wpOp;simp only[hi];obtain⟨hw,v,w',hr,hN⟩:=hy a w hS;simp only[hw,if_true];refine .inl ?_;unfold Oper.wp;rw[hr];simp only[Oper.upon];exact h v w' hN
theorem oJ.any{tf:Nat}(hso:ops[s]? = some so)(hsp:Special P ops S N so)(hS0:Stable S)(hN0:∀v,Stable (N v))(hNS:∀v w,N v w->S w) :
  ∀(fuel:Nat) (listed:Array Bool) (a:Act) (g:Option Value),oJ P md ops S s m (λv listed a=>∀w,N v w->wpAny P md ops Q tf listed a w) fuel listed a g->∀w,Known S N g w->wpAny P md ops Q (tf+fuel) listed a w
 | 0,_,_,g,⟨_,v,hg,hB⟩=>λw hw=>by subst hg;exact hB w hw
 | fuel+1,_,_,g,h=>λw hw=>⟨λhr=>absurd hr h.1,λi hi=>by
  obtain⟨o,ho,hcase⟩:=h.2 i hi;have hSw:S w:=by
   cases g with
   | none=>exact hw
   | some v=>exact hNS v w hw
  rcases hcase with⟨_,v,hd,hn⟩|⟨hi,hg,hn⟩
  . refine hd.wpOp ho hSw λw' hb=>oJ.any hso hsp hS0 hN0 hNS fuel _ _ g hn w' ?_
    cases g with
    | none=>exact hS0 w w' hw hb
    | some u=>exact hN0 u w w' hw hb
  . obtain rfl:so=o:=Option.some.inj (hso.symm.trans (hi▸ho))
    subst hg
    exact hsp.wpOp ho hSw λv w' hN=>oJ.any hso hsp hS0 hN0 hNS fuel _ _ (some v) (hn v) w' hN⟩
def Gs(md:Region.Mode)(ops:Array Oper)(s m t:Nat):List Nat->Array Bool->Bool
 | [],listed=>(Region.ready md ops listed).contains s&&forced md ops t m (listed.setIfInBounds s true)
 | i::r,listed=>Region.free md ops listed i&&(Region.ready md ops listed).contains i&&decide (i<m) && !(i==s)&&Gs md ops s m t r (listed.setIfInBounds i true)
def iH(P:Program)(ops:Array Oper)(Q:Exit->Act->World->Prop)(S:World->Prop)(N:Value->World->Prop)(so:Oper)(tail:List Oper):List Oper->Act->Prop
 | [],a=>∀v w,N v w->nL P ops Q tail (a.put so.dst v) w
 | o::os,a=>∃v,Iu P ops S o v a/\iH P ops Q S N so tail os (a.put o.dst v)
theorem Dr{listed:Array Bool}{i q:Nat}(h:q=i->i<listed.size)(h':q≠i->listed.getD q true=true):(listed.setIfInBounds i true).getD q true=true:=by
 by_cases e:q=i
 . subst e
   have:=h rfl;simp[this]
 . rw[getD_set_ne true (Ne.symm e)];exact h' e
theorem Ki{i:Nat}{listed:Array Bool}(h:i∈Region.ready md ops listed):i<listed.size:=by
 have hun:=(mem_ready.1 h).1;rcases Nat.lt_or_ge i listed.size with h'|h'
 . exact h'
 . simp[Array.getElem?_eq_none h']at hun
def Made(W0:World)(x:Obj)(v:Value)(w:World):Prop:=∃b,v=.pointer (some ⟨b,0,none⟩)/\W0.heap.size<=b/\At w b x/\RowKit.Below W0.heap.size W0 w
theorem Iw(W0:World):Stable λw=>RowKit.Below W0.heap.size W0 w:=λ_ _ h hb=>Below.ay h aD hb
theorem Kj(W0:World)(x:Obj)(v:Value):Stable (Made W0 x v):=λ_ _ ⟨b,hv,h0,hA,h⟩ hb=>⟨b,hv,h0,hA.keep hb,Below.ay h aD hb⟩
theorem Ra{o:Oper}{os:List Oper}{a:Act}(hw:Region.wanted o (yielded ops a.tmps)=false)(h:iH P ops Q S N so tail os (a.put o.dst undef)):iH P ops Q S N so tail (o::os) a :=
 ⟨undef,.inr ⟨hw,rfl⟩,h⟩
theorem Np{o:Oper}{os:List Oper}{a:Act}{v:Value}(hw:Region.wanted o (yielded ops a.tmps)=true)(hv:∀w,S w->(execOp a.eval o).run P w=.ok (.value v) w)
  (h:iH P ops Q S N so tail os (a.put o.dst v)):iH P ops Q S N so tail (o::os) a :=
 ⟨v,.inl ⟨hw,λw hS=>by rw[hv w hS];exact⟨rfl,RowKit.Below.refl _ _⟩⟩,h⟩
theorem Rb{o:Oper}{os:List Oper}{a:Act}{v:Value}{f:FuncId}{args:Array Value}(hw:Region.wanted o (yielded ops a.tmps)=true)
  (hv:∀w,S w->(execOp a.eval o).run P w=.ok (.enter f args) w) (hc:∀w,S w->Calls P f args w λe w''=>e=.returned v/\RowKit.Below w.heap.size w w'')
  (h:iH P ops Q S N so tail os (a.put o.dst v)):iH P ops Q S N so tail (o::os) a :=
 ⟨v,.inl ⟨hw,λw hS=>by rw[hv w hS];exact hc w hS⟩,h⟩
theorem pX{W0:World}{x:Obj}{a:Act}(h:∀(b:Nat) (w:World),W0.heap.size<=b->At w b x->RowKit.Below W0.heap.size W0 w->nL P ops Q tail (a.put so.dst (.pointer (some ⟨b,0,none⟩))) w):iH P ops Q S (Made W0 x) so tail [] a :=
 λ_ w ⟨b,hv,hb,hA,hS⟩=>by subst hv;exact h b w hb hA hS
end
end Go.Proofs.YtmidaiklolmkcaaGreat.ak
namespace Go.Proofs.YtmidaiklolmkcaaGreat
open Go ak
section
variable {P:Program} {ops:Array Oper} {Q:Exit->Act->World->Prop} {md:Region.Mode} {S:World->Prop} {N:Value->World->Prop} {so:Oper} {tail:List Oper}
theorem sbk{o:Oper}{os:List Oper}{a a':Act}(h:iH P ops Q S N so tail os a')(hw:Region.wanted o (yielded ops a.tmps)=false:=by rfl)(ha:a.put o.dst undef=a':=by first|(simp only[Act.put,List.setIfInBounds_toArray,List.set_cons_zero,List.set_cons_succ];rfl)|(simp only[Act.put,List.setIfInBounds_toArray,List.set_cons_zero,List.set_cons_succ];done)|rfl):iH P ops Q S N so tail (o::os) a:=Ra hw (ha▸h)
theorem sbv{o:Oper}{os:List Oper}{a a':Act}{v:Value}(h:iH P ops Q S N so tail os a')(hw:Region.wanted o (yielded ops a.tmps)=true:=by rfl)
 (hv:∀w,S w->(execOp a.eval o).run P w=.ok (.value v) w:=by intro w2 hS;obtain⟨hc,hf⟩:=kY hS;go_simp;first|done|with_reducible rfl|exact⟨rfl,rfl⟩) (ha:a.put o.dst v=a':=by first|(simp only[Act.put,List.setIfInBounds_toArray,List.set_cons_zero,List.set_cons_succ];rfl)|(simp only[Act.put,List.setIfInBounds_toArray,List.set_cons_zero,List.set_cons_succ];done)|rfl):iH P ops Q S N so tail (o::os) a:=Np hw hv (ha▸h)
theorem sbc{d g x y t p af gd}{os:List Oper}{a a':Act}{v:Value}{f:FuncId}{args:Array Value}(h:iH P ops Q S N so tail os a')(hw:Region.wanted ⟨d,.call ⟨.value g,x,y⟩,t,p,af,gd⟩ (yielded ops a.tmps)=true:=by rfl)
 (hv:∀w,S w->(execOp a.eval ⟨d,.call ⟨.value g,x,y⟩,t,p,af,gd⟩).run P w=.ok (.enter f args) w:=by intro w2 hS;go_simp;first|done|with_reducible rfl|exact⟨rfl,rfl⟩) (hc:∀w,S w->Calls P f args w λe w''=>e=.returned v/\RowKit.Below w.heap.size w w'') (ha:a.put d v=a':=by first|(simp only[Act.put,List.setIfInBounds_toArray,List.set_cons_zero,List.set_cons_succ];rfl)|(simp only[Act.put,List.setIfInBounds_toArray,List.set_cons_zero,List.set_cons_succ];done)|rfl):iH P ops Q S N so tail (⟨d,.call ⟨.value g,x,y⟩,t,p,af,gd⟩::os) a:=Rb hw hv hc (ha▸h)
end
end Go.Proofs.YtmidaiklolmkcaaGreat
namespace Go.Proofs.YtmidaiklolmkcaaGreat.Fix
open Go.ChangeShapes Go.WideShapes Go.ChangeAt Go.RowKit
theorem Ints.lt{w:World}{A:Option Addr}{zs:List Int}(h:Ints w A zs)(h0:0<zs.length):∀x,A=some x->x.block<w.heap.size:=by
 intro x hx;obtain⟨b,off,rfl,hc⟩:=h.2 h0;injection hx with hx;subst hx;exact World.block_lt_of_cell? _ _ (hc 0 h0)
theorem Ints.after{W w:World}{A:Option Addr}{zs:List Int}(h:Ints W A zs)(hb:Below W.heap.size W w):Ints w A zs:=h.keep hb h.lt
theorem Ints.at_{w:World}{A:Option Addr}{zs:List Int}(h:Ints w A zs){k:Nat}(hk:k<zs.length):∃b off,A=some ⟨b,off,none⟩/\b<w.heap.size/\w.cell? ⟨b,off+k,none⟩=some (.int .i64 (zs.getD k 0)):=by
 obtain⟨b,off,rfl,hc⟩:=h.2 aj;exact⟨b,off,rfl,World.block_lt_of_cell? _ _ (hc k hk),hc k hk⟩
def aO(f:Nat->Int)(n k:Nat):Array Value:=((List.range n).map λj=>Value.int .i64 (if j<k then f j else 0)).toArray
theorem dh(f:Nat->Int){n k j:Nat}(h:j<n):(aO f n k)[j]? = some (.int .i64 (if j<k then f j else 0)):=by simp[aO,h]
theorem xJ(f:Nat->Int)(n k:Nat):(aO f n k).size=n:=by simp[aO]
theorem jT(f:Nat->Int)(n:Nat):madeCells #[.int .i64 0] n=aO f n 0:=by
 apply Array.ext
 . simp[aO,size_madeCells]
 . intro i h1 h2
   simp[madeCells,aO,Nat.mod_one]
theorem ku(f:Nat->Int){n k:Nat}(h:k<n):(aO f n k).setIfInBounds k (.int .i64 (f k))=aO f n (k+1):=by
 apply Array.ext_getElem?;intro i;rw[Array.getElem?_setIfInBounds,xJ];by_cases hin:i<n
 . rw[dh f hin,dh f hin]
   by_cases hik:k=i
   . subst hik;simp[hin]
   . simp only[hik,if_false]
     have:(i<k)=(i<k+1):=by simp;omega
     simp only[this]
 . have h1:(aO f n k)[i]? = none:=Array.getElem?_eq_none (by rw[xJ];omega)
   have h2:(aO f n (k+1))[i]? = none:=Array.getElem?_eq_none (by rw[xJ];omega);rw[h1,h2];rw[if_neg aj]
theorem Nq(f:Nat->Int)(n:Nat)(h:f 0=0):aO f n 0=aO f n 1:=by
 unfold aO;congr 1;apply List.map_congr_left;intro j hj;by_cases h0:j=0
 . subst h0;simp[h]
 . simp;omega
theorem E5{w:World}{b:Nat}{T:TypeId}(s t u:List Int)(n:Nat)(hn:n<=maxLen)(h:At w b (.cells (aO (Fx.kZ s t u) n n) T)):Ints w (some ⟨b,0,none⟩) (Fx.uV s t u n):=by
 refine⟨by rw[Fx.qU];exact hn,λh0=>⟨b,0,rfl,λk hk => ?_⟩⟩;rw[Fx.qU]at hk;rw[h.cell,Nat.zero_add,dh _ hk,Fx.CY _ _ _ hk];simp[hk]
theorem intZero:(Tryz.prog.info? 3).map (λi=>(i.zero,i.size,i.bytes))=some (some (.int .i64 0),1,8):=by kernel_rfl
theorem jU{w0 W:World}{base:Nat}{v:Value}{k m c:Nat}{xs l:List Int}{A:Option Addr}(hown:W.ownsRow base 3 1 v k (xs.map (Value.int .i64)))(hB:Below base w0 W)(hbase:base<=W.heap.size)
  (hI:Ints W A l) (hl:l.length=m) (hc:A=none->c=0) (hkm:k+m<=100000) :
  ∃v' w',(Builtin.append_ #[30,30] 30 #[v,.slice A m c]).run Tryz.prog W=.ok v' w'/\w'.ownsRow base 3 1 v' (k+m) ((xs++l).map (Value.int .i64))/\Below base w0 w'/\base<=w'.heap.size:=by
 obtain⟨i0,hi0,hz0,hz1,hz2⟩:=info_parts intZero;rcases A with _ | ad
 . have h0:l=[]:=by
    rcases Nat.eq_zero_or_pos l.length with h|h
    . exact List.eq_nil_of_length_eq_zero h
    . obtain⟨b,o,e,_⟩:=hI.2 h;cases e
   subst h0;subst hl;rw[hc rfl];exact⟨_,_,run_append_owned_none _ _ 30 30 3 i0 1 Tryz.underlying30 hi0 _ k _ hown,by simpa using hown,hB,hbase⟩
 . obtain⟨v',w',hr,ho,hg,_,_⟩:=run_append_own_at (P:=Tryz.prog) W base 30 30 3 i0 (.int .i64 0) 1 8 Tryz.underlying30 hi0 hz0 hz1 hz2 rfl aH _ k _ hown ad m c (l.map (Value.int .i64)) (by simp[hl])
    (by
     intro j u hu;have hj:j<l.length:=by
      rcases Nat.lt_or_ge j l.length with h|h
      . exact h
      . rw[List.getElem?_eq_none (by simpa using h)]at hu;cases hu
     obtain⟨b,o,e,hcell⟩:=hI.2 aj;injection e with e;subst e;have hcj:=hcell j hj;have e2:(⟨b,o,none⟩:Addr).add j=⟨b,o+j,none⟩:=by
      unfold Addr.add;split
      . subst j;rfl
      . rfl
     rw[e2,hcj,<-hu]
     simp[List.getElem?_eq_getElem hj])
    (by intro u hu;obtain⟨z,_,rfl⟩:=List.mem_map.1 hu;rfl) Py aj hbase
   refine⟨v',w',hr,by rw[List.map_append];exact ho,hB.grown hg hbase (λg hgg=>(hown.lt g hgg).1),?_⟩;exact aJ hbase hg.size
theorem Dt{w0 W:World}{base:Nat}{v:Value}{k:Nat}{xs:List Int}(x:Int)(hown:W.ownsRow base 3 1 v k (xs.map (Value.int .i64)))(hB:Below base w0 W)(hbase:base<=W.heap.size)(hk:k<=10000) :
  ∃v' w',(Builtin.append_ #[30,30] 30 #[v,.slice (some ⟨W.heap.size,0,none⟩) 1 1]).run Tryz.prog (W.alloc (.cells #[.int .i64 x] 3))=.ok v' w'/\w'.ownsRow base 3 1 v' (k+1) ((xs++[x]).map (Value.int .i64))/\Below base w0 w'/\base<=w'.heap.size :=
 jU (hown.alloc _) (hB.alloc hbase _) jM (Kg W [x] 3 eZ) rfl (λh=>by cases h) aj
def roundEnd(B:Nat)(K Kx:World->Prop)(W:World):Exit->Act->World->Prop
 | .normal,_,W'=>KeepsFrom B W W'/\K W'
 | .ret,_,W'=>KeepsFrom B W W'/\Kx W'
 | _,_,_=>False
def Held(W:World)(D:Nat)(r:Loop):Prop:=W.heap[D+1]? = some (.loop r)/\W.heap[D]? = some (.deferred (some []))
theorem Held.turn{W:World}{D:Nat}{r:Loop}(h:Held W D r)(r':Loop):Held (W.putObj (D+1) (.loop r')) D r' :=
 ⟨World.putObj_heap_same (Array.getElem?_eq_some_iff.1 h.1).1,(World.putObj_heap_other aj).trans h.2⟩
theorem Held.keep{W W':World}{D:Nat}{r:Loop}(h:Held W D r)(hk:KeepsFrom D W W'):Held W' D r :=
 ⟨hk.same _ _ aj h.1 rfl,hk.same _ _ aj h.2 rfl⟩
def Calm(B:Nat)(K:World->Prop):Prop:=∀W r o o',K W->B<=r->W.heap[r]? = some o'->o'.isCells=false->K (W.putObj r o)
theorem kD{P:Program}{n:Nat}{g:Operand}{ps:Array Tmp}{assign body:Code}{Q:Exit->Act->World->Prop}{a:Act}{w:World}
  {gf:FuncId} {first lb:Array Value} (hg:a.eval g=.func (.func gf) first lb) (eg:∀args w,(callFunc gf args).run P w=.ok (.enter gf args) w)
  (N:Nat) (fr:Nat->Bool) (xs:Nat->Array Value) (hps:∀i,(xs i).size=ps.size) (K:Nat->World->Prop) (Kx:World->Prop)
  (hK:∀i,Calm w.heap.size (K i)) (hKx:Calm w.heap.size Kx) (h0:∀o1 o2,K 0 ((w.alloc o1).alloc o2))
  (hit:∀(lp:Nat) (J:Nat->World->Prop) (Jx:World->Prop) (W:World),(∀i W,J i W->K i W)->(∀i W,i<N->fr i=true->J i W->J (i+1) W) ->
   (∀i W,i<N->fr i=false->J i W->YieldAt Fence.wide (n-1-1) P lp (xs i) W λe W'=>(e=.returned (.bool true)/\J (i+1) W')\/(e=.returned (.bool false)/\Jx W'))->J 0 W ->
   CallsIn Fence.wide (n-1) P gf (first ++ #[.func (.yield lp) #[] #[]]++lb) W λe W'=>(∃v,e=.returned v)/\(J N W'\/Jx W'))
  (PW:∀i W,i<N->fr i=true->K i W->K (i+1) W) (upd:Nat->Array Value->Array Value)
  (hassign:∀(l i:Nat) (W:World) (G:Act->World->Prop),i<N->G { tmps:=upd i a.tmps,defers:=[] } W ->
   assign.wpIn (Fence.wide.inRound l) (n-1-1) P (Exit.then G (λ_ _ _=>False)) { tmps:=(ps.zip (xs i)).foldl (λt (p,v)=>t.setIfInBounds p v) a.tmps,defers:=[] } W)
  (hbody:∀(l i:Nat) (W:World),i<N->fr i=false->K i W->body.wpIn (Fence.wide.inRound l) (n-1-1) P (roundEnd w.heap.size (K (i+1)) Kx W) { tmps:=upd i a.tmps,defers:=[] } W)
  (hdone:∀(D:Nat) (W:World),w.heap.size<=D->K N W->W.heap[D]? = some (.deferred (some []))->Q .normal { a with defers:={ target:=.collected D,args:=#[] }::a.defers } W)
  (hstop:∀(D:Nat) (W:World),w.heap.size<=D->Kx W->W.heap[D]? = some (.deferred (some []))->Code.ret.wpIn Fence.wide n P Q { a with defers:={ target:=.collected D,args:=#[] }::a.defers } W) :
  (Code.rangeFunc g ps assign body).wpIn Fence.wide n P Q a w:=by
 refine wpIn_rangeFunc λfn _ => ?_
 let L:LoopState->Option Code->Loop:=λs p=>{ state:=s,pending:=p,fn:=fn,tmps:=a.tmps,params:=ps,assign:=assign,body:=body,defers:=w.heap.size }
 have hH:Held ((w.alloc (.deferred (some []))).alloc (.loop (L .ready none))) w.heap.size (L .ready none):=by
  exact Z3u
 generalize hW:(w.alloc (.deferred (some []))).alloc (.loop (L .ready none))=W1 at hH;have h1:K 0 W1:=hW▸h0 _ _
 refine⟨w.heap.size+1,[{ target:=.collected w.heap.size,args:=#[] }],W1,{ target:=.fn (.func gf) lb,args:=first ++ #[.func (.yield (w.heap.size+1)) #[] #[]] },W1,gf,
  first ++ #[.func (.yield (w.heap.size+1)) #[] #[]]++lb,W1,?_,?_,λ_ _=>trivial,?_,λhd=>Z58,?_⟩
 . rw[<-hW];exact run_enterLoop_outer fn _ _ _ _
 . simp only[resolve,hg]
   simp[go_sem]
 . simp[invoke,go_sem,eg]
 refine(hit (w.heap.size+1) (λi W=>K i W/\Held W w.heap.size (L .ready none)) (λW=>Kx W/\Held W w.heap.size (L .done (some .ret))) _ (λ_ _ h=>h.1) (λi W hi hf h=>⟨PW i W hi hf h.1,h.2⟩) ?round ⟨h1,hH⟩).mono ?behind
 case round =>
  rintro i W hi hf ⟨hk,hh⟩;refine⟨fn,_,assign,body,run_yield hh.1 (hps i),roundIn_of_wpIn trivial (hassign _ i W _ hi ⟨_,run_beginRound hh.1 rfl,?_⟩)⟩;have hb:=hh.turn (L .busy none);refine wpIn_mono (hbody _ i _ hi hf (hK i _ _ _ _ hk aj hh.1 rfl)) ?_;intro e _ W3 hp;cases e with
  | normal =>
    have h3:=hb.keep hp.1;exact⟨_,_,run_endRound none h3.1,.inl ⟨rfl,hK _ _ _ _ _ hp.2 aj h3.1 rfl,h3.turn _⟩⟩
  | ret =>
    have h3:=hb.keep hp.1;exact⟨_,_,run_endRound (some .ret) h3.1,.inr ⟨rfl,hKx _ _ _ _ hp.2 aj h3.1 rfl,h3.turn _⟩⟩
  | exit _=>exact hp.elim
  | goto _=>exact hp.elim
  | panic _=>exact hp.elim
  | outgrown=>exact hp.elim
 case behind =>
  rintro e W2 ⟨⟨v,rfl⟩,⟨hk,hh⟩|⟨hk,hh⟩⟩
  . exact⟨none,_,run_endLoop hh.1 (by simp[L]),hdone _ _ aD (hK _ _ _ _ _ hk aj hh.1 rfl) (hh.turn _).2⟩
  . exact⟨some .ret,_,run_endLoop hh.1 (by simp[L]),hstop _ _ aD (hKx _ _ _ _ hk aj hh.1 rfl) (hh.turn _).2⟩
theorem UN(o:Oper)(h:(match o.op with | .defer _=>false | _=>true)=true):∀c,o.op ≠ .defer c:=by
 intro c hc;rw[hc]at h;cases h
theorem Nr{P:Program}{o:Oper}{a:Act}{n l:Nat}{K:Act->World->Prop}{Q:Exit->Act->World->Prop}{r:Result Next}(h:o.upon P a K Q r):o.uponIn (Fence.wide.inRound l) n P a K Q r:=by
 cases r with
 | ok x w' =>
   cases x<;>simp only[Oper.upon,Oper.uponIn]at h ⊢ <;> first
    | exact h
    | exact⟨λhd=>Z58,CallsIn.inRound l (callsIn_wide.2 h)⟩
    | (refine⟨λhd=>Z58,λc cs _ => ?_⟩
       obtain⟨v,w'',hr,hs⟩:=h c cs
       exact⟨v,w'',hr,stepsIn_wide.2 hs⟩)
 | halt x w'=>cases x<;>simp only[Oper.upon,Oper.uponIn]at h ⊢ <;> exact h
theorem UO{P:Program}{o:Oper}{a:Act}{w:World}{n l:Nat}{K:Act->World->Prop}{Q:Exit->Act->World->Prop}(hd:∀c,o.op ≠ .defer c)(h:o.wp P a w K Q):o.wpIn (Fence.wide.inRound l) n P a w K Q :=
 ⟨λ_ _=>trivial,by
  rw[show(Fence.wide.inRound l).round=some l from rfl,Oper.semAt_some l _ _ hd]
  exact Nr h⟩
end Go.Proofs.YtmidaiklolmkcaaGreat.Fix
namespace Go.Proofs.YtmidaiklolmkcaaGreat.ak
open Go
section
variable {P:Program} {ops:Array Oper} {Q:Exit->Act->World->Prop} {md:Region.Mode} {S:World->Prop}
def later(md:Region.Mode)(ops:Array Oper)(i:Nat)(oi:Oper):List Oper->Bool
 | []=>true
 | oj::r=>(oj.after.any (λe=>Region.binds md e&&e.on==i)||oi.apart ops oj)&&later md ops i oi r
def yJ(md:Region.Mode)(ops:Array Oper):Nat->List Oper->Bool
 | _,[]=>true
 | i,o::r=>(o.after.all (λe => !Region.binds md e||Nat.blt e.on i)&&later md ops i o r)&&yJ md ops (i+1) r
theorem Du{i:Nat}{oi:Oper}:∀{l:List Oper},later md ops i oi l=true->∀(k:Nat) (oj:Oper),l[k]? = some oj->(∃e∈oj.after,Region.binds md e=true/\e.on=i)\/oi.apart ops oj=true
 | [],_,k,oj,hk=>by simp at hk
 | o::r,h,k,oj,hk=>by
  simp only[later,Bool.and_eq_true,Bool.or_eq_true]at h;cases k with
  | zero =>
    simp only[List.getElem?_cons_zero,Option.some.injEq]at hk;subst hk;rcases h.1 with h1|h1
    . obtain⟨e,he,hb⟩:=Array.any_eq_true'.1 h1
      simp only[Bool.and_eq_true,beq_iff_eq]at hb;exact .inl ⟨e,he,hb.1,hb.2⟩
    . exact .inr h1
  | succ k=>exact Du h.2 k oj (by simpa using hk)
theorem Rc{q:Nat}{listed:Array Bool}(h:listed.getD q false=true):listed.getD q true=true:=by
 rcases Nat.lt_or_ge q listed.size with h'|h'
 . simp[h']at h ⊢;exact h
 . simp[Array.getElem?_eq_none h']
theorem Dv{m:Nat}(hs:Region.noSelect ops=true)(ht:bZ md ops m=true)(hm:ops.toList.length=m):∀(k:Nat) (os:List Oper) (i:Nat) (listed:Array Bool) (a:Act),ops.toList.drop i=os->i+k=m->listed.size=m ->
  (∀q,q<i->listed.getD q false=true)->(∀q,i<=q->q<m->listed.getD q true=false)->yJ md ops i os=true ->
  dY P ops Q S k os a->lI P md ops S m (λlisted a=>∀w,S w->wpAny P md ops Q 0 listed a w) k listed a
 | 0,os,i,listed,a,hd,hi,hz,hl,hl',hk,h=>by
  have hlen:os=[]:=by rw[<-hd];exact List.drop_eq_nil_of_le aj
  subst hlen;refine⟨λq hq => ?_,λw hS => ?_⟩
  . exact Rc (hl q aj)
  . refine uU (P:=P) (Q:=Q) [] i listed a w hd ?_ (h w hS)
    show(Region.ready md ops listed).isEmpty=true;rw[List.isEmpty_iff];refine List.eq_nil_iff_forall_not_mem.2 λq hq => ?_;obtain⟨hun,o,ho,_⟩:=mem_ready.1 hq;have hq':q<ops.size:=(Array.getElem?_eq_some_iff.1 ho).1;have:=hl q (by have:ops.size=m:=(by simpa using hm);omega);exact qj hun this
 | k+1,[],i,listed,a,_,_,_,_,_,_,h=>h.elim
 | k+1,o::os,i,listed,a,hd,hi,hz,hl,hl',hk,⟨v,hy,hn⟩=>by
  simp only[yJ,Bool.and_eq_true]at hk;obtain⟨⟨he,hlat⟩,hk⟩:=hk;obtain⟨ho,hd'⟩:=drop_cons hd;have him:i<m:=by omega
  have hr:i∈Region.ready md ops listed:=mem_ready.2 ⟨hl' i aD him,o,ho,λe hm hb=>by
   have h1:=Array.all_eq_true_iff_forall_mem.1 he e hm;simp only[hb,Bool.not_true,Bool.false_or]at h1
   exact hl _ (by simpa[Nat.blt_eq]using h1)⟩
  have hc:Clear md ops listed i o:=λj oj hj hji hun=>by
   have aiN:i<j:=by
    rcases Nat.lt_trichotomy i j with h'|h'|h'
    . exact h'
    . exact absurd h'.symm hji
    . exact(qj hun (hl j h')).elim
   refine Du hlat (j-(i+1)) oj ?_;rw[<-hd',List.getElem?_drop,show i+1+(j-(i+1))=j by omega];simpa using hj
  refine Gm ht him ho (Region.noSelect_spec hs) k listed a hc hr hy ?_;refine Dv hs ht hm k os (i+1) _ _ hd' aj (by simpa using hz) ?_ ?_ hk hn
  . intro q hq
    by_cases hqi:q=i
    . subst hqi
      simp[show q<listed.size by omega]
    . have:=hl q aj
      rw[getD_set_ne false (Ne.symm hqi)];exact this
  . intro q hq hqm
    rw[getD_set_ne true aj];exact hl' q aj hqm
theorem vk{id:Nat}{l:List Oper}{a:Act}{W0 w:World}(h0:RowKit.Below W0.heap.size W0 w)(hp:P.follows .mixedOrders=true)(hs:Region.noSelect l.toArray=true)
  (hk:yJ .any l.toArray 0 l=true) (h:dY P l.toArray Q (λw'=>RowKit.Below W0.heap.size W0 w') l.length l a):(Code.region id l.toArray true).wp P Q a w :=
 wp_region_any hp (by
  have ht:bZ .any l.toArray l.length=true:=by
   unfold bZ;rw[List.all_eq_true];intro j hj;have:j<l.length:=by simpa using hj
   simp[this]
  have h1:=lI.any (Q:=Q) (tf:=0) l.length (Array.replicate l.length false) a (Dv (md:=.any) (Q:=Q) (m:=l.length) hs ht eZ l.length l 0 (Array.replicate l.length false) a eZ aj eZ (λq hq=>by omega) (λq _ hq=>by simp[hq]) hk h) _ h0.drew;have e:l.toArray.size=0+l.length:=by simp
  rw[e];have e2:Array.replicate (0+l.length) false=Array.replicate l.length false:=by rw[Nat.zero_add]
  rw[e2];exact h1)
end
end Go.Proofs.YtmidaiklolmkcaaGreat.ak
namespace Go.Proofs.YtmidaiklolmkcaaGreat.ak
open Go Fix
section
variable {P:Program} {ops:Array Oper} {Q:Exit->Act->World->Prop} {md:Region.Mode} {S:World->Prop}
def tJ(l:List Oper):Bool:=l.all λo=>match o.op with | .defer _=>false | _=>true
theorem Iy{l:List Oper}(h:tJ l=true){i:Nat}{o:Oper}(ho:l.toArray[i]? = some o):∀c,o.op ≠ .defer c:=by
 have hm:o∈l:=by
  have:=Array.mem_of_getElem? ho;simpa using this
 exact UN o (List.all_eq_true.1 h o hm)
theorem Ns{l:List Oper}{n lp i:Nat}{K:Act->World->Prop}{a:Act}{w:World}(hd:tJ l=true)(ho:¬ LetsOut Q)(h:wpOp P l.toArray Q i K a w):wpOpIn (Fence.wide.inRound lp) n P l.toArray Q i K a w:=by
 unfold Go.wpOp at h;unfold Go.wpOpIn;cases hi:l.toArray[i]? with
 | none=>simpa[hi]using h
 | some o =>
   simp only[hi]at h ⊢;split at h
   . rename_i hw
     simp only[hw,if_true];exact UO (Iy hd hi) (h.resolve_right λh2=>ho h2.2)
   . rename_i hw
     simp only[hw,Bool.false_eq_true,if_false];exact⟨λ_ _=>trivial,h⟩
theorem qL{l:List Oper}{n lp:Nat}(hd:tJ l=true)(ho:¬ LetsOut Q):∀(fuel:Nat) (listed:Array Bool) (a:Act) (w:World),wpAny P md l.toArray Q fuel listed a w->wpAnyIn (Fence.wide.inRound lp) n P md l.toArray Q fuel listed a w
 | 0,_,_,_,h=>h
 | fuel+1,_,_,_,h=>⟨h.1,λi hi=>wpOpIn_mono (λa w=>qL hd ho fuel _ a w) (Ns hd ho (h.2 i hi))⟩
theorem Nt{id:Nat}{l:List Oper}{a:Act}{w:World}{n lp:Nat}(m t:Nat)(S:World->Prop)(hp:P.follows .mixedOrders=true)(hs:Region.noSelect l.toArray=true)
  (hl:l.length=m+t) (ht:bZ .any l.toArray m=true) (hk:lG .any l.toArray t m 0 (Array.replicate l.length false)=true) (hd:tJ l=true) (ho:¬ LetsOut Q) (hS:S w.drew) (h:dY P l.toArray Q S m l a):(Code.region id l.toArray true).wpIn (Fence.wide.inRound lp) n P Q a w :=
 wpIn_region_any hp (qL hd ho _ _ _ _ (by
  have h1:=lI.any (Q:=Q) (tf:=t) m (Array.replicate l.length false) a (Io (md:=.any) (Q:=Q) (m:=m) (t:=t) hs ht (by simpa using hl) m l 0 (Array.replicate l.length false) a eZ aj (λq hq=>by omega) hk h) _ hS;have e:l.toArray.size=t+m:=by simp;omega
  rw[e];have e2:Array.replicate (t+m) false=Array.replicate l.length false:=by rw[hl,Nat.add_comm]
  rw[e2];exact h1))
theorem Rf(l:List Oper):bZ .any l.toArray l.length=true:=by
 unfold bZ;rw[List.all_eq_true];intro j hj;have:j<l.length:=by simpa using hj
 simp[this]
theorem Nu{id:Nat}{l:List Oper}{a:Act}{W0 w:World}{n lp:Nat}(m t:Nat)(h0:RowKit.Below W0.heap.size W0 w)(hp:P.follows .mixedOrders=true)(hs:Region.noSelect l.toArray=true)
  (hl:l.length=m+t) (ht:bZ .any l.toArray m=true) (hk:lG .any l.toArray t m 0 (Array.replicate l.length false)=true) (hd:tJ l=true) (ho:¬ LetsOut Q) (h:dY P l.toArray Q (λw'=>RowKit.Below W0.heap.size W0 w') m l a):(Code.region id l.toArray true).wpIn (Fence.wide.inRound lp) n P Q a w :=
 Nt m t _ hp hs hl ht hk hd ho h0.drew h
theorem Nv{id:Nat}{l:List Oper}{a:Act}{W0 w:World}{n lp:Nat}(h0:RowKit.Below W0.heap.size W0 w)(hp:P.follows .mixedOrders=true)(hs:Region.noSelect l.toArray=true)
  (hk:yJ .any l.toArray 0 l=true) (hd:tJ l=true) (ho:¬ LetsOut Q) (h:dY P l.toArray Q (λw'=>RowKit.Below W0.heap.size W0 w') l.length l a):(Code.region id l.toArray true).wpIn (Fence.wide.inRound lp) n P Q a w :=
 wpIn_region_any hp (qL hd ho _ _ _ _ (by
  have h1:=lI.any (Q:=Q) (tf:=0) l.length (Array.replicate l.length false) a (Dv (md:=.any) (Q:=Q) (m:=l.length) hs (Rf l) eZ l.length l 0 (Array.replicate l.length false) a eZ aj eZ (λq hq=>by omega) (λq _ hq=>by simp[hq]) hk h) _ h0.drew;have e:l.toArray.size=0+l.length:=by simp
  rw[e];have e2:Array.replicate (0+l.length) false=Array.replicate l.length false:=by rw[Nat.zero_add]
  rw[e2];exact h1))
end
section
variable {P:Program} {ops:Array Oper} {Q:Exit->Act->World->Prop} {md:Region.Mode} {S:World->Prop} {m:Nat}
def Step(P:Program)(K:Value->World->Prop):Result Next->Prop
 | .ok (.value u) w'=>K u w'
 | .ok .skip w'=>K undef w'
 | .ok (.enter f args) w'=>Calls P f args w' λe w''=>∃u,e=.returned u/\K u w''
 | _=>False
theorem Step.mono{K K':Value->World->Prop}{r:Result Next}(h:Step P K r)(hk:∀u w,K u w->K' u w):Step P K' r:=by
 cases r with
 | ok x w' =>
   cases x<;>simp only[Step]at h ⊢
   case value=>exact hk _ _ h
   case skip=>exact hk _ _ h
   case enter=>exact h.mono λe w'' ⟨u,he,hu⟩=>⟨u,he,hk _ _ hu⟩
 | halt=>exact h.elim
theorem Step.value{K:Value->World->Prop}{r:Result Next}{u:Value}{w':World}(hr:r=.ok (.value u) w')(h:K u w'):Step P K r:=by subst hr;exact h
theorem Step.skip{K:Value->World->Prop}{r:Result Next}{w':World}(hr:r=.ok .skip w')(h:K undef w'):Step P K r:=by subst hr;exact h
theorem Step.call{K:Value->World->Prop}{r:Result Next}{f:FuncId}{args:Array Value}{w':World}{R:Ending->World->Prop}(hr:r=.ok (.enter f args) w')(hc:Calls P f args w' R)(h:∀e w'',R e w''->∃u,e=.returned u/\K u w''):Step P K r:=by
 subst hr;exact hc.mono h
def aZ(P:Program)(md:Region.Mode)(ops:Array Oper)(Q:Exit->Act->World->Prop)(S:World->Prop)(m:Nat):Nat->Array Bool->Act->World->Prop
 | 0,listed,a,w=>Region.ready md ops listed=[]/\Q .normal a w
 | fuel+1,listed,a,w =>
   Region.ready md ops listed≠[] /\
   ∀i∈Region.ready md ops listed,∃o,ops[i]? = some o /\
    ((Region.wanted o (yielded ops a.tmps)=true/\Step P (λu w'=>(i<m->S w')/\aZ P md ops Q S m fuel (listed.setIfInBounds i true) (a.put o.dst u) w') ((execOp a.eval o).run P w)) \/
     (Region.wanted o (yielded ops a.tmps)=false/\aZ P md ops Q S m fuel (listed.setIfInBounds i true) (a.put o.dst undef) w))
theorem aZ.any:∀(fuel:Nat) (listed:Array Bool) (a:Act) (w:World),aZ P md ops Q S m fuel listed a w->wpAny P md ops Q fuel listed a w
 | 0,_,_,_,h=>h
 | fuel+1,listed,a,w,h=>⟨λhr=>absurd hr h.1,λi hi=>by
  obtain⟨o,ho,hcase⟩:=h.2 i hi;unfold Go.wpOp;simp only[ho];rcases hcase with⟨hw,hs⟩|⟨hw,hs⟩
  . simp only[hw,if_true]
    refine .inl ?_;unfold Oper.wp;generalize (execOp a.eval o).run P w=r at *;cases r with
    | ok x w' =>
      cases x<;>simp only[Step]at hs<;>simp only[Oper.upon]
      case value=>exact aZ.any fuel _ _ _ hs.2
      case skip=>exact aZ.any fuel _ _ _ hs.2
      case enter=>exact Calls.mono hs λe w'' ⟨u,he,hu⟩=>by subst he;exact aZ.any fuel _ _ _ hu.2
    | halt=>exact hs.elim
  . simp only[hw,Bool.false_eq_true,if_false]
    exact aZ.any fuel _ _ _ hs⟩
def Reads(P:Program)(ops:Array Oper)(S:World->Prop)(o:Oper)(v:Value)(a:Act):Prop :=
 (Region.wanted o (yielded ops a.tmps)=true/\∀w,S w->(execOp a.eval o).run P w=.ok (.value v) w)\/(Region.wanted o (yielded ops a.tmps)=false/\v=undef)
theorem Reads.of_same{o:Oper}{v:Value}{a a':Act}(hy:Reads P ops S o v a)(he:execOp a'.eval o=execOp a.eval o)
  (hw:Region.wanted o (yielded ops a'.tmps)=Region.wanted o (yielded ops a.tmps)):Reads P ops S o v a':=by
 unfold Reads at *;rw[he,hw];exact hy
theorem Rh(ht:bZ md ops m=true)(hsel:∀(j:Nat) (o:Oper) cs b,ops[j]? = some o->o.op ≠ .select cs b){i:Nat}{oi:Oper}{v:Value}(him:i<m)(hi:ops[i]? = some oi)
  (fuel:Nat) (listed:Array Bool) (a:Act) (w:World) (hc:Clear md ops listed i oi) (hr:i∈Region.ready md ops listed) (hS:S w) (hy:Reads P ops S oi v a)
  (H:aZ P md ops Q S m fuel (listed.setIfInBounds i true) (a.put oi.dst v) w):aZ P md ops Q S m (fuel+1) listed a w:=by
 have self:∀(fuel:Nat) (listed:Array Bool) (a:Act) (w:World),S w->Reads P ops S oi v a->aZ P md ops Q S m fuel (listed.setIfInBounds i true) (a.put oi.dst v) w ->
   ∃o,ops[i]? = some o/\((Region.wanted o (yielded ops a.tmps)=true/\Step P (λu w'=>(i<m->S w')/\aZ P md ops Q S m fuel (listed.setIfInBounds i true) (a.put o.dst u) w') ((execOp a.eval o).run P w)) \/
    (Region.wanted o (yielded ops a.tmps)=false/\aZ P md ops Q S m fuel (listed.setIfInBounds i true) (a.put o.dst undef) w)):=by
  intro fuel listed a w hS hy H;rcases hy with⟨hw,hv⟩|⟨hw,rfl⟩
  . exact⟨oi,hi,.inl ⟨hw,Step.value (hv w hS) ⟨λ_=>hS,H⟩⟩⟩
  . exact⟨oi,hi,.inr ⟨hw,H⟩⟩
 induction fuel generalizing listed a w with
 | zero =>
   refine⟨List.ne_nil_of_mem hr,λj hj => ?_⟩;rcases Nat.decEq j i with hji|rfl
   . exfalso
     have:=ready_mono hj hji;rw[H.1]at this;cases this
   . exact self 0 listed a w hS hy H
 | succ fuel ih =>
   refine⟨List.ne_nil_of_mem hr,λj hj => ?_⟩;rcases Nat.decEq j i with hji|rfl
   . obtain⟨oj,ho,hcase⟩:=H.2 j (ready_mono hj hji)
     obtain⟨a1,a2,a3⟩:=Oper.apart_spec ((hc j oj ho hji (mem_ready.1 hj).1).resolve_left (ow hr hj ho));have hjm:j<m:=by
      rcases Nat.lt_or_ge j m with h'|h'
      . exact h'
      . exact(ow hr hj ho (uX ht ho h' him)).elim
     have e1:=execOp_put oj (λcs b=>hsel j oj cs b ho) a oi.dst v a1;have e2:=wanted_put oj a oi.dst v a1;refine⟨oj,ho,?_⟩;have next:∀(u:Value) (w':World),S w'->aZ P md ops Q S m fuel ((listed.setIfInBounds i true).setIfInBounds j true) ((a.put oi.dst v).put oj.dst u) w'->aZ P md ops Q S m (fuel+1) (listed.setIfInBounds j true) (a.put oj.dst u) w':=by
      intro u w' hS' hn;refine ih _ _ _ (hc.set j) (ready_mono hr (Ne.symm hji)) hS' ?_ ?_
      . exact Z20
      . exact Z3a
     rcases hcase with⟨hw,hs⟩|⟨hw,hs⟩
     . refine .inl ⟨by rw[<-e2];exact hw,?_⟩
       rw[e1]at hs;exact hs.mono λu w' ⟨h1,h2⟩=>⟨h1,next u w' (h1 hjm) h2⟩
     . exact .inr ⟨by rw[<-e2];exact hw,next _ _ hS hs⟩
   . exact self (fuel+1) listed a w hS hy H
theorem mK{i:Nat}{o:Oper}(h:ops.toList[i]? = some o):ops[i]? = some o:=by rw[<-h];simp
theorem rW{i:Nat}{oi:Oper}{v:Value}{fuel:Nat}{listed:Array Bool}{a:Act}{w:World}(hi0:ops.toList[i]? = some oi)(ht:bZ md ops m=true)(hs:Region.noSelect ops=true)
  (hf:Region.free md ops listed i=true) (hr:(Region.ready md ops listed).contains i=true) (him:i<m) (hS:S w) (hy:Reads P ops S oi v a)
  (H:aZ P md ops Q S m fuel (listed.setIfInBounds i true) (a.put oi.dst v) w):aZ P md ops Q S m (fuel+1) listed a w :=
 Rh ht (Region.noSelect_spec hs) him (mK hi0) fuel listed a w (oI (mK hi0) hf) (by simpa using hr) hS hy H
theorem ZE{i:Nat}{o:Oper}{fuel:Nat}{listed:Array Bool}{a:Act}{w:World}(hr:Region.ready md ops listed=[i])(hi0:ops.toList[i]? = some o)(hw:Region.wanted o (yielded ops a.tmps)=true)
  (h:Step P (λu w'=>(i<m->S w')/\aZ P md ops Q S m fuel (listed.setIfInBounds i true) (a.put o.dst u) w') ((execOp a.eval o).run P w)):aZ P md ops Q S m (fuel+1) listed a w :=
 ⟨by rw[hr];simp,λj hj=>by rw[hr]at hj;obtain rfl:j=i:=(by simpa using hj);exact⟨o,mK hi0,.inl ⟨hw,h⟩⟩⟩
theorem ZF{i j:Nat}{o o2:Oper}{fuel:Nat}{listed:Array Bool}{a:Act}{w:World}(hr:Region.ready md ops listed=[i,j])(hi0:ops.toList[i]? = some o)(hj0:ops.toList[j]? = some o2)(hw:Region.wanted o (yielded ops a.tmps)=true)(hw2:Region.wanted o2 (yielded ops a.tmps)=true)
  (h:Step P (λu w'=>(i<m->S w')/\aZ P md ops Q S m fuel (listed.setIfInBounds i true) (a.put o.dst u) w') ((execOp a.eval o).run P w))
  (h2:Step P (λu w'=>(j<m->S w')/\aZ P md ops Q S m fuel (listed.setIfInBounds j true) (a.put o2.dst u) w') ((execOp a.eval o2).run P w)):aZ P md ops Q S m (fuel+1) listed a w :=
 ⟨by rw[hr];simp,λk hk=>by
  rw[hr]at hk;rcases(show k=i\/k=j by simpa using hk)with rfl|rfl
  . exact⟨o,mK hi0,.inl ⟨hw,h⟩⟩
  . exact⟨o2,mK hj0,.inl ⟨hw2,h2⟩⟩⟩
theorem ZG{listed:Array Bool}{a:Act}{w:World}(hr:Region.ready md ops listed=[])(h:Q .normal a w):aZ P md ops Q S m 0 listed a w:=⟨hr,h⟩
theorem qX{id:Nat}{l:List Oper}{a:Act}{w:World}(m:Nat)(hp:P.follows .mixedOrders=true)(hS:S w.drew)
  (h:S w.drew->aZ P .any l.toArray Q S m l.toArray.size (Array.replicate l.toArray.size false) a w.drew):(Code.region id l.toArray true).wp P Q a w :=
 wp_region_any hp (aZ.any _ _ _ _ (h hS))
theorem Ri{id:Nat}{l:List Oper}{a:Act}{w:World}{n lp:Nat}(m:Nat)(hp:P.follows .mixedOrders=true)(hd:tJ l=true)(ho:¬ LetsOut Q)(hS:S w.drew)
  (h:S w.drew->aZ P .any l.toArray Q S m l.toArray.size (Array.replicate l.toArray.size false) a w.drew):(Code.region id l.toArray true).wpIn (Fence.wide.inRound lp) n P Q a w :=
 wpIn_region_any hp (qL hd ho _ _ _ _ (aZ.any _ _ _ _ (h hS)))
theorem kE{c:Code}{a0:Act}{w0:World}{Q:Exit->Act->World->Prop}(F:Act->Act->World->Prop)(h1:c.wp P (λe a w=>e=.normal/\F a0 a w) a0 w0)(h2:∀a w,F a0 a w->Q .normal a w):c.wp P Q a0 w0 :=
 wp_mono h1 λe a w ⟨he,hf⟩=>by subst he;exact h2 a w hf
end
end Go.Proofs.YtmidaiklolmkcaaGreat.ak
namespace Go.Proofs.YtmidaiklolmkcaaGreat
open Go ak
section
variable {P:Program} {ops:Array Oper} {Q:Exit->Act->World->Prop} {md:Region.Mode} {S:World->Prop} {m:Nat}
theorem aM(i:Nat){oi:Oper}{v:Value}{fuel:Nat}{listed l':Array Bool}{a a':Act}{w:World}(H:aZ P md ops Q S m fuel l' a' w)(hi0:ops.toList[i]? = some oi:=by rfl)(ht:bZ md ops m=true:=by kernel_rfl)(hs:Region.noSelect ops=true:=by kernel_rfl)
 (hf:Region.free md ops listed i=true:=by kernel_rfl) (hr:(Region.ready md ops listed).contains i=true:=by kernel_rfl) (him:i<m:=by omega) (hS:S w:=by assumption) (hy:Reads P ops S oi v a:=by first|exact .inr ⟨by rfl,rfl⟩|exact .inl ⟨by rfl,by intro w2 hS;obtain⟨hc,hf⟩:=kY hS;go_simp;first|done|with_reducible rfl|exact⟨rfl,rfl⟩⟩)
 (hl:listed.setIfInBounds i true=l':=by first|(simp only[Act.put,List.setIfInBounds_toArray,List.set_cons_zero,List.set_cons_succ];rfl)|(simp only[Act.put,List.setIfInBounds_toArray,List.set_cons_zero,List.set_cons_succ];done)|rfl) (ha:a.put oi.dst v=a':=by first|(simp only[Act.put,List.setIfInBounds_toArray,List.set_cons_zero,List.set_cons_succ];rfl)|(simp only[Act.put,List.setIfInBounds_toArray,List.set_cons_zero,List.set_cons_succ];done)|rfl):aZ P md ops Q S m (fuel+1) listed a w:=rW hi0 ht hs hf hr him hS hy (hl▸ha▸H)
theorem aW(i:Nat){oi:Oper}{v:Value}{fuel:Nat}{listed l':Array Bool}{a a':Act}{w:World}(H:aZ P md ops Q S m fuel l' a' w)(hi0:ops.toList[i]? = some oi:=by rfl)(ht:bZ md ops m=true:=by kernel_rfl)(hs:Region.noSelect ops=true:=by kernel_rfl)
 (hf:Region.free md ops listed i=true:=by kernel_rfl) (hr:(Region.ready md ops listed).contains i=true:=by kernel_rfl) (him:i<m:=by omega) (hS:S w:=by first|assumption|exact hS0) (hy:Reads P ops S oi v a:=by first|exact .inr ⟨by rfl,rfl⟩|exact .inl ⟨by rfl,by intro w2 hS;(repeat (obtain⟨_,hS⟩:_/\_:=hS));go_simp;first|done|with_reducible rfl|exact⟨rfl,rfl⟩⟩)
 (hl:listed.setIfInBounds i true=l':=by first|(simp only[Act.put,List.setIfInBounds_toArray,List.set_cons_zero,List.set_cons_succ];rfl)|(simp only[Act.put,List.setIfInBounds_toArray,List.set_cons_zero,List.set_cons_succ];done)|rfl) (ha:a.put oi.dst v=a':=by first|(simp only[Act.put,List.setIfInBounds_toArray,List.set_cons_zero,List.set_cons_succ];rfl)|(simp only[Act.put,List.setIfInBounds_toArray,List.set_cons_zero,List.set_cons_succ];done)|rfl):aZ P md ops Q S m (fuel+1) listed a w:=rW hi0 ht hs hf hr him hS hy (hl▸ha▸H)
theorem jJ(i:Nat){oi:Oper}{v:Value}{fuel:Nat}{listed l':Array Bool}{a a':Act}{w:World}(H:aZ P md ops Q S m fuel l' a' w)(hi0:ops.toList[i]? = some oi:=by rfl)(ht:bZ md ops m=true:=by kernel_rfl)(hs:Region.noSelect ops=true:=by kernel_rfl)
 (hf:Region.free md ops listed i=true:=by kernel_rfl) (hr:(Region.ready md ops listed).contains i=true:=by kernel_rfl) (him:i<m:=by omega) (hS:S w:=by assumption) (hy:Reads P ops S oi v a:=by first|exact .inr ⟨by rfl,rfl⟩|exact .inl ⟨by rfl,by intro w2 hS;have hc:=yK hS;go_simp;first|done|with_reducible rfl|exact⟨rfl,rfl⟩⟩)
 (hl:listed.setIfInBounds i true=l':=by first|(simp only[Act.put,List.setIfInBounds_toArray,List.set_cons_zero,List.set_cons_succ];rfl)|(simp only[Act.put,List.setIfInBounds_toArray,List.set_cons_zero,List.set_cons_succ];done)|rfl) (ha:a.put oi.dst v=a':=by first|(simp only[Act.put,List.setIfInBounds_toArray,List.set_cons_zero,List.set_cons_succ];rfl)|(simp only[Act.put,List.setIfInBounds_toArray,List.set_cons_zero,List.set_cons_succ];done)|rfl):aZ P md ops Q S m (fuel+1) listed a w:=rW hi0 ht hs hf hr him hS hy (hl▸ha▸H)
theorem TD(i:Nat){oi:Oper}{v:Value}{fuel:Nat}{listed l':Array Bool}{a a':Act}{w:World}(H:aZ P md ops Q S m fuel l' a' w)(hi0:ops.toList[i]? = some oi:=by rfl)(ht:bZ md ops m=true:=by kernel_rfl)(hs:Region.noSelect ops=true:=by kernel_rfl)
 (hf:Region.free md ops listed i=true:=by kernel_rfl) (hr:(Region.ready md ops listed).contains i=true:=by kernel_rfl) (him:i<m:=by omega) (hS:S w:=by assumption) (hy:Reads P ops S oi v a:=by first|exact .inr ⟨by rfl,rfl⟩|exact .inl ⟨by rfl,by intro w2 hS;have hc:=Kk hS;go_simp;first|done|with_reducible rfl|exact⟨rfl,rfl⟩⟩)
 (hl:listed.setIfInBounds i true=l':=by first|(simp only[Act.put,List.setIfInBounds_toArray,List.set_cons_zero,List.set_cons_succ];rfl)|(simp only[Act.put,List.setIfInBounds_toArray,List.set_cons_zero,List.set_cons_succ];done)|rfl) (ha:a.put oi.dst v=a':=by first|(simp only[Act.put,List.setIfInBounds_toArray,List.set_cons_zero,List.set_cons_succ];rfl)|(simp only[Act.put,List.setIfInBounds_toArray,List.set_cons_zero,List.set_cons_succ];done)|rfl):aZ P md ops Q S m (fuel+1) listed a w:=rW hi0 ht hs hf hr him hS hy (hl▸ha▸H)
theorem gJ(i:Nat){oi:Oper}{v:Value}{fuel:Nat}{listed l':Array Bool}{a a':Act}{w:World}(H:aZ P md ops Q S m fuel l' a' w)(hi0:ops.toList[i]? = some oi:=by rfl)(ht:bZ md ops m=true:=by kernel_rfl)(hs:Region.noSelect ops=true:=by kernel_rfl)
 (hf:Region.free md ops listed i=true:=by kernel_rfl) (hr:(Region.ready md ops listed).contains i=true:=by kernel_rfl) (him:i<m:=by omega) (hS:S w:=by assumption) (hy:Reads P ops S oi v a:=by first|exact .inr ⟨by rfl,rfl⟩|exact .inl ⟨by rfl,by intro w2 hS;obtain⟨hS,hSs⟩:=hS;(repeat (obtain⟨_,hSs⟩:_/\_:=hSs));(first|have hc:=yK hS|have hc:=Kk hS);go_simp;first|done|with_reducible rfl|exact⟨rfl,rfl⟩⟩)
 (hl:listed.setIfInBounds i true=l':=by first|(simp only[Act.put,List.setIfInBounds_toArray,List.set_cons_zero,List.set_cons_succ];rfl)|(simp only[Act.put,List.setIfInBounds_toArray,List.set_cons_zero,List.set_cons_succ];done)|rfl) (ha:a.put oi.dst v=a':=by first|(simp only[Act.put,List.setIfInBounds_toArray,List.set_cons_zero,List.set_cons_succ];rfl)|(simp only[Act.put,List.setIfInBounds_toArray,List.set_cons_zero,List.set_cons_succ];done)|rfl):aZ P md ops Q S m (fuel+1) listed a w:=rW hi0 ht hs hf hr him hS hy (hl▸ha▸H)
theorem rO(i:Nat){oi:Oper}{v:Value}{fuel:Nat}{listed l':Array Bool}{a a':Act}{w:World}(hi0:ops.toList[i]? = some oi)(hy:Reads P ops S oi v a)(H:aZ P md ops Q S m fuel l' a' w)(ht:bZ md ops m=true:=by kernel_rfl)(hs:Region.noSelect ops=true:=by kernel_rfl)
 (hf:Region.free md ops listed i=true:=by kernel_rfl) (hr:(Region.ready md ops listed).contains i=true:=by kernel_rfl) (him:i<m:=by omega) (hS:S w:=by assumption)
 (hl:listed.setIfInBounds i true=l':=by first|(simp only[Act.put,List.setIfInBounds_toArray,List.set_cons_zero,List.set_cons_succ];rfl)|(simp only[Act.put,List.setIfInBounds_toArray,List.set_cons_zero,List.set_cons_succ];done)|rfl) (ha:a.put oi.dst v=a':=by first|(simp only[Act.put,List.setIfInBounds_toArray,List.set_cons_zero,List.set_cons_succ];rfl)|(simp only[Act.put,List.setIfInBounds_toArray,List.set_cons_zero,List.set_cons_succ];done)|rfl):aZ P md ops Q S m (fuel+1) listed a w:=rW hi0 ht hs hf hr him hS hy (hl▸ha▸H)
theorem tk1(i:Nat){o:Oper}{fuel:Nat}{listed:Array Bool}{a:Act}{w:World}(h:Step P (λu w'=>(i<m->S w')/\aZ P md ops Q S m fuel (listed.setIfInBounds i true) (a.put o.dst u) w') ((execOp a.eval o).run P w))(hr:Region.ready md ops listed=[i]:=by kernel_rfl)(hi0:ops.toList[i]? = some o:=by rfl)(hw:Region.wanted o (yielded ops a.tmps)=true:=by rfl):aZ P md ops Q S m (fuel+1) listed a w:=ZE hr hi0 hw h
theorem tk2(i j:Nat){o o2:Oper}{fuel:Nat}{listed:Array Bool}{a:Act}{w:World}(h:Step P (λu w'=>(i<m->S w')/\aZ P md ops Q S m fuel (listed.setIfInBounds i true) (a.put o.dst u) w') ((execOp a.eval o).run P w))
 (h2:Step P (λu w'=>(j<m->S w')/\aZ P md ops Q S m fuel (listed.setIfInBounds j true) (a.put o2.dst u) w') ((execOp a.eval o2).run P w)) (hr:Region.ready md ops listed=[i,j]:=by kernel_rfl) (hi0:ops.toList[i]? = some o:=by rfl) (hj0:ops.toList[j]? = some o2:=by rfl) (hw:Region.wanted o (yielded ops a.tmps)=true:=by rfl) (hw2:Region.wanted o2 (yielded ops a.tmps)=true:=by rfl):aZ P md ops Q S m (fuel+1) listed a w:=ZF hr hi0 hj0 hw hw2 h h2
theorem ko{listed:Array Bool}{a:Act}{w:World}(h:Q .normal a w)(hr:Region.ready md ops listed=[]:=by kernel_rfl):aZ P md ops Q S m 0 listed a w:=ZG hr h
theorem uM{i fuel:Nat}{o:Oper}{r:Result Next}{u:Value}{w':World}{listed l':Array Bool}{a a':Act}(h:aZ P md ops Q S m fuel l' a' w')(hr:r=.ok (.value u) w':=by go_simp;first|done|with_reducible rfl|exact⟨rfl,rfl⟩)(hS:i<m->S w')(hl:listed.setIfInBounds i true=l':=by first|(simp only[Act.put,List.setIfInBounds_toArray,List.set_cons_zero,List.set_cons_succ];rfl)|(simp only[Act.put,List.setIfInBounds_toArray,List.set_cons_zero,List.set_cons_succ];done)|rfl)(ha:a.put o.dst u=a':=by first|(simp only[Act.put,List.setIfInBounds_toArray,List.set_cons_zero,List.set_cons_succ];rfl)|(simp only[Act.put,List.setIfInBounds_toArray,List.set_cons_zero,List.set_cons_succ];done)|rfl):Step P (λu w'=>(i<m->S w')/\aZ P md ops Q S m fuel (listed.setIfInBounds i true) (a.put o.dst u) w') r:=Step.value hr ⟨hS,hl▸ha▸h⟩
theorem lF{id:Nat}{l:List Oper}{a:Act}{w:World}(m:Nat)(hS:S w.drew)(h:S w.drew->aZ P .any l.toArray Q S m l.toArray.size (Array.replicate l.toArray.size false) a w.drew)(hp:P.follows .mixedOrders=true:=by kernel_rfl):(Code.region id l.toArray true).wp P Q a w:=qX m hp hS h
end
end Go.Proofs.YtmidaiklolmkcaaGreat
namespace Go.Proofs.YtmidaiklolmkcaaGreat.Fix
open Go.ChangeShapes Go.WideShapes Go.ChangeAt Go.RowKit
section
variable {ops:Array Oper} {rest:List Oper} {o:Oper} {a:Act} {w w':World} {Q:Exit->Act->World->Prop}
theorem eu{P:Program}{v:Value}(hw:Region.wanted o (yielded ops a.tmps)=true)(hrun:(execOp a.eval o).run P w=.ok (.value v) w')(h:wpList P ops Q rest (a.put o.dst v) w'):wpList P ops Q (o::rest) a w:=by
 exact Z39
theorem oK{P:Program}(hw:Region.wanted o (yielded ops a.tmps)=true)(hrun:(execOp a.eval o).run P w=.ok .skip w')(h:wpList P ops Q rest (a.put o.dst undef) w'):wpList P ops Q (o::rest) a w:=by
 exact Z39
theorem dn(hw:Region.wanted o (yielded ops a.tmps)=true)(ho:o.op=.alloc 46)(h:wpList Tryz.prog ops Q rest (a.put o.dst (.pointer (some ⟨w.heap.size,0,none⟩))) (w.alloc (.cells (cells Re.zero) 46))):wpList Tryz.prog ops Q (o::rest) a w :=
 eu hw (by unfold execOp;simp only[ho,Sem.run_bind,Ar,Result.andThen_ok,Sem.run_pure]) h
theorem eP(hw:Region.wanted o (yielded ops a.tmps)=true)(ho:o.op=.build 46 #[])(h:wpList Tryz.prog ops Q rest (a.put o.dst (.agg (cells Re.zero))) w):wpList Tryz.prog ops Q (o::rest) a w :=
 eu hw (by unfold execOp;simp only[ho,Sem.run_bind,List.map_toArray,List.map_nil,Kc,Result.andThen_ok,Sem.run_pure]) h
theorem bq(hw:Region.wanted o (yielded ops a.tmps)=true)(x:Operand)(ho:o.op=.load 46 x){b:Nat}(hx:a.eval x=.pointer (some ⟨b,0,none⟩)){s:Re.St}(hs:At w b (.cells (cells s) 46))
  (h:wpList Tryz.prog ops Q rest (a.put o.dst (.agg (cells s))) w):wpList Tryz.prog ops Q (o::rest) a w :=
 eu hw (by unfold execOp;simp only[ho,hx,Sem.run_bind,Dl hs,Result.andThen_ok,Sem.run_pure]) h
theorem dJ(hw:Region.wanted o (yielded ops a.tmps)=true)(x y:Operand)(ho:o.op=.store 46 x y){b:Nat}(hx:a.eval x=.pointer (some ⟨b,0,none⟩)){s t:Re.St}(hy:a.eval y=.agg (cells t))(hs:At w b (.cells (cells s) 46))
  (h:wpList Tryz.prog ops Q rest (a.put o.dst undef) (w.setRow b (cells t))):wpList Tryz.prog ops Q (o::rest) a w :=
 oK hw (by unfold execOp;simp only[ho,hx,hy,Sem.run_bind,uZ hs,Result.andThen_ok,Sem.run_pure]) h
theorem eT(hw:Region.wanted o (yielded ops a.tmps)=true)(x y:Operand)(ho:o.op=.store 46 x y){b:Nat}(hx:a.eval x=.pointer (some ⟨b,0,none⟩)){s:Re.St}(hy:a.eval y=.agg (cells s))(hs:At w b (.cells (cells s) 46))
  (h:wpList Tryz.prog ops Q rest (a.put o.dst undef) w):wpList Tryz.prog ops Q (o::rest) a w :=
 oK hw (by unfold execOp;simp only[ho,hx,hy,Sem.run_bind,zM hs,Result.andThen_ok,Sem.run_pure]) h
end
theorem addr_add(b off k:Nat):(⟨b,off,none⟩:Addr).add k=⟨b,off+k,none⟩:=by
 unfold Addr.add;split
 . subst k;rfl
 . rfl
theorem Ints.from_{w:World}{A:Option Addr}{l:List Int}(h:Ints w A l)(k cap:Nat)(hk:k<=l.length)(hc:l.length<=cap):Ints w (if cap=k then A else A.map (·.add (k*1))) (l.drop k):=by
 refine⟨by rw[List.length_drop];have:=h.1;omega,λh0 => ?_⟩;rw[List.length_drop]at h0;obtain⟨b,off,rfl,hcell⟩:=h.2 aj;rw[if_neg aj];refine⟨b,off+k,by simp[addr_add],λj hj => ?_⟩;rw[List.length_drop]at hj;have:=hcell (k+j) aj;rw[Nat.add_assoc,this];simp[List.getD]
theorem Ints.upto{w:World}{A:Option Addr}{l:List Int}(h:Ints w A l)(k cap:Nat)(hk:k<=l.length)(hc:l.length<=cap):Ints w (if cap=0 then A else A.map (·.add (0*1))) (l.take k):=by
 refine⟨by rw[List.length_take];have:=h.1;omega,λh0 => ?_⟩;rw[List.length_take]at h0;obtain⟨b,off,rfl,hcell⟩:=h.2 aj;rw[if_neg aj];refine⟨b,off,by simp[addr_add],λj hj => ?_⟩;rw[List.length_take]at hj;rw[hcell j aj];simp[List.getD,show j<k by omega]
theorem qY{P:Program}{w:World}{ops:Array Oper}{rest:List Oper}{o:Oper}{a:Act}{Q:Exit->Act->World->Prop}{t:TypeId}{x:Operand}{lo hi mx:Option Operand}{v:Value}(ho:o.op=.slice t x lo hi mx)(hw:Region.wanted o (yielded ops a.tmps)=true)
  (hrun:(Instr.sliceAt t (a.eval x) (lo.map a.eval) (hi.map a.eval) (mx.map a.eval)).run P w=.ok v w) (h:wpList P ops Q rest (a.put o.dst v) w):wpList P ops Q (o::rest) a w:=by
 unfold wpList;rw[if_pos hw];refine .inl ?_;unfold Oper.wp execOp;simp only[ho,Sem.run_bind,Sem.run_pure,hrun,Result.andThen_ok];exact h
theorem qo(A:Option Addr)(n c k:Nat)(hk:k<=n)(W:World):(Instr.sliceAt 30 (.slice A n c) (some (.int .i64 (k:Int))) none none).run Tryz.prog W=.ok (.slice (if c=k then A else A.map (·.add (k*1))) (n-k) (c-k)) W:=by
 have he:Tryz.prog.elem 30=3:=by kernel_rfl
 have hu:Tryz.prog.underlying 30=some (.slice (Tryz.prog.elem 30)):=by rw[he];exact Tryz.underlying30
 obtain⟨i0,hi0,hz0,hz1,hz2⟩:=info_parts intZero;rw[run_sliceAt_slice (h:=hu),run_slice_l (ht:=hu) (h0:=by omega) (h1:=by omega),he];simp[sizeOf,typeInfo,hi0,hz1,sliced,go_sem]
theorem Dw(A:Option Addr)(n c k:Nat)(hk:k<=c)(W:World):(Instr.sliceAt 30 (.slice A n c) none (some (.int .i64 (k:Int))) none).run Tryz.prog W=.ok (.slice (if c=0 then A else A.map (·.add (0*1))) k c) W:=by
 have he:Tryz.prog.elem 30=3:=by kernel_rfl
 have hu:Tryz.prog.underlying 30=some (.slice (Tryz.prog.elem 30)):=by rw[he];exact Tryz.underlying30
 obtain⟨i0,hi0,hz0,hz1,hz2⟩:=info_parts intZero;rw[run_sliceAt_slice (h:=hu),run_slice_h (ht:=hu) (h0:=by omega) (h2:=by omega),he];simp[sizeOf,typeInfo,hi0,hz1,sliced,go_sem]
theorem zB(n lo hi:Int)(w:World):Calls Tryz.prog 85 #[.int .i64 n,.int .i64 lo,.int .i64 hi] w λe w'=>e=.returned (.bool (Re.inn n lo hi))/\w=w':=by
 by_cases h1:lo<=n
 . have e1:decide (lo<=n)=true:=decide_eq_true h1
   by_cases h2:n<=hi
   . have e2:decide (n<=hi)=true:=decide_eq_true h2
     have wH:=ah (show Re.inn n lo hi=true by unfold Re.inn;rw[e1,e2];rfl);exact Z3q
   . have e2:decide (n<=hi)=false:=decide_eq_false h2
     have wH:=ah (show Re.inn n lo hi=false by unfold Re.inn;rw[e1,e2];rfl);exact Z3q
 . have e1:decide (lo<=n)=false:=decide_eq_false h1
   have wH:=ah (show Re.inn n lo hi=false by unfold Re.inn;rw[e1];rfl);exact Z3q
theorem dL{P:Program}{w w':World}{o:Oper}{a:Act}(s x:Operand)(t:TypeId)(ho:o.op=.call { callee:=.builtin .append,args:=#[s,x],argTypes:=#[t,t] }){v u v':Value}(hs:a.eval s=v)(hx:a.eval x=u)
  (hrun:(Builtin.append_ #[t,t] o.type #[v,u]).run P w=.ok v' w'):(execOp a.eval o).run P w=.ok (.value v') w':=by
 exact Z1w
def qZ(v u:Value):Prop:=v.ownBlock=none\/u.ownBlock=none\/v.ownBlock≠u.ownBlock
theorem qZ.symm{v u:Value}(h:qZ v u):qZ u v:=by
 rcases h with h|h|h
 . exact .inr (.inl h)
 . exact .inl h
 . exact .inr (.inr (Ne.symm h))
theorem fK{W:World}{base:Nat}{e:TypeId}{sz k:Nat}{v:Value}{xs:List Value}(h:W.ownsRow base e sz v k xs):∃A c,v=.slice A k c:=by
 rcases h.2 with⟨rfl,h0⟩|⟨g,cap,cur,rfl,_⟩
 . exact⟨none,0,by rw[h0]⟩
 . exact⟨_,_,rfl⟩
theorem jl{t e T T2:TypeId}{i0:TypeInfo}{z:Value}{sz by_:Nat}(ht:Tryz.prog.underlying t=some (.slice e))(hi:Tryz.prog.info? e=some i0)(hz0:i0.zero=some z)(hz1:i0.size=sz)(hz2:i0.bytes=by_)(hzc:z.cells.size=sz)(hsz:0<sz)(hby:by_<=100)
  {W:World} {base k m m2 sz2:Nat} {v u:Value} {xs ys news:List Value} (hu:W.ownsRow base e sz u k xs) (hv:W.ownsRow base T2 sz2 v m2 ys) (ha:qZ v u) (hbase:base<=W.heap.size) (hnl:news.length=m*sz) (h1:∀x∈news,x.oneCell'=true) (hk:k+m<=1000) :
  ∃A' c' w',(Builtin.append_ #[t,t] t #[u,.slice (some ⟨W.heap.size,0,none⟩) m m]).run Tryz.prog (W.alloc (.cells news.toArray T))=.ok (.slice A' (k+m) c') w' /\
   w'.ownsRow base e sz (.slice A' (k+m) c') (k+m) (xs++news)/\w'.ownsRow base T2 sz2 v m2 ys/\qZ v (.slice A' (k+m) c')/\Below base W w'/\base<=w'.heap.size:=by
 have hA:=At.new W (.cells news.toArray T)
 obtain⟨v',w',hr,ho,hg,_,hblk⟩:=run_append_own_at (P:=Tryz.prog) (w:=W.alloc (.cells news.toArray T)) base t t e i0 z sz by_ ht hi hz0 hz1 hz2 hzc hsz u k _ (hu.alloc _) ⟨W.heap.size,0,none⟩ m m news hnl
  (by intro j x hj
      have e:(⟨W.heap.size,0,none⟩:Addr).add j=⟨W.heap.size,0+j,none⟩:=Addr.add_mid _ _ _;rw[e,Nat.zero_add,hA.cell,<-hj]
      simp)
  h1 Py (aJ (Nat.mul_le_mul hk hby) aH) jM
 obtain⟨A',c',rfl⟩:=fK ho;have hvb:v.ownBlock=none\/v.ownBlock≠u.ownBlock:=by
  exact Z3x
 refine⟨A',c',w',hr,ho,(hv.alloc _).kept hg hvb,?_,(Below.alloc (Below.refl base W) hbase _).grown hg jM (λj ej=>(hu.lt j ej).1),?_⟩
 . exact Z37
 . have:=hg.size
   simp at this;omega
theorem yL{W:World}{base sz n:Nat}{xs:List Value}{e:TypeId}(hb:base<=W.heap.size)(hl:xs.length=n*sz)(hn:n<=1000):(W.alloc (.cells xs.toArray e)).ownsRow base e sz (.slice (some ⟨W.heap.size,0,none⟩) n n) n xs:=by
 refine⟨hl,.inr ⟨W.heap.size,n,xs.toArray,rfl,hb,At.new W _,aG _,by unfold maxLen;omega,by simpa using hl,?_⟩⟩;simp[<-hl]
theorem Rj{W:World}{base sz n g:Nat}{xs:List Value}{e:TypeId}(hg:g=W.heap.size)(hb:base<=W.heap.size)(hl:xs.length=n*sz)(hn:n<=1000):(W.alloc (.cells xs.toArray e)).ownsRow base e sz (.slice (some ⟨g,0,none⟩) n n) n xs:=by
 subst hg;exact yL hb hl hn
theorem zO{W:World}{base sz n c:Nat}{A:Option Addr}{xs:List Value}{e:TypeId}(h:W.ownsRow base e sz (.slice A n c) n xs)(h0:0<n):∃g,A=some ⟨g,0,none⟩/\base<=g/\g<W.heap.size/\∀(j:Nat) (v:Value),xs[j]? = some v->W.cell? ⟨g,j,none⟩=some v:=by
 rcases h.2 with⟨e1,h1⟩|⟨g,cap,cur,e1,hb,hg,_,_,_,hx⟩
 . omega
 . injection e1 with e1
   refine⟨g,e1,hb,(Array.getElem?_eq_some_iff.1 hg).1,λj v hj => ?_⟩;rw[cell_of_row W g j cur e (0,0) hg];rw[<-hx,List.getElem?_take]at hj;split at hj
   . simpa using hj
   . cases hj
end Go.Proofs.YtmidaiklolmkcaaGreat.Fix
