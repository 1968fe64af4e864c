/- Proved here: what functions of the program do, in plain numbers (part 6); no conditions but those in sight. -/
import Derived.Deep.OwnRows
import Derived.Maps.AppendAt
import Derived.Deep.RegionWith
import Derived.RangeFuncBox
import Derived.RangeFuncLeaves
import Derived.RangeFuncCalls
import Derived.OwnWalkIn
import Derived.TacticsInMore
import Derived.LoopNIn
import Derived.LoopIn
import Derived.Sort.CutIn
import Derived.Test.YtcbcfdihofclkaaGreatQK
import Derived.Test.YtcbcfdihofclkaaGreatQ04
import Derived.Test.YtcbcfdihofclkaaGreatQ05
set_option linter.unusedVariables false
set_option linter.unusedSimpArgs false
set_option linter.unusedSectionVars false
set_option maxRecDepth 100000
namespace Go.Proofs.YtcbcfdihofclkaaGreat.aj
open Go Fix
section
variable {P:Program} {ops:Array Oper} {Q:Exit->Act->World->Prop} {md:Region.Mode} {S:World->Prop} {N:Value->World->Prop} {s m t:Nat} {so:Oper} {tail:List Oper}
def aaT(P:Program)(w:World)(v:Value):Result Next->Prop
 | .ok (.value u) w'=>u=v/\RowKit.Below w.heap.size w w'
 | .ok (.enter f args) w'=>Calls P f args w' λe w''=>e=.returned v/\RowKit.Below w.heap.size w w''
 | _=>False
def H8(P:Program)(ops:Array Oper)(S:World->Prop)(o:Oper)(v:Value)(a:Act):Prop :=
 (Region.wanted o (yielded ops a.tmps)=true/\∀w,S w->aaT P w v ((execOp a.eval o).run P w)) \/
 (Region.wanted o (yielded ops a.tmps)=false/\v=undef)
def Stable(S:World->Prop):Prop:=∀w w',S w->RowKit.Below w.heap.size w w'->S w'
theorem H8.of_same{o:Oper}{v:Value}{a a':Act}(hy:H8 P ops S o v a)(he:execOp a'.eval o=execOp a.eval o)
  (hw:Region.wanted o (yielded ops a'.tmps)=Region.wanted o (yielded ops a.tmps)):H8 P ops S o v a':=by
 unfold H8 at *;rw[he,hw];exact hy
theorem H8.wpOp{i:Nat}{o:Oper}{v:Value}{a:Act}(hi:ops[i]? = some o)(hy:H8 P ops S o v a)
  {K:Act->World->Prop} {w:World} (hS:S w) (h:∀w',RowKit.Below w.heap.size w w'->K (a.put o.dst v) w'):wpOp P ops Q i K a w:=by
 unfold Go.wpOp;simp only[hi];rcases hy with⟨hw,hv⟩|⟨hw,rfl⟩
 . simp only[hw,if_true]
   refine .inl ?_;unfold Oper.wp;have h1:=hv w hS;generalize (execOp a.eval o).run P w=r at *;cases r with
   | ok n w' =>
     cases n<;>simp only[aaT]at h1<;>simp only[Oper.upon]
     case value u=>obtain⟨rfl,hs⟩:=h1;exact h _ hs
     case enter f args=>exact Calls.mono h1 λe w'' ⟨he,hs⟩=>by subst he;exact h _ hs
   | halt x w'=>exact h1.elim
 . simp only[hw,Bool.false_eq_true,if_false];exact h _ (RowKit.Below.refl _ _)
def Known(S:World->Prop)(N:Value->World->Prop):Option Value->World->Prop
 | none,w=>S w
 | some v,w=>N v w
def oz(P:Program)(md:Region.Mode)(ops:Array Oper)(S:World->Prop)(s m:Nat)(B:Value->Array Bool->Act->Prop):Nat->Array Bool->Act->Option Value->Prop
 | 0,listed,a,g=>(∀k,k<m->listed.getD k true=true)/\∃v,g=some v/\B v listed a
 | fuel+1,listed,a,g =>
   Region.ready md ops listed≠[] /\
   ∀i∈Region.ready md ops listed,∃o,ops[i]? = some o /\
    ((i≠s/\∃v,H8 P ops S o v a/\oz P md ops S s m B fuel (listed.setIfInBounds i true) (a.put o.dst v) g) \/
     (i=s/\g=none/\∀v,oz P md ops S s m B fuel (listed.setIfInBounds i true) (a.put o.dst v) (some v)))
def Special(P:Program)(ops:Array Oper)(S:World->Prop)(N:Value->World->Prop)(o:Oper):Prop :=
 ∀(a:Act) (w:World),S w->Region.wanted o (yielded ops a.tmps)=true/\∃v w',(execOp a.eval o).run P w=.ok (.value v) w'/\N v w'
theorem Special.wpOp{i:Nat}{a:Act}(hi:ops[i]? = some so)(hy:Special P ops S N so)
  {K:Act->World->Prop} {w:World} (hS:S w) (h:∀v w',N v w'->K (a.put so.dst v) w'):wpOp P ops Q i K a w:=by
 unfold Go.wpOp;simp only[hi];obtain⟨hw,v,w',hr,hN⟩:=hy a w hS;simp only[hw,if_true];refine .inl ?_;unfold Oper.wp;rw[hr];simp only[Oper.upon];exact h v w' hN
theorem oz.any{tf:Nat}(hso:ops[s]? = some so)(hsp:Special P ops S N so)(hS0:Stable S)(hN0:∀v,Stable (N v))(hNS:∀v w,N v w->S w) :
  ∀(fuel:Nat) (listed:Array Bool) (a:Act) (g:Option Value),oz P md ops S s m (λv listed a=>∀w,N v w->wpAny P md ops Q tf listed a w) fuel listed a g->∀w,Known S N g w->wpAny P md ops Q (tf+fuel) listed a w
 | 0,_,_,g,⟨_,v,hg,hB⟩=>λw hw=>by subst hg;exact hB w hw
 | fuel+1,_,_,g,h=>λw hw=>⟨λhr=>absurd hr h.1,λi hi=>by
  obtain⟨o,ho,hcase⟩:=h.2 i hi;have hSw:S w:=by
   cases g with
   | none=>exact hw
   | some v=>exact hNS v w hw
  rcases hcase with⟨_,v,hd,hn⟩|⟨hi,hg,hn⟩
  . refine hd.wpOp ho hSw λw' hb=>oz.any hso hsp hS0 hN0 hNS fuel _ _ g hn w' ?_
    cases g with
    | none=>exact hS0 w w' hw hb
    | some u=>exact hN0 u w w' hw hb
  . obtain rfl:so=o:=Option.some.inj (hso.symm.trans (hi▸ho))
    subst hg
    exact hsp.wpOp ho hSw λv w' hN=>oz.any hso hsp hS0 hN0 hNS fuel _ _ (some v) (hn v) w' hN⟩
def F7(md:Region.Mode)(ops:Array Oper)(s m t:Nat):List Nat->Array Bool->Bool
 | [],listed=>(Region.ready md ops listed).contains s&&forced md ops t m (listed.setIfInBounds s true)
 | i::r,listed=>Region.free md ops listed i&&(Region.ready md ops listed).contains i&&decide (i<m) && !(i==s)&&F7 md ops s m t r (listed.setIfInBounds i true)
def iF(P:Program)(ops:Array Oper)(Q:Exit->Act->World->Prop)(S:World->Prop)(N:Value->World->Prop)(so:Oper)(tail:List Oper):List Oper->Act->Prop
 | [],a=>∀v w,N v w->nA P ops Q tail (a.put so.dst v) w
 | o::os,a=>∃v,H8 P ops S o v a/\iF P ops Q S N so tail os (a.put o.dst v)
theorem Da{listed:Array Bool}{i q:Nat}(h:q=i->i<listed.size)(h':q≠i->listed.getD q true=true):(listed.setIfInBounds i true).getD q true=true:=by
 by_cases e:q=i
 . subst e
   have:=h rfl;simp[this]
 . rw[getD_set_ne true (Ne.symm e)];exact h' e
theorem JV{i:Nat}{listed:Array Bool}(h:i∈Region.ready md ops listed):i<listed.size:=by
 have hun:=(mem_ready.1 h).1;rcases Nat.lt_or_ge i listed.size with h'|h'
 . exact h'
 . simp[Array.getElem?_eq_none h']at hun
def Made(W0:World)(x:Obj)(v:Value)(w:World):Prop:=∃b,v=.pointer (some ⟨b,0,none⟩)/\W0.heap.size<=b/\At w b x/\RowKit.Below W0.heap.size W0 w
theorem H9(W0:World):Stable λw=>RowKit.Below W0.heap.size W0 w:=λ_ _ h hb=>Below.ay h (ah _) hb
theorem JW(W0:World)(x:Obj)(v:Value):Stable (Made W0 x v):=λ_ _ ⟨b,hv,h0,hA,h⟩ hb=>⟨b,hv,h0,hA.keep hb,Below.ay h (ah _) hb⟩
theorem QF{o:Oper}{os:List Oper}{a:Act}(hw:Region.wanted o (yielded ops a.tmps)=false)(h:iF P ops Q S N so tail os (a.put o.dst undef)):iF P ops Q S N so tail (o::os) a :=
 ⟨undef,.inr ⟨hw,rfl⟩,h⟩
theorem MV{o:Oper}{os:List Oper}{a:Act}{v:Value}(hw:Region.wanted o (yielded ops a.tmps)=true)(hv:∀w,S w->(execOp a.eval o).run P w=.ok (.value v) w)
  (h:iF P ops Q S N so tail os (a.put o.dst v)):iF P ops Q S N so tail (o::os) a :=
 ⟨v,.inl ⟨hw,λw hS=>by rw[hv w hS];exact⟨rfl,RowKit.Below.refl _ _⟩⟩,h⟩
theorem QG{o:Oper}{os:List Oper}{a:Act}{v:Value}{f:FuncId}{args:Array Value}(hw:Region.wanted o (yielded ops a.tmps)=true)
  (hv:∀w,S w->(execOp a.eval o).run P w=.ok (.enter f args) w) (hc:∀w,S w->Calls P f args w λe w''=>e=.returned v/\RowKit.Below w.heap.size w w'')
  (h:iF P ops Q S N so tail os (a.put o.dst v)):iF P ops Q S N so tail (o::os) a :=
 ⟨v,.inl ⟨hw,λw hS=>by rw[hv w hS];exact hc w hS⟩,h⟩
theorem pK{W0:World}{x:Obj}{a:Act}(h:∀(b:Nat) (w:World),W0.heap.size<=b->At w b x->RowKit.Below W0.heap.size W0 w->nA P ops Q tail (a.put so.dst (.pointer (some ⟨b,0,none⟩))) w):iF P ops Q S (Made W0 x) so tail [] a :=
 λ_ w ⟨b,hv,hb,hA,hS⟩=>by subst hv;exact h b w hb hA hS
end
end Go.Proofs.YtcbcfdihofclkaaGreat.aj
namespace Go.Proofs.YtcbcfdihofclkaaGreat
open Go aj
section
variable {P:Program} {ops:Array Oper} {Q:Exit->Act->World->Prop} {md:Region.Mode} {S:World->Prop} {N:Value->World->Prop} {so:Oper} {tail:List Oper}
theorem sbk{o:Oper}{os:List Oper}{a a':Act}(h:iF P ops Q S N so tail os a')(hw:Region.wanted o (yielded ops a.tmps)=false:=by rfl)(ha:a.put o.dst undef=a':=by first|(simp only[Act.put,List.setIfInBounds_toArray,List.set_cons_zero,List.set_cons_succ];rfl)|(simp only[Act.put,List.setIfInBounds_toArray,List.set_cons_zero,List.set_cons_succ];done)|rfl):iF P ops Q S N so tail (o::os) a:=QF hw (ha▸h)
theorem sbv{o:Oper}{os:List Oper}{a a':Act}{v:Value}(h:iF P ops Q S N so tail os a')(hw:Region.wanted o (yielded ops a.tmps)=true:=by rfl)
 (hv:∀w,S w->(execOp a.eval o).run P w=.ok (.value v) w:=by intro w2 hS;obtain⟨hc,hf⟩:=kP hS;go_simp;first|done|with_reducible rfl|exact⟨rfl,rfl⟩) (ha:a.put o.dst v=a':=by first|(simp only[Act.put,List.setIfInBounds_toArray,List.set_cons_zero,List.set_cons_succ];rfl)|(simp only[Act.put,List.setIfInBounds_toArray,List.set_cons_zero,List.set_cons_succ];done)|rfl):iF P ops Q S N so tail (o::os) a:=MV hw hv (ha▸h)
theorem sbc{d g x y t p af gd}{os:List Oper}{a a':Act}{v:Value}{f:FuncId}{args:Array Value}(h:iF P ops Q S N so tail os a')(hw:Region.wanted ⟨d,.call ⟨.value g,x,y⟩,t,p,af,gd⟩ (yielded ops a.tmps)=true:=by rfl)
 (hv:∀w,S w->(execOp a.eval ⟨d,.call ⟨.value g,x,y⟩,t,p,af,gd⟩).run P w=.ok (.enter f args) w:=by intro w2 hS;go_simp;first|done|with_reducible rfl|exact⟨rfl,rfl⟩) (hc:∀w,S w->Calls P f args w λe w''=>e=.returned v/\RowKit.Below w.heap.size w w'') (ha:a.put d v=a':=by first|(simp only[Act.put,List.setIfInBounds_toArray,List.set_cons_zero,List.set_cons_succ];rfl)|(simp only[Act.put,List.setIfInBounds_toArray,List.set_cons_zero,List.set_cons_succ];done)|rfl):iF P ops Q S N so tail (⟨d,.call ⟨.value g,x,y⟩,t,p,af,gd⟩::os) a:=QG hw hv hc (ha▸h)
end
end Go.Proofs.YtcbcfdihofclkaaGreat
namespace Go.Proofs.YtcbcfdihofclkaaGreat.Fix
open Go.ChangeShapes Go.WideShapes Go.ChangeAt Go.RowKit
theorem Ints.lt{w:World}{A:Option Addr}{zs:List Int}(h:Ints w A zs)(h0:0<zs.length):∀x,A=some x->x.block<w.heap.size:=by
 intro x hx;obtain⟨b,off,rfl,hc⟩:=h.2 h0;injection hx with hx;subst hx;exact World.block_lt_of_cell? _ _ (hc 0 h0)
theorem Ints.after{W w:World}{A:Option Addr}{zs:List Int}(h:Ints W A zs)(hb:Below W.heap.size W w):Ints w A zs:=h.keep hb h.lt
theorem Ints.at_{w:World}{A:Option Addr}{zs:List Int}(h:Ints w A zs){k:Nat}(hk:k<zs.length):∃b off,A=some ⟨b,off,none⟩/\b<w.heap.size/\w.cell? ⟨b,off+k,none⟩=some (.int .i64 (zs.getD k 0)):=by
 obtain⟨b,off,rfl,hc⟩:=h.2 ak;exact⟨b,off,rfl,World.block_lt_of_cell? _ _ (hc k hk),hc k hk⟩
def aK(f:Nat->Int)(n k:Nat):Array Value:=((List.range n).map λj=>Value.int .i64 (if j<k then f j else 0)).toArray
theorem cK(f:Nat->Int){n k j:Nat}(h:j<n):(aK f n k)[j]? = some (.int .i64 (if j<k then f j else 0)):=by simp[aK,h]
theorem xq(f:Nat->Int)(n k:Nat):(aK f n k).size=n:=by simp[aK]
theorem jM(f:Nat->Int)(n:Nat):madeCells #[.int .i64 0] n=aK f n 0:=by
 apply Array.ext
 . simp[aK,size_madeCells]
 . intro i h1 h2
   simp[madeCells,aK,Nat.mod_one]
theorem j3(f:Nat->Int){n k:Nat}(h:k<n):(aK f n k).setIfInBounds k (.int .i64 (f k))=aK f n (k+1):=by
 apply Array.ext_getElem?;intro i;rw[Array.getElem?_setIfInBounds,xq];by_cases hin:i<n
 . rw[cK f hin,cK f hin]
   by_cases hik:k=i
   . subst hik;simp[hin]
   . simp only[hik,if_false]
     have:(i<k)=(i<k+1):=by simp;omega
     simp only[this]
 . have h1:(aK f n k)[i]? = none:=Array.getElem?_eq_none (by rw[xq];omega)
   have h2:(aK f n (k+1))[i]? = none:=Array.getElem?_eq_none (by rw[xq];omega);rw[h1,h2];rw[if_neg ak]
theorem MW(f:Nat->Int)(n:Nat)(h:f 0=0):aK f n 0=aK f n 1:=by
 unfold aK;congr 1;apply List.map_congr_left;intro j hj;by_cases h0:j=0
 . subst h0;simp[h]
 . simp;omega
theorem EK{w:World}{b:Nat}{T:TypeId}(s t u:List Int)(n:Nat)(hn:n<=maxLen)(h:At w b (.cells (aK (Fx.o7 s t u) n n) T)):Ints w (some ⟨b,0,none⟩) (Fx.uO s t u n):=by
 refine⟨by rw[Fx.qM];exact hn,λh0=>⟨b,0,rfl,λk hk => ?_⟩⟩;rw[Fx.qM]at hk;rw[h.cell,Nat.zero_add,cK _ hk,Fx.Cw _ _ _ hk];simp[hk]
theorem intZero:(Tryz.prog.info? 3).map (λi=>(i.zero,i.size,i.bytes))=some (some (.int .i64 0),1,8):=by kernel_rfl
theorem jN{w0 W:World}{base:Nat}{v:Value}{k m c:Nat}{xs l:List Int}{A:Option Addr}(hown:W.ownsRow base 3 1 v k (xs.map (Value.int .i64)))(hB:Below base w0 W)(hbase:base<=W.heap.size)
  (hI:Ints W A l) (hl:l.length=m) (hc:A=none->c=0) (hkm:k+m<=100000) :
  ∃v' w',(Builtin.append_ #[30,30] 30 #[v,.slice A m c]).run Tryz.prog W=.ok v' w'/\w'.ownsRow base 3 1 v' (k+m) ((xs++l).map (Value.int .i64))/\Below base w0 w'/\base<=w'.heap.size:=by
 obtain⟨i0,hi0,hz0,hz1,hz2⟩:=info_parts intZero;rcases A with _ | ad
 . have h0:l=[]:=by
    rcases Nat.eq_zero_or_pos l.length with h|h
    . exact List.eq_nil_of_length_eq_zero h
    . obtain⟨b,o,e,_⟩:=hI.2 h;cases e
   subst h0;subst hl;rw[hc rfl];exact⟨_,_,run_append_owned_none _ _ 30 30 3 i0 1 Tryz.underlying30 hi0 _ k _ hown,by simpa using hown,hB,hbase⟩
 . obtain⟨v',w',hr,ho,hg,_,_⟩:=run_append_own_at (P:=Tryz.prog) W base 30 30 3 i0 (.int .i64 0) 1 8 Tryz.underlying30 hi0 hz0 hz1 hz2 rfl aG _ k _ hown ad m c (l.map (Value.int .i64)) (by simp[hl])
    (by
     intro j u hu;have hj:j<l.length:=by
      rcases Nat.lt_or_ge j l.length with h|h
      . exact h
      . rw[List.getElem?_eq_none (by simpa using h)]at hu;cases hu
     obtain⟨b,o,e,hcell⟩:=hI.2 ak;injection e with e;subst e;have hcj:=hcell j hj;have e2:(⟨b,o,none⟩:Addr).add j=⟨b,o+j,none⟩:=by
      unfold Addr.add;split
      . subst j;rfl
      . rfl
     rw[e2,hcj,<-hu]
     simp[List.getElem?_eq_getElem hj])
    (by intro u hu;obtain⟨z,_,rfl⟩:=List.mem_map.1 hu;rfl) OZ ak hbase
   refine⟨v',w',hr,by rw[List.map_append];exact ho,hB.grown hg hbase (λg hgg=>(hown.lt g hgg).1),?_⟩;exact aC hbase hg.size
theorem Db{w0 W:World}{base:Nat}{v:Value}{k:Nat}{xs:List Int}(x:Int)(hown:W.ownsRow base 3 1 v k (xs.map (Value.int .i64)))(hB:Below base w0 W)(hbase:base<=W.heap.size)(hk:k<=10000) :
  ∃v' w',(Builtin.append_ #[30,30] 30 #[v,.slice (some ⟨W.heap.size,0,none⟩) 1 1]).run Tryz.prog (W.alloc (.cells #[.int .i64 x] 3))=.ok v' w'/\w'.ownsRow base 3 1 v' (k+1) ((xs++[x]).map (Value.int .i64))/\Below base w0 w'/\base<=w'.heap.size :=
 jN (hown.alloc _) (hB.alloc hbase _) jH (JR W [x] 3 eY) rfl (λh=>by cases h) ak
def roundEnd(B:Nat)(K Kx:World->Prop)(W:World):Exit->Act->World->Prop
 | .normal,_,W'=>KeepsFrom B W W'/\K W'
 | .ret,_,W'=>KeepsFrom B W W'/\Kx W'
 | _,_,_=>False
def Held(W:World)(D:Nat)(r:Loop):Prop:=W.heap[D+1]? = some (.loop r)/\W.heap[D]? = some (.deferred (some []))
theorem Held.turn{W:World}{D:Nat}{r:Loop}(h:Held W D r)(r':Loop):Held (W.putObj (D+1) (.loop r')) D r' :=
 ⟨World.putObj_heap_same (Array.getElem?_eq_some_iff.1 h.1).1,(World.putObj_heap_other ak).trans h.2⟩
theorem Held.keep{W W':World}{D:Nat}{r:Loop}(h:Held W D r)(hk:KeepsFrom D W W'):Held W' D r :=
 ⟨hk.same _ _ ak h.1 rfl,hk.same _ _ ak h.2 rfl⟩
def Calm(B:Nat)(K:World->Prop):Prop:=∀W r o o',K W->B<=r->W.heap[r]? = some o'->o'.isCells=false->K (W.putObj r o)
theorem j6{P:Program}{n:Nat}{g:Operand}{ps:Array Tmp}{assign body:Code}{Q:Exit->Act->World->Prop}{a:Act}{w:World}
  {gf:FuncId} {first lb:Array Value} (hg:a.eval g=.func (.func gf) first lb) (eg:∀args w,(callFunc gf args).run P w=.ok (.enter gf args) w)
  (N:Nat) (fr:Nat->Bool) (xs:Nat->Array Value) (hps:∀i,(xs i).size=ps.size) (K:Nat->World->Prop) (Kx:World->Prop)
  (hK:∀i,Calm w.heap.size (K i)) (hKx:Calm w.heap.size Kx) (h0:∀o1 o2,K 0 ((w.alloc o1).alloc o2))
  (hit:∀(lp:Nat) (J:Nat->World->Prop) (Jx:World->Prop) (W:World),(∀i W,J i W->K i W)->(∀i W,i<N->fr i=true->J i W->J (i+1) W) ->
   (∀i W,i<N->fr i=false->J i W->YieldAt Fence.wide (n-1-1) P lp (xs i) W λe W'=>(e=.returned (.bool true)/\J (i+1) W')\/(e=.returned (.bool false)/\Jx W'))->J 0 W ->
   CallsIn Fence.wide (n-1) P gf (first ++ #[.func (.yield lp) #[] #[]]++lb) W λe W'=>(∃v,e=.returned v)/\(J N W'\/Jx W'))
  (Pk:∀i W,i<N->fr i=true->K i W->K (i+1) W) (upd:Nat->Array Value->Array Value)
  (hassign:∀(l i:Nat) (W:World) (G:Act->World->Prop),i<N->G { tmps:=upd i a.tmps,defers:=[] } W ->
   assign.wpIn (Fence.wide.inRound l) (n-1-1) P (Exit.then G (λ_ _ _=>False)) { tmps:=(ps.zip (xs i)).foldl (λt (p,v)=>t.setIfInBounds p v) a.tmps,defers:=[] } W)
  (hbody:∀(l i:Nat) (W:World),i<N->fr i=false->K i W->body.wpIn (Fence.wide.inRound l) (n-1-1) P (roundEnd w.heap.size (K (i+1)) Kx W) { tmps:=upd i a.tmps,defers:=[] } W)
  (hdone:∀(D:Nat) (W:World),w.heap.size<=D->K N W->W.heap[D]? = some (.deferred (some []))->Q .normal { a with defers:={ target:=.collected D,args:=#[] }::a.defers } W)
  (hstop:∀(D:Nat) (W:World),w.heap.size<=D->Kx W->W.heap[D]? = some (.deferred (some []))->Code.ret.wpIn Fence.wide n P Q { a with defers:={ target:=.collected D,args:=#[] }::a.defers } W) :
  (Code.rangeFunc g ps assign body).wpIn Fence.wide n P Q a w:=by
 refine wpIn_rangeFunc λfn _ => ?_
 let L:LoopState->Option Code->Loop:=λs p=>{ state:=s,pending:=p,fn:=fn,tmps:=a.tmps,params:=ps,assign:=assign,body:=body,defers:=w.heap.size }
 have hH:Held ((w.alloc (.deferred (some []))).alloc (.loop (L .ready none))) w.heap.size (L .ready none):=by
  exact Z3x
 generalize hW:(w.alloc (.deferred (some []))).alloc (.loop (L .ready none))=W1 at hH;have h1:K 0 W1:=hW▸h0 _ _
 refine⟨w.heap.size+1,[{ target:=.collected w.heap.size,args:=#[] }],W1,{ target:=.fn (.func gf) lb,args:=first ++ #[.func (.yield (w.heap.size+1)) #[] #[]] },W1,gf,
  first ++ #[.func (.yield (w.heap.size+1)) #[] #[]]++lb,W1,?_,?_,λ_ _=>trivial,?_,λhd=>Z5d,?_⟩
 . rw[<-hW];exact run_enterLoop_outer fn _ _ _ _
 . simp only[resolve,hg]
   simp[go_sem]
 . simp[invoke,go_sem,eg]
 refine(hit (w.heap.size+1) (λi W=>K i W/\Held W w.heap.size (L .ready none)) (λW=>Kx W/\Held W w.heap.size (L .done (some .ret))) _ (λ_ _ h=>h.1) (λi W hi hf h=>⟨Pk i W hi hf h.1,h.2⟩) ?round ⟨h1,hH⟩).mono ?behind
 case round =>
  rintro i W hi hf ⟨hk,hh⟩;refine⟨fn,_,assign,body,run_yield hh.1 (hps i),roundIn_of_wpIn trivial (hassign _ i W _ hi ⟨_,run_beginRound hh.1 rfl,?_⟩)⟩;have hb:=hh.turn (L .busy none);refine wpIn_mono (hbody _ i _ hi hf (hK i _ _ _ _ hk ak hh.1 rfl)) ?_;intro e _ W3 hp;cases e with
  | normal =>
    have h3:=hb.keep hp.1;exact⟨_,_,run_endRound none h3.1,.inl ⟨rfl,hK _ _ _ _ _ hp.2 ak h3.1 rfl,h3.turn _⟩⟩
  | ret =>
    have h3:=hb.keep hp.1;exact⟨_,_,run_endRound (some .ret) h3.1,.inr ⟨rfl,hKx _ _ _ _ hp.2 ak h3.1 rfl,h3.turn _⟩⟩
  | exit _=>exact hp.elim
  | goto _=>exact hp.elim
  | panic _=>exact hp.elim
  | outgrown=>exact hp.elim
 case behind =>
  rintro e W2 ⟨⟨v,rfl⟩,⟨hk,hh⟩|⟨hk,hh⟩⟩
  . exact⟨none,_,run_endLoop hh.1 (by simp[L]),hdone _ _ (ah _) (hK _ _ _ _ _ hk ak hh.1 rfl) (hh.turn _).2⟩
  . exact⟨some .ret,_,run_endLoop hh.1 (by simp[L]),hstop _ _ (ah _) (hKx _ _ _ _ hk ak hh.1 rfl) (hh.turn _).2⟩
theorem Ui(o:Oper)(h:(match o.op with | .defer _=>false | _=>true)=true):∀c,o.op ≠ .defer c:=by
 intro c hc;rw[hc]at h;cases h
theorem MX{P:Program}{o:Oper}{a:Act}{n l:Nat}{K:Act->World->Prop}{Q:Exit->Act->World->Prop}{r:Result Next}(h:o.upon P a K Q r):o.uponIn (Fence.wide.inRound l) n P a K Q r:=by
 cases r with
 | ok x w' =>
   cases x<;>simp only[Oper.upon,Oper.uponIn]at h ⊢ <;> first
    | exact h
    | exact⟨λhd=>Z5d,CallsIn.inRound l (callsIn_wide.2 h)⟩
    | (refine⟨λhd=>Z5d,λc cs _ => ?_⟩
       obtain⟨v,w'',hr,hs⟩:=h c cs
       exact⟨v,w'',hr,stepsIn_wide.2 hs⟩)
 | halt x w'=>cases x<;>simp only[Oper.upon,Oper.uponIn]at h ⊢ <;> exact h
theorem Uj{P:Program}{o:Oper}{a:Act}{w:World}{n l:Nat}{K:Act->World->Prop}{Q:Exit->Act->World->Prop}(hd:∀c,o.op ≠ .defer c)(h:o.wp P a w K Q):o.wpIn (Fence.wide.inRound l) n P a w K Q :=
 ⟨λ_ _=>trivial,by
  rw[show(Fence.wide.inRound l).round=some l from rfl,Oper.semAt_some l _ _ hd]
  exact MX h⟩
end Go.Proofs.YtcbcfdihofclkaaGreat.Fix
namespace Go.Proofs.YtcbcfdihofclkaaGreat.aj
open Go
section
variable {P:Program} {ops:Array Oper} {Q:Exit->Act->World->Prop} {md:Region.Mode} {S:World->Prop}
def later(md:Region.Mode)(ops:Array Oper)(i:Nat)(oi:Oper):List Oper->Bool
 | []=>true
 | oj::r=>(oj.after.any (λe=>Region.binds md e&&e.on==i)||oi.apart ops oj)&&later md ops i oi r
def yu(md:Region.Mode)(ops:Array Oper):Nat->List Oper->Bool
 | _,[]=>true
 | i,o::r=>(o.after.all (λe => !Region.binds md e||Nat.blt e.on i)&&later md ops i o r)&&yu md ops (i+1) r
theorem Dc{i:Nat}{oi:Oper}:∀{l:List Oper},later md ops i oi l=true->∀(k:Nat) (oj:Oper),l[k]? = some oj->(∃e∈oj.after,Region.binds md e=true/\e.on=i)\/oi.apart ops oj=true
 | [],_,k,oj,hk=>by simp at hk
 | o::r,h,k,oj,hk=>by
  simp only[later,Bool.and_eq_true,Bool.or_eq_true]at h;cases k with
  | zero =>
    simp only[List.getElem?_cons_zero,Option.some.injEq]at hk;subst hk;rcases h.1 with h1|h1
    . obtain⟨e,he,hb⟩:=Array.any_eq_true'.1 h1
      simp only[Bool.and_eq_true,beq_iff_eq]at hb;exact .inl ⟨e,he,hb.1,hb.2⟩
    . exact .inr h1
  | succ k=>exact Dc h.2 k oj (by simpa using hk)
theorem QH{q:Nat}{listed:Array Bool}(h:listed.getD q false=true):listed.getD q true=true:=by
 rcases Nat.lt_or_ge q listed.size with h'|h'
 . simp[h']at h ⊢;exact h
 . simp[Array.getElem?_eq_none h']
theorem Df{m:Nat}(hs:Region.noSelect ops=true)(ht:bX md ops m=true)(hm:ops.toList.length=m):∀(k:Nat) (os:List Oper) (i:Nat) (listed:Array Bool) (a:Act),ops.toList.drop i=os->i+k=m->listed.size=m ->
  (∀q,q<i->listed.getD q false=true)->(∀q,i<=q->q<m->listed.getD q true=false)->yu md ops i os=true ->
  dW P ops Q S k os a->kV P md ops S m (λlisted a=>∀w,S w->wpAny P md ops Q 0 listed a w) k listed a
 | 0,os,i,listed,a,hd,hi,hz,hl,hl',hk,h=>by
  have hlen:os=[]:=by rw[<-hd];exact List.drop_eq_nil_of_le ak
  subst hlen;refine⟨λq hq => ?_,λw hS => ?_⟩
  . exact QH (hl q ak)
  . refine uM (P:=P) (Q:=Q) [] i listed a w hd ?_ (h w hS)
    show(Region.ready md ops listed).isEmpty=true;rw[List.isEmpty_iff];refine List.eq_nil_iff_forall_not_mem.2 λq hq => ?_;obtain⟨hun,o,ho,_⟩:=mem_ready.1 hq;have hq':q<ops.size:=(Array.getElem?_eq_some_iff.1 ho).1;have:=hl q (by have:ops.size=m:=(by simpa using hm);omega);exact pY hun this
 | k+1,[],i,listed,a,_,_,_,_,_,_,h=>h.elim
 | k+1,o::os,i,listed,a,hd,hi,hz,hl,hl',hk,⟨v,hy,hn⟩=>by
  simp only[yu,Bool.and_eq_true]at hk;obtain⟨⟨he,hlat⟩,hk⟩:=hk;obtain⟨ho,hd'⟩:=drop_cons hd;have him:i<m:=by omega
  have hr:i∈Region.ready md ops listed:=mem_ready.2 ⟨hl' i (ah _) him,o,ho,λe hm hb=>by
   have h1:=Array.all_eq_true_iff_forall_mem.1 he e hm;simp only[hb,Bool.not_true,Bool.false_or]at h1
   exact hl _ (by simpa[Nat.blt_eq]using h1)⟩
  have hc:Clear md ops listed i o:=λj oj hj hji hun=>by
   have ahm:i<j:=by
    rcases Nat.lt_trichotomy i j with h'|h'|h'
    . exact h'
    . exact absurd h'.symm hji
    . exact(pY hun (hl j h')).elim
   refine Dc hlat (j-(i+1)) oj ?_;rw[<-hd',List.getElem?_drop,show i+1+(j-(i+1))=j by omega];simpa using hj
  refine F3 ht him ho (Region.noSelect_spec hs) k listed a hc hr hy ?_;refine Df hs ht hm k os (i+1) _ _ hd' ak (by simpa using hz) ?_ ?_ hk hn
  . intro q hq
    by_cases hqi:q=i
    . subst hqi
      simp[show q<listed.size by omega]
    . have:=hl q ak
      rw[getD_set_ne false (Ne.symm hqi)];exact this
  . intro q hq hqm
    rw[getD_set_ne true ak];exact hl' q ak hqm
theorem uW{id:Nat}{l:List Oper}{a:Act}{W0 w:World}(h0:RowKit.Below W0.heap.size W0 w)(hp:P.follows .mixedOrders=true)(hs:Region.noSelect l.toArray=true)
  (hk:yu .any l.toArray 0 l=true) (h:dW P l.toArray Q (λw'=>RowKit.Below W0.heap.size W0 w') l.length l a):(Code.region id l.toArray true).wp P Q a w :=
 wp_region_any hp (by
  have ht:bX .any l.toArray l.length=true:=by
   unfold bX;rw[List.all_eq_true];intro j hj;have:j<l.length:=by simpa using hj
   simp[this]
  have h1:=kV.any (Q:=Q) (tf:=0) l.length (Array.replicate l.length false) a (Df (md:=.any) (Q:=Q) (m:=l.length) hs ht eY l.length l 0 (Array.replicate l.length false) a eY ak eY (λq hq=>by omega) (λq _ hq=>by simp[hq]) hk h) _ h0.drew;have e:l.toArray.size=0+l.length:=by simp
  rw[e];have e2:Array.replicate (0+l.length) false=Array.replicate l.length false:=by rw[Nat.zero_add]
  rw[e2];exact h1)
end
end Go.Proofs.YtcbcfdihofclkaaGreat.aj
namespace Go.Proofs.YtcbcfdihofclkaaGreat.aj
open Go Fix
section
variable {P:Program} {ops:Array Oper} {Q:Exit->Act->World->Prop} {md:Region.Mode} {S:World->Prop}
def sV(l:List Oper):Bool:=l.all λo=>match o.op with | .defer _=>false | _=>true
theorem Ia{l:List Oper}(h:sV l=true){i:Nat}{o:Oper}(ho:l.toArray[i]? = some o):∀c,o.op ≠ .defer c:=by
 have hm:o∈l:=by
  have:=Array.mem_of_getElem? ho;simpa using this
 exact Ui o (List.all_eq_true.1 h o hm)
theorem MZ{l:List Oper}{n lp i:Nat}{K:Act->World->Prop}{a:Act}{w:World}(hd:sV l=true)(ho:¬ LetsOut Q)(h:wpOp P l.toArray Q i K a w):wpOpIn (Fence.wide.inRound lp) n P l.toArray Q i K a w:=by
 unfold Go.wpOp at h;unfold Go.wpOpIn;cases hi:l.toArray[i]? with
 | none=>simpa[hi]using h
 | some o =>
   simp only[hi]at h ⊢;split at h
   . rename_i hw
     simp only[hw,if_true];exact Uj (Ia hd hi) (h.resolve_right λh2=>ho h2.2)
   . rename_i hw
     simp only[hw,Bool.false_eq_true,if_false];exact⟨λ_ _=>trivial,h⟩
theorem qF{l:List Oper}{n lp:Nat}(hd:sV l=true)(ho:¬ LetsOut Q):∀(fuel:Nat) (listed:Array Bool) (a:Act) (w:World),wpAny P md l.toArray Q fuel listed a w->wpAnyIn (Fence.wide.inRound lp) n P md l.toArray Q fuel listed a w
 | 0,_,_,_,h=>h
 | fuel+1,_,_,_,h=>⟨h.1,λi hi=>wpOpIn_mono (λa w=>qF hd ho fuel _ a w) (MZ hd ho (h.2 i hi))⟩
theorem M0{id:Nat}{l:List Oper}{a:Act}{w:World}{n lp:Nat}(m t:Nat)(S:World->Prop)(hp:P.follows .mixedOrders=true)(hs:Region.noSelect l.toArray=true)
  (hl:l.length=m+t) (ht:bX .any l.toArray m=true) (hk:kU .any l.toArray t m 0 (Array.replicate l.length false)=true) (hd:sV l=true) (ho:¬ LetsOut Q) (hS:S w.drew) (h:dW P l.toArray Q S m l a):(Code.region id l.toArray true).wpIn (Fence.wide.inRound lp) n P Q a w :=
 wpIn_region_any hp (qF hd ho _ _ _ _ (by
  have h1:=kV.any (Q:=Q) (tf:=t) m (Array.replicate l.length false) a (Hy (md:=.any) (Q:=Q) (m:=m) (t:=t) hs ht (by simpa using hl) m l 0 (Array.replicate l.length false) a eY ak (λq hq=>by omega) hk h) _ hS;have e:l.toArray.size=t+m:=by simp;omega
  rw[e];have e2:Array.replicate (t+m) false=Array.replicate l.length false:=by rw[hl,Nat.add_comm]
  rw[e2];exact h1))
theorem QI(l:List Oper):bX .any l.toArray l.length=true:=by
 unfold bX;rw[List.all_eq_true];intro j hj;have:j<l.length:=by simpa using hj
 simp[this]
theorem M5{id:Nat}{l:List Oper}{a:Act}{W0 w:World}{n lp:Nat}(m t:Nat)(h0:RowKit.Below W0.heap.size W0 w)(hp:P.follows .mixedOrders=true)(hs:Region.noSelect l.toArray=true)
  (hl:l.length=m+t) (ht:bX .any l.toArray m=true) (hk:kU .any l.toArray t m 0 (Array.replicate l.length false)=true) (hd:sV l=true) (ho:¬ LetsOut Q) (h:dW P l.toArray Q (λw'=>RowKit.Below W0.heap.size W0 w') m l a):(Code.region id l.toArray true).wpIn (Fence.wide.inRound lp) n P Q a w :=
 M0 m t _ hp hs hl ht hk hd ho h0.drew h
theorem M6{id:Nat}{l:List Oper}{a:Act}{W0 w:World}{n lp:Nat}(h0:RowKit.Below W0.heap.size W0 w)(hp:P.follows .mixedOrders=true)(hs:Region.noSelect l.toArray=true)
  (hk:yu .any l.toArray 0 l=true) (hd:sV l=true) (ho:¬ LetsOut Q) (h:dW P l.toArray Q (λw'=>RowKit.Below W0.heap.size W0 w') l.length l a):(Code.region id l.toArray true).wpIn (Fence.wide.inRound lp) n P Q a w :=
 wpIn_region_any hp (qF hd ho _ _ _ _ (by
  have h1:=kV.any (Q:=Q) (tf:=0) l.length (Array.replicate l.length false) a (Df (md:=.any) (Q:=Q) (m:=l.length) hs (QI l) eY l.length l 0 (Array.replicate l.length false) a eY ak eY (λq hq=>by omega) (λq _ hq=>by simp[hq]) hk h) _ h0.drew;have e:l.toArray.size=0+l.length:=by simp
  rw[e];have e2:Array.replicate (0+l.length) false=Array.replicate l.length false:=by rw[Nat.zero_add]
  rw[e2];exact h1))
end
end Go.Proofs.YtcbcfdihofclkaaGreat.aj
