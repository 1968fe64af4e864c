/- What functions of the program do, in plain numbers, part 8; no conditions. -/
import Derived.Test.YtmidaiklolmkcaaGreatM07
set_option linter.unusedVariables false
set_option linter.unusedSimpArgs false
set_option linter.unusedSectionVars false
set_option maxRecDepth 100000
set_option maxHeartbeats 16000000
namespace Go.Proofs.YtmidaiklolmkcaaGreat.Fix
open Go.ChangeShapes Go.WideShapes Go.ChangeAt Go.RowKit
def ZL(K:Nat->(Nat->Prop)->World->Prop):Prop:=∀(i:Nat) (S M:Nat->Prop) (W W':World),K i S W->Out M W W'->(∀b,S b->¬ M b)->K i S W'
def P7(K:(Nat->Prop)->World->Prop):Prop:=∀(S M:Nat->Prop) (W W':World),K S W->Out M W W'->(∀b,S b->¬ M b)->K S W'
def mG(S S':Nat->Prop)(W W':World):Prop:=Out S W W'/\∀b,S' b->S b\/(W.heap.size<=b/\b<W'.heap.size)
theorem mG.refl(S:Nat->Prop)(W:World):mG S S W W:=⟨Out.refl _ _,λ_ h => .inl h⟩
theorem mG.trans{S S' S'':Nat->Prop}{W W' W'':World}(h:mG S S' W W')(k:mG S' S'' W' W''):mG S S'' W W'':=by
 have h1:=h.1.size;have h2:=k.1.size;refine⟨⟨h.1.1.trans k.1.1,λb hb hm=>(k.1.2 b (aV hb h1) λq => ?_).trans (h.1.2 b hb hm)⟩,λb hb => ?_⟩
 . rcases h.2 b q with q|q
   . exact hm q
   . omega
 . rcases k.2 b hb with q|q
   . rcases h.2 b q with q|q
     . exact .inl q
     . exact .inr ⟨q.1,by omega⟩
   . exact .inr ⟨by omega,q.2⟩
theorem mG.of_below{S:Nat->Prop}{W W':World}(h:Below W.heap.size W W'):mG S S W W':=⟨Out.of_below h,λ_ h => .inl h⟩
def abC(J:Nat->(Nat->Prop)->World->Prop)(Jx:(Nat->Prop)->World->Prop)(i:Nat)(S:Nat->Prop)(W:World)(e:Ending)(W':World):Prop :=
 ∃S',mG S S' W W'/\((e=.returned (.bool true)/\J (i+1) S' W')\/(e=.returned (.bool false)/\Jx S' W'))
def abD(J:Nat->(Nat->Prop)->World->Prop)(Jx:(Nat->Prop)->World->Prop)(N:Nat)(S:Nat->Prop)(W:World)(e:Ending)(W':World):Prop :=
 (∃v,e=.returned v)/\∃S',mG S S' W W'/\(J N S' W'\/Jx S' W')
def U7(K:Nat->(Nat->Prop)->World->Prop)(Kx:(Nat->Prop)->World->Prop)(i:Nat)(S:Nat->Prop)(W:World):Exit->Act->World->Prop
 | .normal,_,W'=>∃S',mG S S' W W'/\K (i+1) S' W'
 | .ret,_,W'=>∃S',mG S S' W W'/\Kx S' W'
 | _,_,_=>False
theorem Out.putObj(W:World)(r:Nat)(o:Obj):Out (λb=>b=r) W (W.putObj r o):=Out.grown (grownBy_putObj' W r o) λb e=>by injection e with e;exact e.symm
theorem zQ{P:Program}{n:Nat}{g:Operand}{ps:Array Tmp}{assign body:Code}{Q:Exit->Act->World->Prop}{a:Act}{w:World}
  {gf:FuncId} {first lb:Array Value} (hg:a.eval g=.func (.func gf) first lb) (eg:∀args w,(callFunc gf args).run P w=.ok (.enter gf args) w)
  (N:Nat) (xs:Nat->Array Value) (hps:∀i,(xs i).size=ps.size) (K:Nat->(Nat->Prop)->World->Prop) (Kx:(Nat->Prop)->World->Prop)
  (hK:ZL K) (hKx:P7 Kx) (S0:Nat->Prop) (hS0:∀b,S0 b->b<w.heap.size) (h0:K 0 S0 w)
  (hit:∀(lp:Nat) (J:Nat->(Nat->Prop)->World->Prop) (Jx:(Nat->Prop)->World->Prop) (S1:Nat->Prop) (W1:World),Below w.heap.size w W1->(∀b,S1 b->(S0 b\/w.heap.size<=b)/\b<W1.heap.size)->ZL J->P7 Jx ->
   (∀m i S W,i<N->J i S W->YieldAt Fence.wide m P lp (xs i) W (abC J Jx i S W))->J 0 S1 W1 ->
   CallsIn Fence.wide (n-1) P gf (first ++ #[.func (.yield lp) #[] #[]]++lb) W1 (abD J Jx N S1 W1))
  (upd:Nat->Array Value->Array Value)
  (hassign:∀(l m i:Nat) (W:World) (G:Act->World->Prop),i<N->G { tmps:=upd i a.tmps,defers:=[] } W ->
   assign.wpIn (Fence.wide.inRound l) m P (Exit.then G (λ_ _ _=>False)) { tmps:=(ps.zip (xs i)).foldl (λt (p,v)=>t.setIfInBounds p v) a.tmps,defers:=[] } W)
  (hbody:∀(l m i:Nat) (S:Nat->Prop) (W:World),i<N->K i S W->body.wpIn (Fence.wide.inRound l) m P (U7 K Kx i S W) { tmps:=upd i a.tmps,defers:=[] } W)
  (hdone:∀(D:Nat) (S:Nat->Prop) (W:World),w.heap.size<=D->mG S0 S w W->¬ S D->K N S W->W.heap[D]? = some (.deferred (some []))->Q .normal { a with defers:={ target:=.collected D,args:=#[] }::a.defers } W)
  (hstop:∀(D:Nat) (S:Nat->Prop) (W:World),w.heap.size<=D->mG S0 S w W->¬ S D->Kx S W->W.heap[D]? = some (.deferred (some []))->Code.ret.wpIn Fence.wide n P Q { a with defers:={ target:=.collected D,args:=#[] }::a.defers } W) :
  (Code.rangeFunc g ps assign body).wpIn Fence.wide n P Q a w:=by
 refine wpIn_rangeFunc λfn _ => ?_
 let L:LoopState->Option Code->Loop:=λs p=>{ state:=s,pending:=p,fn:=fn,tmps:=a.tmps,params:=ps,assign:=assign,body:=body,defers:=w.heap.size }
 have hH:Held ((w.alloc (.deferred (some []))).alloc (.loop (L .ready none))) w.heap.size (L .ready none):=by
  exact Z3u
 have hsz:((w.alloc (.deferred (some []))).alloc (.loop (L .ready none))).heap.size=w.heap.size+2:=by simp
 have hbl:Below w.heap.size w ((w.alloc (.deferred (some []))).alloc (.loop (L .ready none))):=Below.alloc' (Below.alloc' aF _) _;generalize hW:(w.alloc (.deferred (some []))).alloc (.loop (L .ready none))=W1 at hH hsz hbl
 let B2:(Nat->Prop)->(Nat->Prop)->Prop:=λS S1=>(∀b,S b↔S1 b\/b=w.heap.size\/b=w.heap.size+1)/\(∀b,S1 b->b≠w.heap.size/\b≠w.heap.size+1)
 let J:Nat->(Nat->Prop)->World->Prop:=λi S W=>∃S1,B2 S S1/\K i S1 W/\Held W w.heap.size (L .ready none)
 let Jx:(Nat->Prop)->World->Prop:=λS W=>∃S1,B2 S S1/\Kx S1 W/\Held W w.heap.size (L .done (some .ret))
 have hHeld:∀(S S1 M:Nat->Prop) (W W':World) (r:Loop),B2 S S1->Held W w.heap.size r->Out M W W'->(∀b,S b->¬ M b)->Held W' w.heap.size r:=λS S1 M W W' r hB hh ho hm =>
  ⟨(show At W _ _ from hh.1).out (hm _ ((hB.1 _).2 (.inr (.inr rfl)))) ho,(show At W _ _ from hh.2).out (hm _ ((hB.1 _).2 (.inr (.inl rfl)))) ho⟩
 have hJ:ZL J:=λi S M W W' ⟨S1,hB,hk,hh⟩ ho hm=>⟨S1,hB,hK i S1 M W W' hk ho (λb hb=>hm b ((hB.1 b).2 (.inl hb))),hHeld S S1 M W W' _ hB hh ho hm⟩;have hJx:P7 Jx:=λS M W W' ⟨S1,hB,hk,hh⟩ ho hm=>⟨S1,hB,hKx S1 M W W' hk ho (λb hb=>hm b ((hB.1 b).2 (.inl hb))),hHeld S S1 M W W' _ hB hh ho hm⟩
 have abE:∀(S S1:Nat->Prop) (W W':World),B2 S S1->mG (λb=>S0 b\/b=w.heap.size\/b=w.heap.size+1) S W1 W'->Out (λb=>b=w.heap.size+1) W' W->mG S0 S1 w W:=λS S1 W W' hB hw ho=>by
  have e1:=hbl.size;have e2:=hw.1.size;have e3:=ho.size;refine⟨⟨(Below.mono hbl sQ).trans (hw.1.1.trans ho.1),λb hb hm => ?_⟩,λb hb => ?_⟩
  . rw[ho.2 b aj jM,hw.1.2 b aj (λq=>q.elim hm aj),hbl.block b hb]
  . have hb2:=hB.2 b hb
    rcases hw.2 b ((hB.1 b).2 (.inl hb))with(q|q|q)|q
    . exact .inl q
    . exact absurd q hb2.1
    . exact absurd q hb2.2
    . exact .inr ⟨by omega,by omega⟩
 have hB0:B2 (λb=>S0 b\/b=w.heap.size\/b=w.heap.size+1) S0:=⟨λb=>Iff.rfl,λb hb=>by have:=hS0 b hb;omega⟩
 refine⟨w.heap.size+1,[{ target:=.collected w.heap.size,args:=#[] }],W1,{ target:=.fn (.func gf) lb,args:=first ++ #[.func (.yield (w.heap.size+1)) #[] #[]] },W1,gf,
  first ++ #[.func (.yield (w.heap.size+1)) #[] #[]]++lb,W1,?_,?_,λ_ _=>trivial,?_,λhd=>Z58,?_⟩
 . rw[<-hW];exact run_enterLoop_outer fn _ _ _ _
 . simp only[resolve,hg]
   simp[go_sem]
 . simp[invoke,go_sem,eg]
 refine(hit (w.heap.size+1) J Jx (λb=>S0 b\/b=w.heap.size\/b=w.heap.size+1) W1 hbl (λb hb => ?s1) hJ hJx ?round ⟨S0,hB0,hK 0 S0 (λ_=>False) w W1 h0 (Out.of_below hbl) (λ_ _ q=>q),hH⟩).mono ?behind
 case s1 =>
  rcases hb with hb|hb|hb
  . have:=hS0 b hb;exact⟨.inl hb,by omega⟩
  . exact⟨.inr aj,by omega⟩
  . exact⟨.inr aj,by omega⟩
 case round =>
  rintro m i S W hi ⟨S1,hB,hk,hh⟩;refine⟨fn,_,assign,body,run_yield hh.1 (hps i),roundIn_of_wpIn trivial (hassign _ _ i W _ hi ⟨_,run_beginRound hh.1 rfl,?_⟩)⟩;have hb:=hh.turn (L .busy none);have ho:=Out.putObj W (w.heap.size+1) (.loop (L .busy none));have hk1:=hK i S1 _ _ _ hk ho (λb hb q=>(hB.2 b hb).2 q);have hlt1:w.heap.size+1<W.heap.size:=(Array.getElem?_eq_some_iff.1 hh.1).1;refine wpIn_mono (hbody _ _ i S1 _ hi hk1) ?_;intro e _ W3 hp;have aiO:(W.putObj (w.heap.size+1) (.loop (L .busy none))).heap.size=W.heap.size:=by simp
  have fin:∀(S':Nat->Prop) (s:LoopState) (p:Option Code),mG S1 S' (W.putObj (w.heap.size+1) (.loop (L .busy none))) W3 ->
    Held W3 w.heap.size (L .busy none)/\B2 (λb=>S' b\/b=w.heap.size\/b=w.heap.size+1) S'/\mG S (λb=>S' b\/b=w.heap.size\/b=w.heap.size+1) W (W3.putObj (w.heap.size+1) (.loop (L s p))):=λS' s p hw=>by
   have hz:=hw.1.size;refine⟨⟨(show At _ _ _ from hb.1).out (λq=>(hB.2 _ q).2 rfl) hw.1,(show At _ _ _ from hb.2).out (λq=>(hB.2 _ q).1 rfl) hw.1⟩,⟨λb=>Iff.rfl,λb hb => ?_⟩,?_,λb hb => ?_⟩
   . rcases hw.2 b hb with q|q
     . exact hB.2 b q
     . omega
   . have o1:Out S W (W.putObj (w.heap.size+1) (.loop (L .busy none))):=ho.mono λb _ e=>by subst e;exact(hB.1 _).2 (.inr (.inr rfl))
     have o2:Out S (W.putObj (w.heap.size+1) (.loop (L .busy none))) W3:=hw.1.mono λb _ e=>(hB.1 b).2 (.inl e);have o3:Out S W3 (W3.putObj (w.heap.size+1) (.loop (L s p))):=(Out.putObj W3 (w.heap.size+1) (.loop (L s p))).mono λb _ e=>by subst e;exact(hB.1 _).2 (.inr (.inr rfl))
     exact(o1.trans o2).trans o3
   . rcases hb with hb|hb
     . rcases hw.2 b hb with q|q
       . exact .inl ((hB.1 b).2 (.inl q))
       . exact .inr ⟨by omega,by simp;omega⟩
     . exact .inl ((hB.1 b).2 (.inr hb))
  cases e with
  | normal =>
    obtain⟨S',hw,hk3⟩:=hp;obtain⟨h3,hb3,hw3⟩:=fin S' .ready none hw;exact⟨_,_,run_endRound none h3.1,_,hw3,.inl ⟨rfl,S',hb3,hK _ _ _ _ _ hk3 (Out.putObj W3 _ _) (λb hb q=>(hb3.2 b hb).2 q),h3.turn _⟩⟩
  | ret =>
    obtain⟨S',hw,hk3⟩:=hp;obtain⟨h3,hb3,hw3⟩:=fin S' .done (some .ret) hw;exact⟨_,_,run_endRound (some .ret) h3.1,_,hw3,.inr ⟨rfl,S',hb3,hKx _ _ _ _ hk3 (Out.putObj W3 _ _) (λb hb q=>(hb3.2 b hb).2 q),h3.turn _⟩⟩
  | exit _=>exact hp.elim
  | goto _=>exact hp.elim
  | panic _=>exact hp.elim
  | outgrown=>exact hp.elim
 case behind =>
  rintro e W2 ⟨⟨v,rfl⟩,S,hw,⟨S1,hB,hk,hh⟩|⟨S1,hB,hk,hh⟩⟩
  . have ho:=Out.putObj W2 (w.heap.size+1) (.loop (L .exhausted none))
    exact⟨none,_,run_endLoop hh.1 (by simp[L]),hdone _ S1 _ aD (abE S S1 _ W2 hB hw (Out.putObj W2 _ _)) (λq=>(hB.2 _ q).1 rfl) (hK _ _ _ _ _ hk (Out.putObj W2 _ _) (λb hb q=>(hB.2 b hb).2 q)) (hh.turn _).2⟩
  . exact⟨some .ret,_,run_endLoop hh.1 (by simp[L]),hstop _ S1 _ aD (abE S S1 _ W2 hB hw (Out.putObj W2 _ _)) (λq=>(hB.2 _ q).1 rfl) (hKx _ _ _ _ hk (Out.putObj W2 _ _) (λb hb q=>(hB.2 b hb).2 q)) (hh.turn _).2⟩
def marks(Ds:List Nat):List Deferred:=Ds.map λD=>{ target:=.collected D,args:=#[] }
theorem tK{F:Fence}{n:Nat}{P:Program}{fn:Func}{tmps:Array Value}{R:Ending->World->Prop}:∀(Ds:List Nat) (W:World),Ds.Nodup->(∀D∈Ds,W.heap[D]? = some (.deferred (some [])))->(∀W',Out (λb=>b∈Ds) W W'->LeavesIn F n P fn tmps R [] .returning W')->LeavesInM F n P fn tmps R (marks Ds) .returning W
 | [],W,_,_,h=>h W (Out.refl _ _)
 | D::Ds,W,hn,hd,h=>by
   refine⟨by simp,.inl ⟨D,_,rfl,run_takeDeferred (hd D List.mem_cons_self),tK Ds _ (List.nodup_cons.1 hn).2 (λE hE => ?_) λW' ho=>h W' ?_⟩⟩
   . have hne:E≠D:=λe=>(List.nodup_cons.1 hn).1 (e▸hE)
     exact(show At W E _ from hd E (List.mem_cons_of_mem _ hE)).out (M:=λb=>b=D) hne (Out.putObj W D _)
   . exact((Out.putObj W D _).mono λb _ (e:b=D)=>by subst e;exact List.mem_cons_self).trans (ho.mono λb _ e=>List.mem_cons_of_mem _ e)
end Go.Proofs.YtmidaiklolmkcaaGreat.Fix
namespace Go.Proofs.YtmidaiklolmkcaaGreat.Fix
open Go.ChangeShapes Go.WideShapes Go.ChangeAt Go.RowKit Go.Shelf
attribute [local go_sem] Oper.semAt_some
theorem wm(t:Nat)(x:Int)(w:World):Calls Tryz.prog 28 #[.pointer (some ⟨t,0,none⟩),.int .i64 x] w λe w'=>e=.returned (.func (.func 53) #[] #[.pointer (some ⟨w.heap.size,0,none⟩),.pointer (some ⟨w.heap.size+1,0,none⟩)]) /\
  w'=(w.alloc (.cells #[.pointer (some ⟨t,0,none⟩)] 24)).alloc (.cells #[.int .i64 x] 3):=by
 have JM:∀(fn:Fn) (first cap:Array Value) (w:World),(Instr.makeFunc fn first cap).run Tryz.prog w=.ok (.func fn first cap) w:=λ_ _ _ _=>rfl;go_enter Tryz.func28,Tryz.ntmps28
 go_wp2;exact EL
theorem eB{ops:Array Oper}{S:World->Prop}{o:Oper}{a:Act}{ty:TypeId}{x y:Operand}{m z v:Value}(hw:Region.wanted o (yielded ops a.tmps)=true)(ho:o.op=.lookup ty x y false)(hx:a.eval x=m)(hy:a.eval y=z)
  (hrun:∀W,S W->(Instr.lookup ty m z false).run Tryz.prog W=.ok v W):ak.Reads Tryz.prog ops S o v a :=
 .inl ⟨hw,λW hS=>by unfold execOp;simp only[ho,hx,hy,Sem.run_bind,Sem.run_pure,hrun W hS,Result.andThen_ok]⟩
def told(T:Tr.T)(f:Nat)(l:List Int)(k:Nat):Nat:=((l.take k).flatMap (Tr.sub T f)).length
theorem Rq(T:Tr.T)(f:Nat){l:List Int}{k:Nat}(h:k<l.length):told T f l (k+1)=told T f l k+(Tr.sub T f (l.getD k 0)).length:=by
 unfold told;rw[eO l k h,List.flatMap_append,List.length_append];simp
theorem U8(T:Tr.T)(f:Nat)(l:List Int):told T f l l.length=(l.flatMap (Tr.sub T f)).length:=by unfold told;rw[List.take_length]
theorem ZM(T:Tr.T)(f:Nat){l:List Int}{k i:Nat}(h:k<l.length)(hi:i<(Tr.sub T f (l.getD k 0)).length):told T f l k+i<(l.flatMap (Tr.sub T f)).length/\(l.flatMap (Tr.sub T f)).getD (told T f l k+i) 0=(Tr.sub T f (l.getD k 0)).getD i 0:=by
 have e:l.flatMap (Tr.sub T f)=(l.take k).flatMap (Tr.sub T f)++(Tr.sub T f (l.getD k 0)++(l.drop (k+1)).flatMap (Tr.sub T f)):=by
  conv=>lhs;rw[<-List.take_append_drop (k+1) l,eO l k h]
  simp[List.flatMap_append,List.append_assoc]
 have e1:((l.take k).flatMap (Tr.sub T f)).length=told T f l k:=rfl;rw[e];generalize l.getD k 0=y at *;constructor
 . simp only[List.length_append,e1];omega
 . unfold List.getD
   rw[List.getElem?_append_right aj,e1,Nat.add_sub_cancel_left,List.getElem?_append_left hi]
theorem mG.with_{S S' S2:Nat->Prop}{W W' W5 W6:World}{yb:Nat}(h:mG S S' W W')(hy:W.heap.size<=yb/\yb<W'.heap.size)(hb:Below W'.heap.size W' W5)(k:mG (λb=>S' b\/b=yb) S2 W5 W6):mG S S2 W W6:=by
 have e1:=h.1.size;have e2:=hb.size;have e3:=k.1.size;refine⟨⟨h.1.1.trans ((hb.mono sQ).trans k.1.1),λb hlt hm => ?_⟩,λb hs => ?_⟩
 . rw[k.1.2 b aj (λq => ?_),hb.block b aj,h.1.2 b hlt hm]
   rcases q with q|q
   . rcases h.2 b q with q|q
     . exact hm q
     . omega
   . omega
 . rcases k.2 b hs with(q|q)|q
   . rcases h.2 b q with q|q
     . exact .inl q
     . exact .inr aj
   . exact .inr aj
   . exact .inr aj
theorem mG.sub{S S' S2:Nat->Prop}{W W':World}(h:mG S S' W W')(k:∀b,S2 b->S' b):mG S S2 W W':=⟨h.1,λb hb=>h.2 b (k b hb)⟩
theorem mG.more{S S' M:Nat->Prop}{W W' W'':World}(h:mG S S' W W')(k:Out M W' W'')(hm:∀b,M b->W.heap.size<=b):mG S S' W W'':=by
 have e1:=h.1.size;have e2:=k.size;refine⟨⟨h.1.1.trans k.1,λb hb hn => ?_⟩,λb hb=>(h.2 b hb).imp_right λq=>⟨q.1,by omega⟩⟩;rw[k.2 b aj (λq=>by have:=hm b q;omega),h.1.2 b hb hn]
theorem KS.wu{W:World}{A:Option Addr}{n c:Nat}{l:List Int}(h:KS W (.slice A n c) l):Ints W A l/\l.length=n:=by
 obtain⟨A',c',e,hI,_⟩:=h.ints;injection e with e1 e2 e3;subst e1;exact⟨hI,e2.symm⟩
theorem Ky(f:Nat):∀(x:Int) (nn lp tb ib t n:Nat) (L:Lay) (T:Tr.T) (J:Nat->(Nat->Prop)->World->Prop) (Jx:(Nat->Prop)->World->Prop) (S:Nat->Prop) (W:World),Tr.Fit T f x->fV W t L T n ->
  At W tb (.cells #[.pointer (some ⟨t,0,none⟩)] 24)->At W ib (.cells #[.int .i64 x] 3)->(∀b,S b->b<W.heap.size/\¬ owned t L T b/\b≠tb/\b≠ib)->ZL J->P7 Jx ->
  (∀m i S W,i<(Tr.sub T f x).length->J i S W->YieldAt Fence.wide m Tryz.prog lp #[.int .i64 ((Tr.sub T f x).getD i 0)] W (abC J Jx i S W))->J 0 S W ->
  CallsIn Fence.wide nn Tryz.prog 53 #[.func (.yield lp) #[] #[],.pointer (some ⟨tb,0,none⟩),.pointer (some ⟨ib,0,none⟩)] W (abD J Jx (Tr.sub T f x).length S W):=by
 induction f with
 | zero=>intro x nn lp tb ib t n L T J Jx S W h;exact h.elim
 | succ f ih =>
   intro x nn lp tb ib t n L T J Jx S W hfit hR htb hib hS hJ hJx hY h0;obtain⟨nd,hT,hk⟩:=hfit;have hsub:=Tr.eF (f:=f) hT;obtain⟨fl,hfl⟩:∃fl,fl=nd.kids.flatMap (Tr.sub T f):=⟨_,rfl⟩;rw[<-hfl]at hsub;rw[hsub]at hY ⊢;obtain⟨yb,hyb⟩:∃yb,yb=W.heap.size:=⟨_,rfl⟩;obtain⟨W1,hW1⟩:∃W1,W1=W.alloc (.cells #[.func (.yield lp) #[] #[]] 53):=⟨_,rfl⟩;have hB1:Below W.heap.size W W1:=by rw[hW1];exact Below.alloc' aF _
   have hA1:At W1 yb (.cells #[.func (.yield lp) #[] #[]] 53):=by rw[hW1,hyb];exact At.new _ _
   have ru:=hR.after hB1;have aci:=htb.keep hB1;have NR:=hib.keep hB1;have hJ1:=hJ 0 S (λ_=>False) W W1 h0 (Out.of_below hB1) (λ_ _ q=>q);have hSy:∀b,S b->b<yb:=λb hb=>by rw[hyb];exact(hS b hb).1
   have hw1:mG S S W W1.drew:=mG.of_below hB1.drew;have HS:=ah hS;have HY:=ah hY;have HJ:=ah hJ;have HJX:=ah hJx;have HK:=ah hk;have F5:=ah hfl;have aiP:=ah hsub;have sV:=ah hR;have HW0:=ah hyb;have HTB:=ah htb;clear hS hY hJ hJx hk hfl hsub hR htb hib h0 hB1;refine callsIn_of_wp_marks Tryz.func53 rfl trivial ?_ rfl;simp only[Tryz.ntmps53,List.size_toArray,List.length_cons,List.length_nil,Nat.reduceAdd,Nat.reduceSub,Array.replicate_succ,Array.replicate_zero,List.push_toArray,List.append_toArray,List.nil_append,List.cons_append]
   gi_wp2
   rw[<-hyb,<-hW1];clear hyb hW1;refine wpIn_wide.2 ?_;have hS0:W1.drew.cell? ⟨tb,0,none⟩=some (.pointer (some ⟨t,0,none⟩))/\W1.drew.cell? ⟨ib,0,none⟩=some (.int .i64 x)/\fV W1.drew t L T n/\W1.drew=W1.drew:=⟨aci.cell 0,NR.cell 0,ru.after (Below.refl _ _).drew,rfl⟩;refine lF (S:=(λW'=>W'.cell? ⟨tb,0,none⟩=some (.pointer (some ⟨t,0,none⟩))/\W'.cell? ⟨ib,0,none⟩=some (.int .i64 x)/\fV W' t L T n/\W'=W1.drew)) 5 ?_ ?_
   . exact hS0
   intro hS1;refine aW 0 ?_;refine aW 2 ?_;refine tk1 1 ?_;refine ak.Step.call dV (JL hS1.2.2.1) ?_;rintro e w4 ⟨rfl,rfl⟩;refine⟨_,rfl,λ_=>hS1,?_⟩
   (try simp only[bL,bM,bN,tks])
   refine rO 3 rfl (eB aX rfl rfl rfl (λW h=>h.2.2.1.gN hT)) ?_;refine aW 4 ?_;refine ko ?_;have hA2:=hA1.drew;have hR2:=hS0.2.2.1;have acj:=aci.drew;have Rs:=NR.drew;have hJ2:=HJ.out 0 S (λ_=>False) _ _ hJ1 (Out.drew (Out.refl _ _)) (λ_ _ q=>q);clear hA1 ru aci NR hJ1 hS0 hS1;generalize W1.drew=W2 at *;obtain⟨fn,tmps,assign,body,hy,U9⟩:=HY.out (nn-1) 0 S W2 eZ hJ2;have hy':(Instr.yield lp #[.int .i64 x]).run Tryz.prog W2=.ok (.round lp fn tmps assign body) W2:=hy;have cy:=hA2.cell 0;have ci:=Rs.cell 0;simp at cy ci;clear hy;have hdp:∀k:Nat,(Fence.wide.depth.isSome=true->1<=k):=λk h=>by simp[Fence.wide]at h
   gi_wp2
   refine⟨hdp _,U9.mono ?_⟩;rintro e W3 ⟨S3,hw3,(⟨rfl,hJ3⟩|⟨rfl,hJx3⟩)⟩
   . have EW:=hR2.out (M:=S) (λb hb q=>(HS.out b q).2.1 hb) hw3.1
     have ag3:=acj.out (λq=>(HS.out _ q).2.2.1 rfl) hw3.1;have hA3:=hA2.out (λq=>Nat.lt_irrefl _ (hSy _ q)) hw3.1;have aeu:=hw1.trans hw3
     have uN:∀b,S3 b->¬ owned t L T b/\b≠tb/\b≠yb/\b<W3.heap.size:=λb hb=>by
      have e1:=hw1.1.size;have e2:=hw3.1.size;have e4:=hA2.lt;have e5:=HW0.out;rcases hw3.2 b hb with q|q
      . have:=HS.out b q
        exact⟨this.2.1,this.2.2.1,dB (hSy b q),by omega⟩
      . refine⟨λh => ?_,?_,by omega,by omega⟩
        . have:=hR2.lt h;omega
        . have:=acj.lt;omega
     have c1:=EW.lZ hT;obtain⟨A,c,hv,hI,_⟩:=(EW.row x nd hT).ints;have hlen:=(EW.small x nd hT).2.2.2.2;rw[hv]at c1;generalize hls:nd.kids=l at *;generalize hm:l.length=mm at *;have HM:=ah hm;have HV:=ah hv;have HLS:=ah hls;clear hI hm hv hls U9 hy' cy ci hJ2 hA2 acj Rs hw3
     gi_wp2
     refine wpIn_loop (λa' W'=>∃(k:Nat) (S':Nat->Prop) (Ds:List Nat) (u6 u7 u26 u27 u28 u29 u30 u31 u32 u33 u34 u35 u36 u37:Value),k<=mm/\J (1+told T f l k) S' W'/\mG S S' W W'/\(Ds.Nodup/\∀D∈Ds,W.heap.size<=D/\¬ S' D/\W'.heap[D]? = some (.deferred (some [])))/\At W' yb (.cells #[.func (.yield lp) #[] #[]] 53)/\(∀b,S' b->¬ owned t L T b/\b≠tb/\b≠yb/\b<W'.heap.size) /\
      a'={ tmps:=#[Value.func (Fn.yield lp) #[] #[],Value.pointer (some ⟨tb,0,none⟩),Value.pointer (some ⟨ib,0,none⟩),Value.pointer (some ⟨yb,0,none⟩),Value.pointer (some ⟨L.bl x,0,none⟩),undef,u6,u7,
       Value.pointer (some ⟨t,0,none⟩),Value.map (some L.mb),Value.int IntKind.i64 x,Value.pointer (some ⟨L.bl x,0,none⟩),Value.pointer (some ⟨L.bl x,0,none⟩),Value.bool false,Value.bool false,Value.func (Fn.yield lp) #[] #[],Value.int IntKind.i64 x,
       Value.bool true,Value.bool false,Value.bool false,Value.pointer (some ⟨L.bl x,0,none⟩),Value.pointer (some ⟨L.bl x,0,none⟩),Value.pointer (some ⟨L.bl x,1,none⟩),
       Value.slice A mm c,Value.int IntKind.i64 (mm:Int),Value.int IntKind.i64 (k:Int),u26,u27,u28,u29,u30,u31,u32,u33,u34,u35,u36,u37],defers:=marks Ds }) (λa' _=>mm-(intOf (a'.tmps.getD 25 undef)).toNat) ?start ?round
     case start =>
      exact⟨0,S3,[],_,_,_,_,_,_,_,_,_,_,_,_,_,_,fC _,by simpa[told]using hJ3,aeu,⟨.nil,λD hD=>by cases hD⟩,hA3,uN,rfl⟩
     case round =>
      clear hJ3 aeu uN hA3 ag3 EW c1;rintro a' W' ⟨k,S',Ds,u6,u7,u26,u27,u28,u29,u30,u31,u32,u33,u34,u35,u36,u37,hkm,hJk,hw,⟨hDn,hD⟩,hA',hS',rfl⟩;have hR':=sV.out.out (M:=S) (λb hb q=>(HS.out b q).2.1 hb) hw.1;have htb':=HTB.out.out (λq=>(HS.out _ q).2.2.1 rfl) hw.1;have hI:=hR'.row x nd hT;rw[HV.out,HLS.out]at hI;have hI':=hI.wu.1;clear hI;by_cases hlt:k<mm
      . obtain⟨b,o,rfl,lb,hcell⟩:=hI'.at_ (k:=k) YK
        have hfz:=HK.out (l.getD k 0) (by rw[List.getD,List.getElem?_eq_getElem YK];exact List.getElem_mem _);have hts:=Rq T f (l:=l) (k:=k) YK;have hta:=λi hi=>ZM T f (l:=l) (k:=k) (i:=i) YK hi;rw[<-F5.out]at hta;generalize l.getD k 0=z at *;have ct:=htb'.cell 0;simp at ct;have p9:Below W'.heap.size W' ((W'.alloc (.cells #[.pointer (some ⟨t,0,none⟩)] 24)).alloc (.cells #[.int .i64 z] 3)):=Below.alloc' (Below.alloc' aF _) _;have xK:At ((W'.alloc (.cells #[.pointer (some ⟨t,0,none⟩)] 24)).alloc (.cells #[.int .i64 z] 3)) W'.heap.size (.cells #[.pointer (some ⟨t,0,none⟩)] 24):=(At.new _ _).alloc _;have xL:At ((W'.alloc (.cells #[.pointer (some ⟨t,0,none⟩)] 24)).alloc (.cells #[.int .i64 z] 3)) (W'.heap.size+1) (.cells #[.int .i64 z] 3):=At.new' _ eZ;generalize hW5:(W'.alloc (.cells #[.pointer (some ⟨t,0,none⟩)] 24)).alloc (.cells #[.int .i64 z] 3)=W5 at *
        gi_wp2_with ((try refine⟨trivial,?_⟩);(try refine⟨hdp _,?_⟩);gi_at_call 28;refine(callsIn_wide.2 (wm t z W')).mono ?_;rintro e w' ⟨rfl,rfl⟩;rw[hW5])
        have e5:=p9.size;have NS:=hR'.after p9;have ag4:=hA'.keep p9;have aev:=hA'.lt;have hy0:W.heap.size<=yb:=Nat.le_of_eq HW0.out.symm;have hy1:yb<=W.heap.size:=Nat.le_of_eq HW0.out;obtain⟨q,hq⟩:∃q:Nat->Int,Hid (∀i,q i=(Tr.sub T f z).getD i 0):=⟨_,ah λ_=>rfl⟩;have hJ5:=HJ.out (1+told T f l k) S' (λ_=>False) W' W5 hJk (Out.of_below p9) (λ_ _ q=>q);have hlt1:=xK.lt;have hlt2:=xL.lt
        refine zQ (gf:=53) (first:=#[]) (lb:=#[.pointer (some ⟨W'.heap.size,0,none⟩),.pointer (some ⟨W'.heap.size+1,0,none⟩)]) rfl (enters_of Tryz.func53 jD rfl) (Tr.sub T f z).length (λi=>#[.int .i64 (q i)]) (λ_=>rfl)
         (λi S2 V=>∃S1,(∀b,S2 b↔S1 b\/b=yb)/\(∀b,S1 b->b≠yb)/\J (1+told T f l k+i) S1 V/\At V yb (.cells #[.func (.yield lp) #[] #[]] 53))
         (λS2 V=>∃S1,(∀b,S1 b->S2 b)/\Jx S1 V)
         ?stab ?stabx (λb=>S' b\/b=yb) (λb hb=>by rcases hb with hb|hb;(have:=(hS' b hb).2.2.2;omega);omega) ⟨S',λb=>Iff.rfl,λb hb=>(hS' b hb).2.2.1,hJ5,ag4⟩
         ?hit (λi t=>(t.setIfInBounds 32 (.int .i64 (q i))).setIfInBounds 7 (.int .i64 (q i))) ?assign ?body ?done ?stop
        case stab =>
         rintro i S2 M V V' ⟨S1,h1,h2,h3,h4⟩ ho hm;exact⟨S1,h1,h2,HJ.out _ _ _ _ _ h3 ho (λb hb=>hm b ((h1 b).2 (.inl hb))),h4.out (hm yb ((h1 yb).2 (.inr rfl))) ho⟩
        case stabx =>
         rintro S2 M V V' ⟨S1,h1,h2⟩ ho hm;exact⟨S1,h1,HJX.out _ _ _ _ h2 ho (λb hb=>hm b (h1 b hb))⟩
        case hit =>
         intro lp2 J2 Jx2 S1 V hb hs1 hj2 ag5 hy2 h02;refine ih z _ lp2 _ _ t n L T J2 Jx2 S1 V hfz (NS.after hb) (xK.keep hb) (xL.keep hb) (λb hs => ?_) hj2 ag5 (λm i S W h1 h2=>by rw[<-hq.out i];exact hy2 m i S W h1 h2) h02;obtain⟨h1,h2⟩:=hs1 b hs;rcases h1 with(h1|h1)|h1
         . have:=hS' b h1
           exact⟨h2,this.1,by omega,by omega⟩
         . subst h1
           refine⟨h2,λq => ?_,by omega,by omega⟩;have:=sV.out.lt q;omega
         . refine⟨h2,λq => ?_,by omega,by omega⟩
           have:=NS.lt q;omega
        case assign =>
         intro l1 m1 i V G hi hG;exact Z26
        case body =>
         rintro l1 m1 i S2 V hi ⟨S1,h1,h2,h3,h4⟩;obtain⟨hti,hte⟩:=hta i hi;have hyy:=HY.out (m1-1) (1+told T f l k+i) S1 V (by simp only[List.length_cons];omega) h3;rw[show(x::fl).getD (1+told T f l k+i) 0=q i by rw[hq.out,<-hte,show 1+told T f l k+i=(told T f l k+i)+1 by omega];rfl]at hyy;obtain⟨fn2,aiK,assign2,aiL,hyq,hRq⟩:=hyy;have cyb:=h4.cell 0;simp at cyb;generalize q i=y at *;simp only[List.setIfInBounds_toArray,List.set_cons_zero,List.set_cons_succ]
         gi_wp2
         refine⟨hdp _,RoundIn.mono (F:=Fence.wide.inRound l1) hRq ?_⟩;rintro e V3 ⟨S3',hw3,(⟨rfl,hJ3⟩|⟨rfl,hJx3⟩)⟩
         . have hyl:=h4.lt
           gi_wp2
           refine⟨λb=>S3' b\/b=yb,⟨hw3.1.mono λb _ hb=>(h1 b).2 (.inl hb),λb hb => ?_⟩,S3',λb=>Iff.rfl,λb hb => ?_,hJ3,h4.out (λhb=>h2 yb hb rfl) hw3.1⟩
           . rcases hb with hb|hb
             . rcases hw3.2 b hb with hb|hb
               . exact .inl ((h1 b).2 (.inl hb))
               . exact .inr hb
             . exact .inl ((h1 b).2 (.inr hb))
           . rcases hw3.2 b hb with hb|hb
             . exact h2 b hb
             . omega
         . gi_wp2
           exact⟨S3',⟨hw3.1.mono λb _ hb=>(h1 b).2 (.inl hb),λb hb=>(hw3.2 b hb).imp_left λhb=>(h1 b).2 (.inl hb)⟩,S3',λb hb=>hb,hJx3⟩
        case done =>
         rintro D S2 V hDl ZN Yi ⟨S1,h1,h2,h3,h4⟩ ZO;have hwW:=hw.with_ ⟨hy0,aev⟩ p9 ZN;have e6:=ZN.1.size;have hkl:(k:Int)<mm:=by omega
         gi_wp2
         refine⟨⟨k+1,S1,D::Ds,_,_,_,_,_,_,_,_,_,_,_,_,_,_,by omega,?_,hwW.sub (λb hb=>(h1 b).2 (.inl hb)),⟨List.nodup_cons.2 ⟨λhm => ?_,hDn⟩,λE hE => ?_⟩,h4,λb hb => ?_,rfl⟩,?_⟩
         . rw[hts,<-Nat.add_assoc];exact h3
         . have:=(Array.getElem?_eq_some_iff.1 (hD D hm).2.2).1
           omega
         . rcases List.mem_cons.1 hE with rfl|hE
           . exact⟨by omega,λq=>Yi ((h1 _).2 (.inl q)),ZO⟩
           . obtain⟨q1,q2,q3⟩:=hD E hE
             have q4:=(Array.getElem?_eq_some_iff.1 q3).1;have q5:E≠yb:=λe=>by subst e;have:=(show At W' E _ from q3).uniq hA';cases this
             refine⟨q1,λq => ?_,?_⟩
             . rcases ZN.2 E ((h1 E).2 (.inl q))with(q|q)|q
               . exact q2 q
               . exact q5 q
               . omega
             . rw[ZN.1.2 E aj (λq=>q.elim q2 q5),p9.block E q4];exact q3
         . rcases ZN.2 b ((h1 b).2 (.inl hb))with(q|q)|q
           . have:=hS' b q
             exact⟨this.1,this.2.1,this.2.2.1,by omega⟩
           . exact absurd q (h2 b hb)
           . refine⟨λr => ?_,by have:=htb'.lt;omega,by omega,q.2⟩
             have:=NS.lt r;omega
         . simp[intOf];omega
        case stop =>
         rintro D S2 V hDl ZN Yi ⟨S1,h1,h2⟩ ZO;have hwW:=hw.with_ ⟨hy0,aev⟩ p9 ZN
         have hE:∀E∈D::Ds,W.heap.size<=E/\¬ S2 E/\V.heap[E]? = some (.deferred (some [])):=λE hE=>by
          rcases List.mem_cons.1 hE with rfl|hE
          . exact⟨by omega,Yi,ZO⟩
          . obtain⟨q1,q2,q3⟩:=hD E hE
            have q4:=(Array.getElem?_eq_some_iff.1 q3).1;have q5:E≠yb:=λe=>by subst e;have:=(show At W' E _ from q3).uniq hA';cases this
            refine⟨q1,λq => ?_,?_⟩
            . rcases ZN.2 E q with(q|q)|q
              . exact q2 q
              . exact q5 q
              . omega
            . rw[ZN.1.2 E aj (λq=>q.elim q2 q5),p9.block E q4];exact q3
         have hnd:(D::Ds).Nodup:=List.nodup_cons.2 ⟨λhm=>by have:=(Array.getElem?_eq_some_iff.1 (hD D hm).2.2).1;omega,hDn⟩
         gi_wp2
         exact tK (D::Ds) V hnd (λE q=>(hE E q).2.2) λW7 ho=>⟨_,results_none rfl _ _ _,⟨⟨_,rfl⟩,S1,(hwW.sub h1).more ho (λb hb=>(hE b hb).1),.inr (HJX.out _ _ _ _ h2 ho (λb hb q=>(hE b q).2.1 (h1 b hb)))⟩⟩
      . obtain rfl:k=mm:=by omega
        gi_wp2
        refine tK Ds W' hDn (λE q=>(hD E q).2.2) λW7 ho=>⟨_,results_none rfl _ _ _,⟨⟨_,rfl⟩,S',hw.more ho (λb hb=>(hD b hb).1),.inl ?_⟩⟩;rw[F5.out,<-U8,HM.out,Nat.add_comm];exact HJ.out _ _ _ _ _ hJk ho (λb hb q=>(hD b q).2.1 hb)
   . gi_wp2
     exact⟨_,results_none rfl _ _ _,⟨⟨_,rfl⟩,S3,hw1.trans hw3,.inr hJx3⟩⟩
end Go.Proofs.YtmidaiklolmkcaaGreat.Fix
namespace Go.Proofs.YtmidaiklolmkcaaGreat.Fix
open Go.ChangeShapes Go.WideShapes Go.ChangeAt Go.RowKit Go.Shelf
attribute [local go_sem] Oper.semAt_some
theorem bJ{M:Nat->Prop}{W W':World}{base:Nat}{e:TypeId}{size:Nat}{v:Value}{n:Nat}{xs:List Value}(h:W.ownsRow base e size v n xs)(hm:∀g,v.ownBlock=some g->¬ M g)(k:Out M W W'):W'.ownsRow base e size v n xs:=by
 refine⟨h.1,?_⟩;rcases h.2 with q|⟨g,cap,cur,rfl,hb,hg,r⟩
 . exact .inl q
 . exact .inr ⟨g,cap,cur,rfl,hb,(show At W g _ from hg).out (hm g rfl) k,r⟩
theorem fH{W:World}{base base':Nat}{e:TypeId}{size:Nat}{v:Value}{k:Nat}{xs:List Value}(h:W.ownsRow base e size v k xs)(hb:base'<=base):W.ownsRow base' e size v k xs:=by
 refine⟨h.1,?_⟩;rcases h.2 with q|⟨g,cap,cur,q1,q2,r⟩
 . exact .inl q
 . exact .inr ⟨g,cap,cur,q1,aJ hb q2,r⟩
theorem Va{t n f tb ib:Nat}{L:Lay}{T:Tr.T}{x:Int}{w:World}(hR:fV w t L T n)(hfit:Tr.Fit T f x)(hlen:(Tr.sub T f x).length<=10000)(htb:At w tb (.cells #[.pointer (some ⟨t,0,none⟩)] 24))(hib:At w ib (.cells #[.int .i64 x] 3)) :
  Calls Tryz.prog 52 #[.slice none 0 0,.func (.func 53) #[] #[.pointer (some ⟨tb,0,none⟩),.pointer (some ⟨ib,0,none⟩)]] w λe w' =>
   (∃v,e=.returned v/\w'.ownsRow w.heap.size 3 1 v (Tr.sub T f x).length ((Tr.sub T f x).map (Value.int .i64)))/\Below w.heap.size w w':=by
 obtain⟨i0,hi,hz0,hz1,hz2⟩:=info_parts intZero;obtain⟨l,hl⟩:∃l,Hid (l=Tr.sub T f x):=⟨_,ah rfl⟩;rw[<-hl.out]at hlen ⊢;obtain⟨q,hq⟩:∃q:Nat->Int,Hid (∀i,q i=l.getD i 0):=⟨_,ah λ_=>rfl⟩;have hB0:Below w.heap.size w (w.alloc (.cells #[.slice none 0 0] 30)):=Below.alloc' aF _;have Vb:At (w.alloc (.cells #[.slice none 0 0] 30)) w.heap.size (.cells #[.slice none 0 0] 30):=At.new _ _;have hsz:(w.alloc (.cells #[.slice none 0 0] 30)).heap.size=w.heap.size+1:=by simp
 have hR0:=hR.after hB0;have ag6:=htb.keep hB0;have ag7:=hib.keep hB0;have ltb:=htb.lt;have lib:=hib.lt;have HRW:=ah hR;clear hR htb hib;refine(callsIn_wide (n:=5)).1 ?_;refine callsIn_of_wp_marks Tryz.func52 rfl trivial ?_ rfl;simp only[Tryz.ntmps52,List.size_toArray,List.length_cons,List.length_nil,Nat.reduceAdd,Nat.reduceSub,Array.replicate_succ,Array.replicate_zero,List.push_toArray,List.append_toArray,List.nil_append,List.cons_append]
 gi_wp2
 generalize w.alloc (.cells #[.slice none 0 0] 30)=W0 at *
 refine zQ (gf:=53) (first:=#[]) (lb:=#[.pointer (some ⟨tb,0,none⟩),.pointer (some ⟨ib,0,none⟩)]) rfl (enters_of Tryz.func53 jD rfl) l.length (λi=>#[.int .i64 (q i)]) (λ_=>rfl)
  (λi S W=>∃v,(∀b,S b↔b=w.heap.size\/v.ownBlock=some b)/\At W w.heap.size (.cells #[v] 30)/\W.ownsRow w.heap.size 3 1 v i ((l.take i).map (Value.int .i64)))
  (λ_ _=>False) ?stab (λ_ _ _ _ h _ _=>h) (λb=>b=w.heap.size) (λb hb=>by omega)
  ⟨.slice none 0 0,λb=>by simp[Value.ownBlock],Vb,by simpa using World.ownsRow_nil W0 w.heap.size 3 1⟩ ?hit
  (λi t=>(t.setIfInBounds 7 (.int .i64 (q i))).setIfInBounds 5 (.int .i64 (q i))) ?assign ?body ?done ?stop
 case stab =>
  rintro i S M W W' ⟨v,h1,h2,h3⟩ ho hm;exact⟨v,h1,h2.out (hm _ ((h1 _).2 (.inl rfl))) ho,bJ h3 (λg hg=>hm g ((h1 g).2 (.inr hg))) ho⟩
 case hit =>
  intro lp J Jx S1 V hb hs1 hj Yj hy h0;rw[hl.out]at hy ⊢;refine Ky f x _ lp tb ib t n L T J Jx S1 V hfit (hR0.after hb) (ag6.keep hb) (ag7.keep hb) (λb hs => ?_) hj Yj (λm i S W h1 h2=>by rw[<-hl.out,<-hq.out i];exact hy m i S W h1 h2) h0;obtain⟨h1,h2⟩:=hs1 b hs;refine⟨h2,λr => ?_,by omega,by omega⟩;have:=HRW.out.lt r;omega
 case assign =>
  intro l1 m1 i V G hi hG;exact Z26
 case body =>
  rintro l1 m1 i S W hi2 ⟨v,h1,h2,h3⟩;have htk:Hid ((l.take (i+1)).map (Value.int .i64)=(l.take i).map (Value.int .i64)++[.int .i64 (q i)]):=ah (by rw[eO l i hi2,List.map_append,hq.out i];rfl)
  have hvB:v.ownBlock≠some w.heap.size:=λe=>by
   rcases h3.2 with⟨rfl,_⟩|⟨g,cap,cur,rfl,_,hg,_⟩
   . cases e
   . simp[Value.ownBlock]at e
     rw[e]at hg;have:=(show At W _ _ from hg).uniq h2;injection this with _ e2;exact absurd e2 aH
  have hc:=h2.cell 0;have hz:=h2.thaw 0;have hlt:=h2.lt;simp at hc;generalize q i=y at *;have H1:=ah h1;have H2:=ah h2;have H3:=ah h3;clear h1 h2;simp only[List.setIfInBounds_toArray,List.set_cons_zero,List.set_cons_succ]
  gi_wp2_with (gi_at_builtin;refine wpListIn_append_own_at _ rfl _ _ 30 rfl w.heap.size 3 i0 (.int .i64 0) 1 8 Tryz.underlying30 hi hz0 hz1 hz2 rfl aH _ _ _ rfl (H3.out.alloc _) ⟨W.heap.size,0,none⟩ 1 1 [.int .i64 y] rfl rfl (cell_one_new _ _ _) JB Py aj jM ?_)
  intro v' w1 hown' hgrow _ hat;obtain⟨g',cap',rfl⟩:=ownsRow_succ hown';have hA1:=(H2.out.alloc (.cells #[.int .i64 y] 3)).out (M:=λb=>v.ownBlock=some b) hvB (Out.grown hgrow λb e=>e);have hc1:=hA1.cell 0;have hz1':=hA1.thaw 0;simp at hc1
  gi_wp2
  have hg':g'≠w.heap.size:=λe=>by
   rcases hown'.2 with⟨q1,_⟩|⟨g,cap,cur,q1,_,hg,_⟩
   . cases q1
   . injection q1 with q1
     injection q1 with q1;injection q1 with q1;subst q1;rw[e]at hg;have:=(show At w1 _ _ from hg).uniq hA1;injection this with _ e2;exact absurd e2 aH
  have hgl:g'<w1.heap.size:=(hown'.lt g' rfl).2;have o1:Out S W (W.alloc (.cells #[.int .i64 y] 3)):=Out.of_below (Below.alloc' aF _);have o2:Out S (W.alloc (.cells #[.int .i64 y] 3)) w1:=Out.grown hgrow λb e=>(H1.out b).2 (.inr e);have o3:Out (λb=>b=w.heap.size) w1 (w1.setCell ⟨w.heap.size,0,none⟩ (.slice (some ⟨g',0,none⟩) (i+1) cap')):=(Out.refl _ _).set (M:=λb=>b=w.heap.size) rfl 0 _;have o4:Out S w1 (w1.setCell ⟨w.heap.size,0,none⟩ (.slice (some ⟨g',0,none⟩) (i+1) cap')):=o3.mono λb _ e=>(H1.out b).2 (.inl e);refine⟨λb=>b=w.heap.size\/b=g',⟨(o1.trans o2).trans o4,λb hb => ?_⟩,_,λb => ?_,hA1.set 0 _,?_⟩
  . rcases hb with hb|hb
    . exact .inl ((H1.out b).2 (.inl hb))
    . subst hb
      rcases hat with e|e
      . exact .inl ((H1.out b).2 (.inr (e▸rfl)))
      . simp[Value.ownBlock]at e
        refine .inr ⟨by omega,?_⟩;have:(w1.setCell ⟨w.heap.size,0,none⟩ (.slice (some ⟨b,0,none⟩) (i+1) cap')).heap.size=w1.heap.size:=by simp[World.setCell]
        omega
  . simp only[Value.ownBlock,Option.some.injEq]
    constructor<;>(intro hb;omega)
  . rw[htk.out,List.map_take]
    exact bJ hown' (λg hg q=>hg' (by simp[Value.ownBlock]at hg;rw[hg];exact q)) o3
 case done =>
  rintro D S W hDl hw Yi ⟨v,h1,h2,h3⟩ ZO;have hc:=h2.cell 0;simp at hc;have hBW:Below w.heap.size w W:=hB0.trans (hw.1.below aj λb hb e=>by omega);rw[List.take_length]at h3
  gi_wp2
  refine⟨by simp,.inl ⟨_,_,rfl,run_takeDeferred ZO,?_⟩⟩;have hoD:Out (λb=>b=D) W (W.putObj D (.deferred none)):=Out.putObj W D _;refine⟨_,results_tmp rfl _ _ _,⟨v,rfl,bJ h3 (λg hg (q:g=D) => ?_) hoD⟩,hBW.trans (hoD.below (by have:=hBW.size;omega) λb hb (q:b=D)=>by omega)⟩;exact Yi ((h1 D).2 (.inr (q▸hg)))
 case stop =>
  rintro D S W _ _ _ h _;exact h.elim
theorem AJ{t n f tb ib:Nat}{L:Lay}{T:Tr.T}{x:Int}{w:World}(hR:fV w t L T n)(hfit:Tr.Fit T f x)(hlen:(Tr.sub T f x).length<=10000)(htb:At w tb (.cells #[.pointer (some ⟨t,0,none⟩)] 24))(hib:At w ib (.cells #[.int .i64 x] 3)) :
  Calls Tryz.prog 27 #[.func (.func 53) #[] #[.pointer (some ⟨tb,0,none⟩),.pointer (some ⟨ib,0,none⟩)]] w λe w' =>
   (∃v,e=.returned v/\w'.ownsRow w.heap.size 3 1 v (Tr.sub T f x).length ((Tr.sub T f x).map (Value.int .i64)))/\Below w.heap.size w w':=by
 have key:=Va hR hfit hlen htb hib;clear hR hfit hlen htb hib;generalize Tr.sub T f x=l at *;go_enter Tryz.func27,Tryz.ntmps27
 go_wp2_with (go_at_call 52;(with_reducible refine key.mono ?_);rintro e w' ⟨⟨v,rfl,ho⟩,hb⟩)
 go_ret
 exact⟨⟨_,rfl,ho⟩,hb⟩
theorem NT{w:World}{t n:Nat}{L:Lay}{T:Tr.T}(h:fV w t L T n)(hf:Tr.Fit T 64 0)(hl:(Tr.ord T).length<=10000):Calls Tryz.prog 8 #[.pointer (some ⟨t,0,none⟩)] w λe w'=>(∃v,e=.returned v/\w'.ownsRow w.heap.size 3 1 v (Tr.ord T).length ((Tr.ord T).map (Value.int .i64)))/\Below w.heap.size w w':=by
 have key:=AJ (h.after (W':=(w.alloc (.cells #[.pointer (some ⟨t,0,none⟩)] 24)).alloc (.cells #[.int .i64 0] 3)) (Below.alloc' (Below.alloc' aF _) _)) hf hl ((At.new w _).alloc _) (At.new' (b:=w.heap.size+1) _ eZ);have hb0:Below w.heap.size w ((w.alloc (.cells #[.pointer (some ⟨t,0,none⟩)] 24)).alloc (.cells #[.int .i64 0] 3)):=Below.alloc' (Below.alloc' aF _) _;clear h;change Calls _ _ _ _ (λe w'=>(∃v,e=.returned v/\w'.ownsRow _ _ 1 v (Tr.ord T).length ((Tr.ord T).map (Value.int .i64)))/\_)at key;generalize Tr.ord T=l at *;go_enter Tryz.func8,Tryz.ntmps8
 go_wp2_with (first|(go_at_call 28;(with_reducible refine(wm _ _ _).mono ?_);rintro e w' ⟨rfl,rfl⟩)|(go_at_call 27;(with_reducible refine key.mono ?_);rintro e w' ⟨⟨v,rfl,ho⟩,hb⟩))
 go_ret
 exact⟨⟨_,rfl,fH ho jM⟩,hb0.trans (hb.mono jM)⟩
theorem NU{w:World}{t n f:Nat}{L:Lay}{T:Tr.T}{x y:Int}(hR:fV w t L T n)(hfit:Tr.Fit T f x) :
  Calls Tryz.prog 60 #[.pointer (some ⟨t,0,none⟩),.int .i64 x,.int .i64 y] w λe w'=>e=.returned (.bool (decide (y∈Tr.sub T f x)))/\Below w.heap.size w w':=by
 obtain⟨l,hl⟩:∃l,Hid (l=Tr.sub T f x):=⟨_,ah rfl⟩;rw[<-hl.out];obtain⟨q,hq⟩:∃q:Nat->Int,Hid (∀i,q i=l.getD i 0):=⟨_,ah λ_=>rfl⟩;have xK:At ((w.alloc (.cells #[.int .i64 y] 3)).alloc (.cells #[.bool false] 4)) w.heap.size (.cells #[.int .i64 y] 3):=(At.new _ _).alloc _;have xL:At ((w.alloc (.cells #[.int .i64 y] 3)).alloc (.cells #[.bool false] 4)) (w.heap.size+1) (.cells #[.bool false] 4):=At.new' _ eZ;have hB0:Below w.heap.size w ((w.alloc (.cells #[.int .i64 y] 3)).alloc (.cells #[.bool false] 4)):=Below.alloc' (Below.alloc' aF _) _;have hsz:((w.alloc (.cells #[.int .i64 y] 3)).alloc (.cells #[.bool false] 4)).heap.size=w.heap.size+2:=by simp
 generalize hW0:(w.alloc (.cells #[.int .i64 y] 3)).alloc (.cells #[.bool false] 4)=W0 at *;have hB1:Below W0.heap.size W0 ((W0.alloc (.cells #[.pointer (some ⟨t,0,none⟩)] 24)).alloc (.cells #[.int .i64 x] 3)):=Below.alloc' (Below.alloc' aF _) _;have MO:At ((W0.alloc (.cells #[.pointer (some ⟨t,0,none⟩)] 24)).alloc (.cells #[.int .i64 x] 3)) W0.heap.size (.cells #[.pointer (some ⟨t,0,none⟩)] 24):=(At.new _ _).alloc _;have NV:At ((W0.alloc (.cells #[.pointer (some ⟨t,0,none⟩)] 24)).alloc (.cells #[.int .i64 x] 3)) (W0.heap.size+1) (.cells #[.int .i64 x] 3):=At.new' _ eZ;have hsz1:((W0.alloc (.cells #[.pointer (some ⟨t,0,none⟩)] 24)).alloc (.cells #[.int .i64 x] 3)).heap.size=W0.heap.size+2:=by simp
 generalize hW1:(W0.alloc (.cells #[.pointer (some ⟨t,0,none⟩)] 24)).alloc (.cells #[.int .i64 x] 3)=W1 at *;have ru:=(hR.after hB0).after hB1;have ag8:=xK.keep hB1;have ag9:=xL.keep hB1;have HRW:=ah hR;have hB2:=hB0.trans (hB1.mono aj);clear hR;refine(callsIn_wide (n:=5)).1 ?_;refine callsIn_of_wp_marks Tryz.func60 rfl trivial ?_ rfl;simp only[Tryz.ntmps60,List.size_toArray,List.length_cons,List.length_nil,Nat.reduceAdd,Nat.reduceSub,Array.replicate_succ,Array.replicate_zero,List.push_toArray,List.append_toArray,List.nil_append,List.cons_append]
 gi_wp2_with (refine⟨trivial,?_⟩;gi_at_call 28;refine(callsIn_wide.2 (wm t x W0)).mono ?_;rintro e w' ⟨rfl,rfl⟩)
 (try rw[hW1])
 clear hW0 hW1;rw[hsz]at MO NV
 refine zQ (gf:=53) (first:=#[]) (lb:=#[.pointer (some ⟨w.heap.size+2,0,none⟩),.pointer (some ⟨w.heap.size+2+1,0,none⟩)]) rfl (enters_of Tryz.func53 jD rfl) l.length (λi=>#[.int .i64 (q i)]) (λ_=>rfl)
  (λi S W=>(∀b,S b↔b=w.heap.size\/b=w.heap.size+1)/\At W w.heap.size (.cells #[.int .i64 y] 3)/\At W (w.heap.size+1) (.cells #[.bool false] 4)/\y ∉ l.take i)
  (λS W=>(∀b,S b↔b=w.heap.size\/b=w.heap.size+1)/\At W (w.heap.size+1) (.cells #[.bool true] 4)/\y∈l) ?stab ?stabx (λb=>b=w.heap.size\/b=w.heap.size+1) (λb hb=>by omega)
  ⟨λb=>Iff.rfl,ag8,ag9,by simp⟩ ?hit
  (λi t=>(t.setIfInBounds 11 (.int .i64 (q i))).setIfInBounds 7 (.int .i64 (q i))) ?assign ?body ?done ?stop
 case stab =>
  rintro i S M W W' ⟨h1,h2,h3,h4⟩ ho hm;exact⟨h1,h2.out (hm _ ((h1 _).2 (.inl rfl))) ho,h3.out (hm _ ((h1 _).2 (.inr rfl))) ho,h4⟩
 case stabx =>
  rintro S M W W' ⟨h1,h2,h3⟩ ho hm;exact⟨h1,h2.out (hm _ ((h1 _).2 (.inr rfl))) ho,h3⟩
 case hit =>
  intro lp J Jx S1 V hb hs1 hj Yj hy h0;rw[hl.out]at hy ⊢;refine Ky f x _ lp _ _ t n L T J Jx S1 V hfit (ru.after hb) (MO.keep hb) (NV.keep hb) (λb hs => ?_) hj Yj (λm i S W h1 h2=>by rw[<-hl.out,<-hq.out i];exact hy m i S W h1 h2) h0;obtain⟨h1,h2⟩:=hs1 b hs;refine⟨h2,λr => ?_,by omega,by omega⟩;have:=HRW.out.lt r;omega
 case assign =>
  intro l1 m1 i V G hi hG;exact Z26
 case body =>
  rintro l1 m1 i S W hi2 ⟨h1,h2,h3,h4⟩;have htk:Hid (l.take (i+1)=l.take i++[q i]):=ah (by rw[eO l i hi2,hq.out i]);have hmem:Hid (q i∈l):=ah (by rw[hq.out i,List.getD,List.getElem?_eq_getElem hi2];exact List.getElem_mem _);have hc:=h2.cell 0;have hc3:=h3.cell 0;have hz3:=h3.thaw 0;simp at hc hc3;generalize q i=z at *;have H1:=ah h1;have H2:=ah h2;have H3:=ah h3;have H4:=ah h4;clear h1 h2 h3 h4;simp only[List.setIfInBounds_toArray,List.set_cons_zero,List.set_cons_succ];by_cases e:z=y
  . subst e
    gi_wp2
    exact⟨S,⟨(Out.refl _ _).set (M:=S) ((H1.out _).2 (.inr rfl)) 0 _,λb hb => .inl hb⟩,H1.out,H3.out.set 0 _,hmem.out⟩
  . have eb:(z==y)=false:=by simpa using e
    gi_wp2
    exact⟨S,mG.refl _ _,H1.out,H2.out,H3.out,by rw[htk.out,List.mem_append,List.mem_singleton];exact λh=>h.elim H4.out (λh=>e h.symm)⟩
 case done =>
  rintro D S W hDl hw Yi ⟨h1,h2,h3,h4⟩ ZO;rw[List.take_length]at h4;have hc:=h3.cell 0;have hz:=h3.thaw 0;simp at hc;have hBW:Below w.heap.size w W:=hB2.trans (hw.1.below aj λb hb e=>by omega);have o3:Out (λb=>b=w.heap.size+1) W (W.setCell ⟨w.heap.size+1,0,none⟩ (.bool false)):=(Out.refl _ _).set (M:=λb=>b=w.heap.size+1) rfl 0 _;have hD2:(W.setCell ⟨w.heap.size+1,0,none⟩ (.bool false)).heap[D]? = some (.deferred (some [])):=(show At W D _ from ZO).out (M:=λb=>b=w.heap.size+1) (λ(e:D=w.heap.size+1)=>Yi ((h1 D).2 (.inr e))) o3
  gi_wp2
  refine⟨by simp,.inl ⟨_,_,rfl,run_takeDeferred hD2,?_⟩⟩;have hoD:=Out.putObj (W.setCell ⟨w.heap.size+1,0,none⟩ (.bool false)) D (.deferred none);have qF:=(h3.set 0 (.bool false)).out (M:=λb=>b=D) (λ(e:w.heap.size+1=D)=>Yi ((h1 D).2 (.inr e.symm))) hoD;have wz:Below w.heap.size w ((W.setCell ⟨w.heap.size+1,0,none⟩ (.bool false)).putObj D (.deferred none)):=(hBW.trans (o3.below (by have:=hBW.size;omega) λb hb (q:b=w.heap.size+1)=>by omega)).trans (hoD.below (by have:=hBW.size;have:=o3.size;omega) λb hb (q:b=D)=>by omega);have hc9:=qF.cell 0;simp at hc9;generalize World.putObj _ _ _=W9 at *;refine⟨.bool false,?_,by simp[h4],wz⟩;simp[results,Tryz.results60,go_sem,hc9]
 case stop =>
  rintro D S W hDl hw Yi ⟨h1,h3,h4⟩ ZO;have hBW:Below w.heap.size w W:=hB2.trans (hw.1.below aj λb hb e=>by omega)
  gi_wp2
  refine⟨by simp,.inl ⟨_,_,rfl,run_takeDeferred ZO,?_⟩⟩;have hoD:=Out.putObj W D (.deferred none);have qF:=h3.out (M:=λb=>b=D) (λ(e:w.heap.size+1=D)=>Yi ((h1 D).2 (.inr e.symm))) hoD;have wz:Below w.heap.size w (W.putObj D (.deferred none)):=hBW.trans (hoD.below (by have:=hBW.size;omega) λb hb (q:b=D)=>by omega);have hc9:=qF.cell 0;simp at hc9;generalize World.putObj _ _ _=W9 at *;refine⟨.bool true,?_,by simp[h4],wz⟩;simp[results,Tryz.results60,go_sem,hc9]
end Go.Proofs.YtmidaiklolmkcaaGreat.Fix
namespace Go.Proofs.YtmidaiklolmkcaaGreat.Fix
open Go.ChangeShapes Go.WideShapes Go.ChangeAt Go.RowKit
structure Here(F:FuncId)(caps:Array Value)(I:List Int->World->Prop)(bw b:Nat)(T:TypeId)(cs:Array Value)(wr:Bool)(xs:List Int)(W:World):Prop where
 i:I xs W
 a:At W b (.cells cs T)
 w:At W bw (.cells #[.func (.func F) #[] caps,.bool wr] 150)
structure dI(mine:Nat->Prop)(b bw:Nat):Prop where
 nb:¬ mine b
 nw:¬ mine bw
 ne:b≠bw
theorem fD{bw:Nat}{v:Value}{wr ok:Bool}{w:World}(aw:At w bw (.cells #[v,.bool wr] 150)) :
  Calls Tryz.prog 143 #[.pointer (some ⟨bw,0,none⟩),.bool ok] w λe w'=>e=.returned (.tuple #[])/\w'=w.setCell ⟨bw,1,none⟩ (.bool (wr || !ok)):=by
 obtain⟨lw,c0,c1⟩:=At.two aw;have z1:=aw.thaw 1;cases wr
 . go_enter Tryz.func143,Tryz.ntmps143
   go_wp2;refine bodyPost_end (results_none rfl _ _ _) rfl ⟨rfl,rfl⟩
 . go_enter Tryz.func143,Tryz.ntmps143
   go_wp2;refine bodyPost_end (results_none rfl _ _ _) rfl ⟨rfl,rfl⟩
theorem Here.held{F:FuncId}{caps:Array Value}{f:Nat->Int->Int}{mine:Nat->Prop}{I:List Int->World->Prop}(hA:jF F caps f mine I){bw b:Nat}{T:TypeId}{cs:Array Value}{wr:Bool}{xs:List Int}{W:World}
 (h:Here F caps I bw b T cs wr xs W) (hp:dI mine b bw) (v:Bool):Here F caps I bw b T cs v xs (W.setCell ⟨bw,1,none⟩ (.bool v)):=⟨hA.set _ _ _ _ _ h.i hp.nw,h.a.off hp.ne _ _,h.w.set 1 _⟩
theorem Here.keep{F:FuncId}{caps:Array Value}{f:Nat->Int->Int}{mine:Nat->Prop}{I:List Int->World->Prop}(hA:jF F caps f mine I){bw b:Nat}{T:TypeId}{cs:Array Value}{wr:Bool}{xs:List Int}{W W':World}
 (h:Here F caps I bw b T cs wr xs W) (hb:Below W.heap.size W W'):Here F caps I bw b T cs wr xs W':=⟨hA.keep _ _ _ h.i hb,h.a.keep hb,h.w.keep hb⟩
theorem F4{F:FuncId}{caps:Array Value}{f:Nat->Int->Int}{mine:Nat->Prop}{I:List Int->World->Prop}(hA:jF F caps f mine I){b o bw:Nat}{cs:Array Value}{T:TypeId}{wr:Bool}{x y:Int}{xs:List Int}{w:World}
  (h:Here F caps I bw b T cs wr xs w) (hp:dI mine b bw) (hx:xs.length<55) (ho:cs[o]? = some (.int .i64 x)) (hy:y=f xs.length x) :
  Calls Tryz.prog 142 #[.pointer (some ⟨bw,0,none⟩),.pointer (some ⟨b,o,none⟩)] w λe w'=>e=.returned (.tuple #[])/\Here F caps I bw b T (cs.setIfInBounds o (.int .i64 y)) wr (xs++[x]) w'/\Out (λc=>mine c\/c=b) w w':=by
 subst hy;obtain⟨hI,a,aw⟩:=h;obtain⟨n1,n2,n3⟩:=hp;have cx:w.cell? ⟨b,o,none⟩=some (.int .i64 x):=(a.cell o).trans ho;have lb:=a.lt;obtain⟨lw,c0,c1⟩:=At.two aw;have hcf:=hA.enters;go_enter Tryz.func142,Tryz.ntmps142
 exact Zb
theorem F3{F:FuncId}{caps:Array Value}{f:Nat->Int->Int}{mine:Nat->Prop}{I:List Int->World->Prop}(hA:jF F caps f mine I){b o bw:Nat}{cs:Array Value}{T:TypeId}{wr:Bool}{x y:Int}{xs:List Int}{w:World}
  (h:Here F caps I bw b T cs wr xs w) (hp:dI mine b bw) (hx:xs.length<55) (ho:cs[o]? = some (.int .i64 x)) (hy:y=f xs.length x) :
  Calls Tryz.prog 144 #[.pointer (some ⟨bw,0,none⟩),.pointer (some ⟨b,o,none⟩)] w λe w'=>e=.returned (.tuple #[])/\Here F caps I bw b T (cs.setIfInBounds o (.int .i64 y)) wr (xs++[x]) w'/\Out (λc=>mine c\/c=b) w w':=by
 subst hy;obtain⟨hI,a,aw⟩:=h;obtain⟨n1,n2,n3⟩:=hp;have cx:w.cell? ⟨b,o,none⟩=some (.int .i64 x):=(a.cell o).trans ho;have lb:=a.lt;obtain⟨lw,c0,c1⟩:=At.two aw;have hcf:=hA.enters;go_enter Tryz.func144,Tryz.ntmps144
 exact Zb
theorem FZ{F:FuncId}{caps:Array Value}{f:Nat->Int->Int}{mine:Nat->Prop}{I:List Int->World->Prop}(hA:jF F caps f mine I){b o bw:Nat}{cs:Array Value}{T:TypeId}{wr:Bool}{x y:Int}{xs:List Int}{w:World}
  (h:Here F caps I bw b T cs wr xs w) (hp:dI mine b bw) (hx:xs.length<55) (ho:cs[o]? = some (.int .i64 x)) (hy:y=f xs.length x) :
  Calls Tryz.prog 145 #[.pointer (some ⟨bw,0,none⟩),.pointer (some ⟨b,o,none⟩)] w λe w'=>e=.returned (.tuple #[])/\Here F caps I bw b T (cs.setIfInBounds o (.int .i64 y)) wr (xs++[x]) w'/\Out (λc=>mine c\/c=b) w w':=by
 subst hy;obtain⟨hI,a,aw⟩:=h;obtain⟨n1,n2,n3⟩:=hp;have cx:w.cell? ⟨b,o,none⟩=some (.int .i64 x):=(a.cell o).trans ho;have lb:=a.lt;obtain⟨lw,c0,c1⟩:=At.two aw;have hcf:=hA.enters;go_enter Tryz.func145,Tryz.ntmps145
 exact Zb
theorem Rt{F:FuncId}{caps:Array Value}{f:Nat->Int->Int}{mine:Nat->Prop}{I:List Int->World->Prop}(hA:jF F caps f mine I){b o bw:Nat}{cs:Array Value}{T:TypeId}{wr:Bool}{x y:Int}{xs:List Int}{w:World}
  (h:Here F caps I bw b T cs wr xs w) (hp:dI mine b bw) (hx:xs.length<55) (ho:cs[o]? = some (.int .i64 x)) (hy:y=f xs.length x) :
  Calls Tryz.prog 146 #[.pointer (some ⟨bw,0,none⟩),.pointer (some ⟨b,o,none⟩)] w λe w'=>e=.returned (.tuple #[])/\Here F caps I bw b T (cs.setIfInBounds o (.int .i64 y)) wr (xs++[x]) w'/\Out (λc=>mine c\/c=b) w w':=by
 subst hy;obtain⟨hI,a,aw⟩:=h;obtain⟨n1,n2,n3⟩:=hp;have cx:w.cell? ⟨b,o,none⟩=some (.int .i64 x):=(a.cell o).trans ho;have lb:=a.lt;obtain⟨lw,c0,c1⟩:=At.two aw;have hcf:=hA.enters;go_enter Tryz.func146,Tryz.ntmps146
 exact Zb
theorem zC{F:FuncId}{caps:Array Value}{f:Nat->Int->Int}{mine:Nat->Prop}{I:List Int->World->Prop}(hA:jF F caps f mine I){b o bw:Nat}{cs:Array Value}{T:TypeId}{wr:Bool}{x y:Int}{xs:List Int}{w:World}
  (h:Here F caps I bw b T cs wr xs w) (hp:dI mine b bw) (hx:xs.length<55) (ho:cs[o]? = some (.int .i64 x)) (hy:y=f xs.length x) :
  Calls Tryz.prog 147 #[.pointer (some ⟨bw,0,none⟩),.pointer (some ⟨b,o,none⟩)] w λe w'=>e=.returned (.tuple #[])/\Here F caps I bw b T (cs.setIfInBounds o (.int .i64 y)) wr (xs++[x]) w'/\Out (λc=>mine c\/c=b) w w':=by
 subst hy;obtain⟨hI,a,aw⟩:=h;obtain⟨n1,n2,n3⟩:=hp;have cx:w.cell? ⟨b,o,none⟩=some (.int .i64 x):=(a.cell o).trans ho;have lb:=a.lt;obtain⟨lw,c0,c1⟩:=At.two aw;have hcf:=hA.enters;go_enter Tryz.func147,Tryz.ntmps147
 exact Zb
theorem FY{F:FuncId}{caps:Array Value}{f:Nat->Int->Int}{mine:Nat->Prop}{I:List Int->World->Prop}(hA:jF F caps f mine I){b o bw:Nat}{cs:Array Value}{T:TypeId}{wr:Bool}{x y:Int}{xs:List Int}{w:World}
  (h:Here F caps I bw b T cs wr xs w) (hp:dI mine b bw) (hx:xs.length<55) (ho:cs[o]? = some (.int .i64 x)) (hy:y=f xs.length x) :
  Calls Tryz.prog 149 #[.pointer (some ⟨bw,0,none⟩),.pointer (some ⟨b,o,none⟩)] w λe w'=>e=.returned (.tuple #[])/\Here F caps I bw b T (cs.setIfInBounds o (.int .i64 y)) wr (xs++[x]) w'/\Out (λc=>mine c\/c=b) w w':=by
 subst hy;obtain⟨hI,a,aw⟩:=h;obtain⟨n1,n2,n3⟩:=hp;have cx:w.cell? ⟨b,o,none⟩=some (.int .i64 x):=(a.cell o).trans ho;have lb:=a.lt;obtain⟨lw,c0,c1⟩:=At.two aw;have hcf:=hA.enters;go_enter Tryz.func149,Tryz.ntmps149
 exact Zb
theorem FX{F:FuncId}{caps:Array Value}{f:Nat->Int->Int}{mine:Nat->Prop}{I:List Int->World->Prop}(hA:jF F caps f mine I){b o bw:Nat}{cs:Array Value}{T:TypeId}{wr:Bool}{x y:Int}{xs:List Int}{w:World}
  (h:Here F caps I bw b T cs wr xs w) (hp:dI mine b bw) (hx:xs.length<55) (ho:cs[o]? = some (.int .i64 x)) (hy:y=f xs.length x) :
  Calls Tryz.prog 150 #[.pointer (some ⟨bw,0,none⟩),.pointer (some ⟨b,o,none⟩)] w λe w'=>e=.returned (.tuple #[])/\Here F caps I bw b T (cs.setIfInBounds o (.int .i64 y)) wr (xs++[x]) w'/\Out (λc=>mine c\/c=b) w w':=by
 subst hy;obtain⟨hI,a,aw⟩:=h;obtain⟨n1,n2,n3⟩:=hp;have cx:w.cell? ⟨b,o,none⟩=some (.int .i64 x):=(a.cell o).trans ho;have lb:=a.lt;obtain⟨lw,c0,c1⟩:=At.two aw;have hcf:=hA.enters;go_enter Tryz.func150,Tryz.ntmps150
 exact Zb
theorem FW{F:FuncId}{caps:Array Value}{f:Nat->Int->Int}{mine:Nat->Prop}{I:List Int->World->Prop}(hA:jF F caps f mine I){b o bw:Nat}{cs:Array Value}{T:TypeId}{wr:Bool}{x y:Int}{xs:List Int}{w:World}
  (h:Here F caps I bw b T cs wr xs w) (hp:dI mine b bw) (hx:xs.length<55) (ho:cs[o]? = some (.int .i64 x)) (hy:y=f xs.length x) :
  Calls Tryz.prog 151 #[.pointer (some ⟨bw,0,none⟩),.pointer (some ⟨b,o,none⟩)] w λe w'=>e=.returned (.tuple #[])/\Here F caps I bw b T (cs.setIfInBounds o (.int .i64 y)) wr (xs++[x]) w'/\Out (λc=>mine c\/c=b) w w':=by
 subst hy;obtain⟨hI,a,aw⟩:=h;obtain⟨n1,n2,n3⟩:=hp;have cx:w.cell? ⟨b,o,none⟩=some (.int .i64 x):=(a.cell o).trans ho;have lb:=a.lt;obtain⟨lw,c0,c1⟩:=At.two aw;have hcf:=hA.enters;go_enter Tryz.func151,Tryz.ntmps151
 exact Zb
theorem FV{F:FuncId}{caps:Array Value}{f:Nat->Int->Int}{mine:Nat->Prop}{I:List Int->World->Prop}(hA:jF F caps f mine I){b o bw:Nat}{cs:Array Value}{T:TypeId}{wr:Bool}{x y:Int}{xs:List Int}{w:World}
  (h:Here F caps I bw b T cs wr xs w) (hp:dI mine b bw) (hx:xs.length<55) (ho:cs[o]? = some (.int .i64 x)) (hy:y=f xs.length x) :
  Calls Tryz.prog 152 #[.pointer (some ⟨bw,0,none⟩),.pointer (some ⟨b,o,none⟩)] w λe w'=>e=.returned (.tuple #[])/\Here F caps I bw b T (cs.setIfInBounds o (.int .i64 y)) wr (xs++[x]) w'/\Out (λc=>mine c\/c=b) w w':=by
 subst hy;obtain⟨hI,a,aw⟩:=h;obtain⟨n1,n2,n3⟩:=hp;have cx:w.cell? ⟨b,o,none⟩=some (.int .i64 x):=(a.cell o).trans ho;have lb:=a.lt;obtain⟨lw,c0,c1⟩:=At.two aw;have hcf:=hA.enters;go_enter Tryz.func152,Tryz.ntmps152
 exact Zb
theorem Kz{F:FuncId}{caps:Array Value}{f:Nat->Int->Int}{mine:Nat->Prop}{I:List Int->World->Prop}(hA:jF F caps f mine I){b o bw:Nat}{cs:Array Value}{T:TypeId}{wr:Bool}{x y lo hi:Int}{xs:List Int}{w:World}
  (h:Here F caps I bw b T cs wr xs w) (hp:dI mine b bw) (hx:xs.length<55) (ho:cs[o]? = some (.int .i64 x)) (hy:y=f xs.length x) :
  Calls Tryz.prog 111 #[.pointer (some ⟨bw,0,none⟩),.pointer (some ⟨b,o,none⟩),.int .i64 lo,.int .i64 hi] w λe w'=>e=.returned (.tuple #[])/\Here F caps I bw b T (cs.setIfInBounds o (.int .i64 y)) (wr || !Re.inn y lo hi) (xs++[x]) w'/\Out (λc=>mine c\/c=b\/c=bw) w w':=by
 have HY:=ah hy;clear hy;have hlt:o<cs.size:=(Array.getElem?_eq_some_iff.1 ho).1;have hgo:(cs.setIfInBounds o (.int .i64 y))[o]? = some (.int .i64 y):=by simp[hlt]
 have CQ:=ah hgo;have HO:=ah ho;clear hgo ho hlt;by_cases h1:lo<=y
 . have e1:decide (lo<=y)=true:=decide_eq_true h1
   by_cases h2:y<=hi
   . have e2:decide (y<=hi)=true:=decide_eq_true h2
     have wH:=ah (show Re.inn y lo hi=true by unfold Re.inn;rw[e1,e2];rfl);go_enter Tryz.func111,Tryz.ntmps111
     go_wp2_with (first|(go_at_call 142;refine(F4 hA h hp hx HO.out HY.out).mono ?_;rintro e w1 ⟨rfl,h1',hO⟩;have Bp:=(h1'.a.cell o).trans CQ.out)|(go_at_call 143;refine(fD h1'.w).mono ?_;rintro e w2 ⟨rfl,rfl⟩))
     exact Zu
   . have e2:decide (y<=hi)=false:=decide_eq_false h2
     have wH:=ah (show Re.inn y lo hi=false by unfold Re.inn;rw[e1,e2];rfl);exact Z2l
 . have e1:decide (lo<=y)=false:=decide_eq_false h1
   have wH:=ah (show Re.inn y lo hi=false by unfold Re.inn;rw[e1];rfl);exact Z2l
theorem KA{F:FuncId}{caps:Array Value}{f:Nat->Int->Int}{mine:Nat->Prop}{I:List Int->World->Prop}(hA:jF F caps f mine I){b o bw:Nat}{cs:Array Value}{T:TypeId}{wr:Bool}{x y lo hi:Int}{xs:List Int}{w:World}
  (h:Here F caps I bw b T cs wr xs w) (hp:dI mine b bw) (hx:xs.length<55) (ho:cs[o]? = some (.int .i64 x)) (hy:y=f xs.length x) :
  Calls Tryz.prog 112 #[.pointer (some ⟨bw,0,none⟩),.pointer (some ⟨b,o,none⟩),.int .i64 lo,.int .i64 hi] w λe w'=>e=.returned (.tuple #[])/\Here F caps I bw b T (cs.setIfInBounds o (.int .i64 y)) (wr || !Re.inn y lo hi) (xs++[x]) w'/\Out (λc=>mine c\/c=b\/c=bw) w w':=by
 have HY:=ah hy;clear hy;have hlt:o<cs.size:=(Array.getElem?_eq_some_iff.1 ho).1;have hgo:(cs.setIfInBounds o (.int .i64 y))[o]? = some (.int .i64 y):=by simp[hlt]
 have CQ:=ah hgo;have HO:=ah ho;clear hgo ho hlt;by_cases h1:lo<=y
 . have e1:decide (lo<=y)=true:=decide_eq_true h1
   by_cases h2:y<=hi
   . have e2:decide (y<=hi)=true:=decide_eq_true h2
     have wH:=ah (show Re.inn y lo hi=true by unfold Re.inn;rw[e1,e2];rfl);go_enter Tryz.func112,Tryz.ntmps112
     go_wp2_with (first|(go_at_call 144;refine(F3 hA h hp hx HO.out HY.out).mono ?_;rintro e w1 ⟨rfl,h1',hO⟩;have Bp:=(h1'.a.cell o).trans CQ.out)|(go_at_call 143;refine(fD h1'.w).mono ?_;rintro e w2 ⟨rfl,rfl⟩))
     exact Zu
   . have e2:decide (y<=hi)=false:=decide_eq_false h2
     have wH:=ah (show Re.inn y lo hi=false by unfold Re.inn;rw[e1,e2];rfl);exact Z2k
 . have e1:decide (lo<=y)=false:=decide_eq_false h1
   have wH:=ah (show Re.inn y lo hi=false by unfold Re.inn;rw[e1];rfl);exact Z2k
theorem KF{F:FuncId}{caps:Array Value}{f:Nat->Int->Int}{mine:Nat->Prop}{I:List Int->World->Prop}(hA:jF F caps f mine I){b o bw:Nat}{cs:Array Value}{T:TypeId}{wr:Bool}{x y lo hi:Int}{xs:List Int}{w:World}
  (h:Here F caps I bw b T cs wr xs w) (hp:dI mine b bw) (hx:xs.length<55) (ho:cs[o]? = some (.int .i64 x)) (hy:y=f xs.length x) :
  Calls Tryz.prog 113 #[.pointer (some ⟨bw,0,none⟩),.pointer (some ⟨b,o,none⟩),.int .i64 lo,.int .i64 hi] w λe w'=>e=.returned (.tuple #[])/\Here F caps I bw b T (cs.setIfInBounds o (.int .i64 y)) (wr || !Re.inn y lo hi) (xs++[x]) w'/\Out (λc=>mine c\/c=b\/c=bw) w w':=by
 have HY:=ah hy;clear hy;have hlt:o<cs.size:=(Array.getElem?_eq_some_iff.1 ho).1;have hgo:(cs.setIfInBounds o (.int .i64 y))[o]? = some (.int .i64 y):=by simp[hlt]
 have CQ:=ah hgo;have HO:=ah ho;clear hgo ho hlt;by_cases h1:lo<=y
 . have e1:decide (lo<=y)=true:=decide_eq_true h1
   by_cases h2:y<=hi
   . have e2:decide (y<=hi)=true:=decide_eq_true h2
     have wH:=ah (show Re.inn y lo hi=true by unfold Re.inn;rw[e1,e2];rfl);go_enter Tryz.func113,Tryz.ntmps113
     go_wp2_with (first|(go_at_call 145;refine(FZ hA h hp hx HO.out HY.out).mono ?_;rintro e w1 ⟨rfl,h1',hO⟩;have Bp:=(h1'.a.cell o).trans CQ.out)|(go_at_call 143;refine(fD h1'.w).mono ?_;rintro e w2 ⟨rfl,rfl⟩))
     exact Zu
   . have e2:decide (y<=hi)=false:=decide_eq_false h2
     have wH:=ah (show Re.inn y lo hi=false by unfold Re.inn;rw[e1,e2];rfl);exact Z2j
 . have e1:decide (lo<=y)=false:=decide_eq_false h1
   have wH:=ah (show Re.inn y lo hi=false by unfold Re.inn;rw[e1];rfl);exact Z2j
theorem vD{F:FuncId}{caps:Array Value}{f:Nat->Int->Int}{mine:Nat->Prop}{I:List Int->World->Prop}(hA:jF F caps f mine I){b o bw:Nat}{cs:Array Value}{T:TypeId}{wr:Bool}{x y lo hi:Int}{xs:List Int}{w:World}
  (h:Here F caps I bw b T cs wr xs w) (hp:dI mine b bw) (hx:xs.length<55) (ho:cs[o]? = some (.int .i64 x)) (hy:y=f xs.length x) :
  Calls Tryz.prog 117 #[.pointer (some ⟨bw,0,none⟩),.pointer (some ⟨b,o,none⟩),.int .i64 lo,.int .i64 hi] w λe w'=>e=.returned (.tuple #[])/\Here F caps I bw b T (cs.setIfInBounds o (.int .i64 y)) (wr || !Re.inn y lo hi) (xs++[x]) w'/\Out (λc=>mine c\/c=b\/c=bw) w w':=by
 have HY:=ah hy;clear hy;have hlt:o<cs.size:=(Array.getElem?_eq_some_iff.1 ho).1;have hgo:(cs.setIfInBounds o (.int .i64 y))[o]? = some (.int .i64 y):=by simp[hlt]
 have CQ:=ah hgo;have HO:=ah ho;clear hgo ho hlt;by_cases h1:lo<=y
 . have e1:decide (lo<=y)=true:=decide_eq_true h1
   by_cases h2:y<=hi
   . have e2:decide (y<=hi)=true:=decide_eq_true h2
     have wH:=ah (show Re.inn y lo hi=true by unfold Re.inn;rw[e1,e2];rfl);go_enter Tryz.func117,Tryz.ntmps117
     go_wp2_with (first|(go_at_call 147;refine(zC hA h hp hx HO.out HY.out).mono ?_;rintro e w1 ⟨rfl,h1',hO⟩;have Bp:=(h1'.a.cell o).trans CQ.out)|(go_at_call 143;refine(fD h1'.w).mono ?_;rintro e w2 ⟨rfl,rfl⟩))
     exact Zu
   . have e2:decide (y<=hi)=false:=decide_eq_false h2
     have wH:=ah (show Re.inn y lo hi=false by unfold Re.inn;rw[e1,e2];rfl);exact Z2i
 . have e1:decide (lo<=y)=false:=decide_eq_false h1
   have wH:=ah (show Re.inn y lo hi=false by unfold Re.inn;rw[e1];rfl);exact Z2i
theorem KG{F:FuncId}{caps:Array Value}{f:Nat->Int->Int}{mine:Nat->Prop}{I:List Int->World->Prop}(hA:jF F caps f mine I){b o bw:Nat}{cs:Array Value}{T:TypeId}{wr:Bool}{x y lo hi:Int}{xs:List Int}{w:World}
  (h:Here F caps I bw b T cs wr xs w) (hp:dI mine b bw) (hx:xs.length<55) (ho:cs[o]? = some (.int .i64 x)) (hy:y=f xs.length x) :
  Calls Tryz.prog 118 #[.pointer (some ⟨bw,0,none⟩),.pointer (some ⟨b,o,none⟩),.int .i64 lo,.int .i64 hi] w λe w'=>e=.returned (.tuple #[])/\Here F caps I bw b T (cs.setIfInBounds o (.int .i64 y)) (wr || !Re.inn y lo hi) (xs++[x]) w'/\Out (λc=>mine c\/c=b\/c=bw) w w':=by
 have HY:=ah hy;clear hy;have hlt:o<cs.size:=(Array.getElem?_eq_some_iff.1 ho).1;have hgo:(cs.setIfInBounds o (.int .i64 y))[o]? = some (.int .i64 y):=by simp[hlt]
 have CQ:=ah hgo;have HO:=ah ho;clear hgo ho hlt;by_cases h1:lo<=y
 . have e1:decide (lo<=y)=true:=decide_eq_true h1
   by_cases h2:y<=hi
   . have e2:decide (y<=hi)=true:=decide_eq_true h2
     have wH:=ah (show Re.inn y lo hi=true by unfold Re.inn;rw[e1,e2];rfl);go_enter Tryz.func118,Tryz.ntmps118
     go_wp2_with (first|(go_at_call 149;refine(FY hA h hp hx HO.out HY.out).mono ?_;rintro e w1 ⟨rfl,h1',hO⟩;have Bp:=(h1'.a.cell o).trans CQ.out)|(go_at_call 143;refine(fD h1'.w).mono ?_;rintro e w2 ⟨rfl,rfl⟩))
     exact Zu
   . have e2:decide (y<=hi)=false:=decide_eq_false h2
     have wH:=ah (show Re.inn y lo hi=false by unfold Re.inn;rw[e1,e2];rfl);exact Z2h
 . have e1:decide (lo<=y)=false:=decide_eq_false h1
   have wH:=ah (show Re.inn y lo hi=false by unfold Re.inn;rw[e1];rfl);exact Z2h
theorem KI{F:FuncId}{caps:Array Value}{f:Nat->Int->Int}{mine:Nat->Prop}{I:List Int->World->Prop}(hA:jF F caps f mine I){b o bw:Nat}{cs:Array Value}{T:TypeId}{wr:Bool}{x y lo hi:Int}{xs:List Int}{w:World}
  (h:Here F caps I bw b T cs wr xs w) (hp:dI mine b bw) (hx:xs.length<55) (ho:cs[o]? = some (.int .i64 x)) (hy:y=f xs.length x) :
  Calls Tryz.prog 119 #[.pointer (some ⟨bw,0,none⟩),.pointer (some ⟨b,o,none⟩),.int .i64 lo,.int .i64 hi] w λe w'=>e=.returned (.tuple #[])/\Here F caps I bw b T (cs.setIfInBounds o (.int .i64 y)) (wr || !Re.inn y lo hi) (xs++[x]) w'/\Out (λc=>mine c\/c=b\/c=bw) w w':=by
 have HY:=ah hy;clear hy;have hlt:o<cs.size:=(Array.getElem?_eq_some_iff.1 ho).1;have hgo:(cs.setIfInBounds o (.int .i64 y))[o]? = some (.int .i64 y):=by simp[hlt]
 have CQ:=ah hgo;have HO:=ah ho;clear hgo ho hlt;by_cases h1:lo<=y
 . have e1:decide (lo<=y)=true:=decide_eq_true h1
   by_cases h2:y<=hi
   . have e2:decide (y<=hi)=true:=decide_eq_true h2
     have wH:=ah (show Re.inn y lo hi=true by unfold Re.inn;rw[e1,e2];rfl);go_enter Tryz.func119,Tryz.ntmps119
     go_wp2_with (first|(go_at_call 150;refine(FX hA h hp hx HO.out HY.out).mono ?_;rintro e w1 ⟨rfl,h1',hO⟩;have Bp:=(h1'.a.cell o).trans CQ.out)|(go_at_call 143;refine(fD h1'.w).mono ?_;rintro e w2 ⟨rfl,rfl⟩))
     exact Zu
   . have e2:decide (y<=hi)=false:=decide_eq_false h2
     have wH:=ah (show Re.inn y lo hi=false by unfold Re.inn;rw[e1,e2];rfl);exact Z2g
 . have e1:decide (lo<=y)=false:=decide_eq_false h1
   have wH:=ah (show Re.inn y lo hi=false by unfold Re.inn;rw[e1];rfl);exact Z2g
theorem KJ{F:FuncId}{caps:Array Value}{f:Nat->Int->Int}{mine:Nat->Prop}{I:List Int->World->Prop}(hA:jF F caps f mine I){b o bw:Nat}{cs:Array Value}{T:TypeId}{wr:Bool}{x y lo hi:Int}{xs:List Int}{w:World}
  (h:Here F caps I bw b T cs wr xs w) (hp:dI mine b bw) (hx:xs.length<55) (ho:cs[o]? = some (.int .i64 x)) (hy:y=f xs.length x) :
  Calls Tryz.prog 121 #[.pointer (some ⟨bw,0,none⟩),.pointer (some ⟨b,o,none⟩),.int .i64 lo,.int .i64 hi] w λe w'=>e=.returned (.tuple #[])/\Here F caps I bw b T (cs.setIfInBounds o (.int .i64 y)) (wr || !Re.inn y lo hi) (xs++[x]) w'/\Out (λc=>mine c\/c=b\/c=bw) w w':=by
 have HY:=ah hy;clear hy;have hlt:o<cs.size:=(Array.getElem?_eq_some_iff.1 ho).1;have hgo:(cs.setIfInBounds o (.int .i64 y))[o]? = some (.int .i64 y):=by simp[hlt]
 have CQ:=ah hgo;have HO:=ah ho;clear hgo ho hlt;by_cases h1:lo<=y
 . have e1:decide (lo<=y)=true:=decide_eq_true h1
   by_cases h2:y<=hi
   . have e2:decide (y<=hi)=true:=decide_eq_true h2
     have wH:=ah (show Re.inn y lo hi=true by unfold Re.inn;rw[e1,e2];rfl);go_enter Tryz.func121,Tryz.ntmps121
     go_wp2_with (first|(go_at_call 151;refine(FW hA h hp hx HO.out HY.out).mono ?_;rintro e w1 ⟨rfl,h1',hO⟩;have Bp:=(h1'.a.cell o).trans CQ.out)|(go_at_call 143;refine(fD h1'.w).mono ?_;rintro e w2 ⟨rfl,rfl⟩))
     exact Zu
   . have e2:decide (y<=hi)=false:=decide_eq_false h2
     have wH:=ah (show Re.inn y lo hi=false by unfold Re.inn;rw[e1,e2];rfl);exact Z2f
 . have e1:decide (lo<=y)=false:=decide_eq_false h1
   have wH:=ah (show Re.inn y lo hi=false by unfold Re.inn;rw[e1];rfl);exact Z2f
theorem KN{F:FuncId}{caps:Array Value}{f:Nat->Int->Int}{mine:Nat->Prop}{I:List Int->World->Prop}(hA:jF F caps f mine I){b o bw:Nat}{cs:Array Value}{T:TypeId}{wr:Bool}{x y lo hi:Int}{xs:List Int}{w:World}
  (h:Here F caps I bw b T cs wr xs w) (hp:dI mine b bw) (hx:xs.length<55) (ho:cs[o]? = some (.int .i64 x)) (hy:y=f xs.length x) :
  Calls Tryz.prog 122 #[.pointer (some ⟨bw,0,none⟩),.pointer (some ⟨b,o,none⟩),.int .i64 lo,.int .i64 hi] w λe w'=>e=.returned (.tuple #[])/\Here F caps I bw b T (cs.setIfInBounds o (.int .i64 y)) (wr || !Re.inn y lo hi) (xs++[x]) w'/\Out (λc=>mine c\/c=b\/c=bw) w w':=by
 have HY:=ah hy;clear hy;have hlt:o<cs.size:=(Array.getElem?_eq_some_iff.1 ho).1;have hgo:(cs.setIfInBounds o (.int .i64 y))[o]? = some (.int .i64 y):=by simp[hlt]
 have CQ:=ah hgo;have HO:=ah ho;clear hgo ho hlt;by_cases h1:lo<=y
 . have e1:decide (lo<=y)=true:=decide_eq_true h1
   by_cases h2:y<=hi
   . have e2:decide (y<=hi)=true:=decide_eq_true h2
     have wH:=ah (show Re.inn y lo hi=true by unfold Re.inn;rw[e1,e2];rfl);go_enter Tryz.func122,Tryz.ntmps122
     go_wp2_with (first|(go_at_call 152;refine(FV hA h hp hx HO.out HY.out).mono ?_;rintro e w1 ⟨rfl,h1',hO⟩;have Bp:=(h1'.a.cell o).trans CQ.out)|(go_at_call 143;refine(fD h1'.w).mono ?_;rintro e w2 ⟨rfl,rfl⟩))
     exact Zu
   . have e2:decide (y<=hi)=false:=decide_eq_false h2
     have wH:=ah (show Re.inn y lo hi=false by unfold Re.inn;rw[e1,e2];rfl);exact Z2e
 . have e1:decide (lo<=y)=false:=decide_eq_false h1
   have wH:=ah (show Re.inn y lo hi=false by unfold Re.inn;rw[e1];rfl);exact Z2e
theorem KP{F:FuncId}{caps:Array Value}{f:Nat->Int->Int}{mine:Nat->Prop}{I:List Int->World->Prop}(hA:jF F caps f mine I){b o bw:Nat}{cs:Array Value}{T:TypeId}{wr:Bool}{x x2 y y2:Int}{xs:List Int}{w:World}
  (h:Here F caps I bw b T cs wr xs w) (hp:dI mine b bw) (hx:xs.length+1<55) (ho:cs[o]? = some (.int .i64 x)) (ho2:cs[o+1]? = some (.int .i64 x2)) (hy:y=f xs.length x) (hy2:y2=f (xs.length+1) x2) :
  Calls Tryz.prog 114 #[.pointer (some ⟨bw,0,none⟩),.pointer (some ⟨b,o,none⟩)] w λe w'=>e=.returned (.tuple #[])/\Here F caps I bw b T ((cs.setIfInBounds o (.int .i64 y)).setIfInBounds (o+1) (.int .i64 y2)) (wr || !Fx.valid y y2) (xs++[x]++[x2]) w'/\Out (λc=>mine c\/c=b\/c=bw) w w':=by
 have HY:=ah hy;have HY2:=ah hy2;clear hy hy2;have hlt:o<cs.size:=(Array.getElem?_eq_some_iff.1 ho).1;have hlt2:o+1<cs.size:=(Array.getElem?_eq_some_iff.1 ho2).1;have HO:=ah ho;have HO2:=ah (show(cs.setIfInBounds o (.int .i64 y))[o+1]? = some (.int .i64 x2)by rw[Array.getElem?_setIfInBounds,if_neg aj];exact ho2);have G1:=ah (show((cs.setIfInBounds o (.int .i64 y)).setIfInBounds (o+1) (.int .i64 y2))[o]? = some (.int .i64 y)by rw[Array.getElem?_setIfInBounds,if_neg aj,Array.getElem?_setIfInBounds,if_pos rfl,if_pos hlt]);have G2:=ah (show((cs.setIfInBounds o (.int .i64 y)).setIfInBounds (o+1) (.int .i64 y2))[o+1]? = some (.int .i64 y2)by rw[Array.getElem?_setIfInBounds,if_pos rfl,Array.size_setIfInBounds,if_pos hlt2]);have HX:=ah hx;have hx0:xs.length<55:=by omega
 clear ho ho2 hx;go_enter Tryz.func114,Tryz.ntmps114
 go_wp2_with (first|(go_at_call 146;refine(Rt hA h hp hx0 HO.out HY.out).mono ?_;rintro e w1 ⟨rfl,h1,iA⟩)|(go_at_call 147;refine(zC hA h1 hp (by simp;exact HX.out) HO2.out (by simpa using HY2.out)).mono ?_;rintro e w2 ⟨rfl,h2,hO2⟩;have d1:=(h2.a.cell o).trans G1.out;have d2:=(h2.a.cell (o+1)).trans G2.out)|(go_at_call 148;refine(Q7 _ _ _).mono ?_;rintro e w3 ⟨rfl,hb3⟩;have h3:=Here.keep hA h2 hb3)|(go_at_call 143;refine(fD h3.w).mono ?_;rintro e w2 ⟨rfl,rfl⟩))
 refine bodyPost_end (results_none rfl _ _ _) rfl ⟨rfl,?_,Out.set (((iA.trans hO2).trans (Out.of_below hb3)).mono λ_ _ q=>q.elim .inl λq => .inr (.inl q)) (.inr (.inr rfl)) _ _⟩;exact Here.held hA h3 hp _
def On(F:FuncId)(caps:Array Value)(f:Nat->Int->Int)(I:List Int->World->Prop)(bw bs:Nat)(t:Re.St)(k:Nat)(wr:Bool)(W:World):Prop:=Here F caps I bw bs 46 (cells (mix f t k)) wr (ins t k) W
theorem ZP{F:FuncId}{caps:Array Value}{f:Nat->Int->Int}{mine:Nat->Prop}{I:List Int->World->Prop}(hA:jF F caps f mine I){bs bw k:Nat}{t:Re.St}{wr:Bool}{lo hi:Int}{w:World}(h:On F caps f I bw bs t k wr w)(hp:dI mine bs bw)(hk:k<55)(hb:Re.sO k=false) :
  Calls Tryz.prog 111 #[.pointer (some ⟨bw,0,none⟩),.pointer (some ⟨bs,k,none⟩),.int .i64 lo,.int .i64 hi] w λe w'=>e=.returned (.tuple #[])/\On F caps f I bw bs t (k+1) (wr || !Re.inn (f k (Re.num t k)) lo hi) w'/\Out (λc=>mine c\/c=bs\/c=bw) w w':=by
 refine(Kz hA h hp YJ (x:=t.c k) Z4m rfl).mono ?_;exact Z1e
theorem ZQ{F:FuncId}{caps:Array Value}{f:Nat->Int->Int}{mine:Nat->Prop}{I:List Int->World->Prop}(hA:jF F caps f mine I){bs bw k:Nat}{t:Re.St}{wr:Bool}{lo hi:Int}{w:World}(h:On F caps f I bw bs t k wr w)(hp:dI mine bs bw)(hk:k<55)(hb:Re.sO k=false) :
  Calls Tryz.prog 112 #[.pointer (some ⟨bw,0,none⟩),.pointer (some ⟨bs,k,none⟩),.int .i64 lo,.int .i64 hi] w λe w'=>e=.returned (.tuple #[])/\On F caps f I bw bs t (k+1) (wr || !Re.inn (f k (Re.num t k)) lo hi) w'/\Out (λc=>mine c\/c=bs\/c=bw) w w':=by
 refine(KA hA h hp YJ (x:=t.c k) Z4m rfl).mono ?_;exact Z1e
theorem ZR{F:FuncId}{caps:Array Value}{f:Nat->Int->Int}{mine:Nat->Prop}{I:List Int->World->Prop}(hA:jF F caps f mine I){bs bw k:Nat}{t:Re.St}{wr:Bool}{lo hi:Int}{w:World}(h:On F caps f I bw bs t k wr w)(hp:dI mine bs bw)(hk:k<55)(hb:Re.sO k=false) :
  Calls Tryz.prog 113 #[.pointer (some ⟨bw,0,none⟩),.pointer (some ⟨bs,k,none⟩),.int .i64 lo,.int .i64 hi] w λe w'=>e=.returned (.tuple #[])/\On F caps f I bw bs t (k+1) (wr || !Re.inn (f k (Re.num t k)) lo hi) w'/\Out (λc=>mine c\/c=bs\/c=bw) w w':=by
 refine(KF hA h hp YJ (x:=t.c k) Z4m rfl).mono ?_;exact Z1e
theorem yg{F:FuncId}{caps:Array Value}{f:Nat->Int->Int}{mine:Nat->Prop}{I:List Int->World->Prop}(hA:jF F caps f mine I){bs bw k:Nat}{t:Re.St}{wr:Bool}{lo hi:Int}{w:World}(h:On F caps f I bw bs t k wr w)(hp:dI mine bs bw)(hk:k<55)(hb:Re.sO k=false) :
  Calls Tryz.prog 117 #[.pointer (some ⟨bw,0,none⟩),.pointer (some ⟨bs,k,none⟩),.int .i64 lo,.int .i64 hi] w λe w'=>e=.returned (.tuple #[])/\On F caps f I bw bs t (k+1) (wr || !Re.inn (f k (Re.num t k)) lo hi) w'/\Out (λc=>mine c\/c=bs\/c=bw) w w':=by
 refine(vD hA h hp YJ (x:=t.c k) Z4m rfl).mono ?_;exact Z1e
theorem ZT{F:FuncId}{caps:Array Value}{f:Nat->Int->Int}{mine:Nat->Prop}{I:List Int->World->Prop}(hA:jF F caps f mine I){bs bw k:Nat}{t:Re.St}{wr:Bool}{lo hi:Int}{w:World}(h:On F caps f I bw bs t k wr w)(hp:dI mine bs bw)(hk:k<55)(hb:Re.sO k=false) :
  Calls Tryz.prog 118 #[.pointer (some ⟨bw,0,none⟩),.pointer (some ⟨bs,k,none⟩),.int .i64 lo,.int .i64 hi] w λe w'=>e=.returned (.tuple #[])/\On F caps f I bw bs t (k+1) (wr || !Re.inn (f k (Re.num t k)) lo hi) w'/\Out (λc=>mine c\/c=bs\/c=bw) w w':=by
 refine(KG hA h hp YJ (x:=t.c k) Z4m rfl).mono ?_;exact Z1e
theorem ZU{F:FuncId}{caps:Array Value}{f:Nat->Int->Int}{mine:Nat->Prop}{I:List Int->World->Prop}(hA:jF F caps f mine I){bs bw k:Nat}{t:Re.St}{wr:Bool}{lo hi:Int}{w:World}(h:On F caps f I bw bs t k wr w)(hp:dI mine bs bw)(hk:k<55)(hb:Re.sO k=false) :
  Calls Tryz.prog 119 #[.pointer (some ⟨bw,0,none⟩),.pointer (some ⟨bs,k,none⟩),.int .i64 lo,.int .i64 hi] w λe w'=>e=.returned (.tuple #[])/\On F caps f I bw bs t (k+1) (wr || !Re.inn (f k (Re.num t k)) lo hi) w'/\Out (λc=>mine c\/c=bs\/c=bw) w w':=by
 refine(KI hA h hp YJ (x:=t.c k) Z4m rfl).mono ?_;exact Z1e
theorem ZV{F:FuncId}{caps:Array Value}{f:Nat->Int->Int}{mine:Nat->Prop}{I:List Int->World->Prop}(hA:jF F caps f mine I){bs bw k:Nat}{t:Re.St}{wr:Bool}{lo hi:Int}{w:World}(h:On F caps f I bw bs t k wr w)(hp:dI mine bs bw)(hk:k<55)(hb:Re.sO k=false) :
  Calls Tryz.prog 121 #[.pointer (some ⟨bw,0,none⟩),.pointer (some ⟨bs,k,none⟩),.int .i64 lo,.int .i64 hi] w λe w'=>e=.returned (.tuple #[])/\On F caps f I bw bs t (k+1) (wr || !Re.inn (f k (Re.num t k)) lo hi) w'/\Out (λc=>mine c\/c=bs\/c=bw) w w':=by
 refine(KJ hA h hp YJ (x:=t.c k) Z4m rfl).mono ?_;exact Z1e
theorem ZW{F:FuncId}{caps:Array Value}{f:Nat->Int->Int}{mine:Nat->Prop}{I:List Int->World->Prop}(hA:jF F caps f mine I){bs bw k:Nat}{t:Re.St}{wr:Bool}{lo hi:Int}{w:World}(h:On F caps f I bw bs t k wr w)(hp:dI mine bs bw)(hk:k<55)(hb:Re.sO k=false) :
  Calls Tryz.prog 122 #[.pointer (some ⟨bw,0,none⟩),.pointer (some ⟨bs,k,none⟩),.int .i64 lo,.int .i64 hi] w λe w'=>e=.returned (.tuple #[])/\On F caps f I bw bs t (k+1) (wr || !Re.inn (f k (Re.num t k)) lo hi) w'/\Out (λc=>mine c\/c=bs\/c=bw) w w':=by
 refine(KN hA h hp YJ (x:=t.c k) Z4m rfl).mono ?_;exact Z1e
theorem rM{F:FuncId}{caps:Array Value}{f:Nat->Int->Int}{mine:Nat->Prop}{I:List Int->World->Prop}(hA:jF F caps f mine I){bs bw k:Nat}{t:Re.St}{wr:Bool}{w:World}(h:On F caps f I bw bs t k wr w)(hp:dI mine bs bw)(hk:k+1<55)(hb:Re.sO k=false)(hb2:Re.sO (k+1)=false) :
  Calls Tryz.prog 114 #[.pointer (some ⟨bw,0,none⟩),.pointer (some ⟨bs,k,none⟩)] w λe w'=>e=.returned (.tuple #[])/\On F caps f I bw bs t (k+1+1) (wr || !Fx.valid (f k (Re.num t k)) (f (k+1) (Re.num t (k+1)))) w'/\Out (λc=>mine c\/c=bs\/c=bw) w w':=by
 refine(KP hA h hp YJ (x:=t.c k) (x2:=t.c (k+1)) (by rw[bG _ aj hb,M8 f t (aG k)]) (by rw[bG _ hk hb2,M8 f t aj]) rfl rfl).mono ?_;rintro e w' ⟨rfl,h1,hO⟩;rw[sZ,uS f t hb,uS f t hb2,<-Re.JI hb,<-Re.JI hb2,<-yh,<-yh]at h1;exact⟨rfl,h1,hO⟩
end Go.Proofs.YtmidaiklolmkcaaGreat.Fix
