/- Steps of the program (4); no conditions. -/
import Derived.Test.YtdnggaapcgomhaaGreatM03
set_option linter.all false
set_option maxRecDepth 100000
set_option maxHeartbeats 16000000
namespace Go.Proofs.YtdnggaapcgomhaaGreat.Fix
open Go.ChangeShapes Go.WideShapes Go.ChangeAt Go.RowKit
open Go.Proofs.Tryz renaming prog → ja0
section
open List renaming mem_cons_of_mem → ja8,mem_cons_self → jb3
def abp(K:Nat->(Nat->Prop)->World->Prop):Prop:=∀(i:Nat) (S M:Nat->Prop) (W W':World),K i S W->Out M W W'->(∀b,S b->¬ M b)->K i S W'
def RF(K:(Nat->Prop)->World->Prop):Prop:=∀(S M:Nat->Prop) (W W':World),K S W->Out M W W'->(∀b,S b->¬ M b)->K S W'
def j6(S S':Nat->Prop)(W W':World):Prop:=Out S W W'/\∀b,S' b->S b\/(W.heap.size<=b/\b<W'.heap.size)
theorem j6.refl(S:Nat->Prop)(W:World):j6 S S W W:=⟨Out.refl _ _,λ_ h => .inl h⟩
theorem j6.trans{S S' S'':Nat->Prop}{W W' W'':World}(h:j6 S S' W W')(k:j6 S' S'' W' W''):j6 S S'' W W'':=by
 have h1:=h.1.size;have h2:=k.1.size;refine⟨⟨h.1.1.trans k.1.1,λb hb hm=>(k.1.2 b (aT hb h1) λq => ?_).trans (h.1.2 b hb hm)⟩,λb hb => ?_⟩
 . rcases h.2 b q with q|q
   . exact hm q
   . omega
 . rcases k.2 b hb with q|q
   . rcases h.2 b q with q|q
     . exact .inl q
     . exact .inr ⟨q.1,by omega⟩
   . exact .inr ⟨by omega,q.2⟩
theorem j6.of_below{S:Nat->Prop}{W W':World}(h:Below W W W'):j6 S S W W':=⟨Out.of_below h,λ_ h => .inl h⟩
def ac4(J:Nat->(Nat->Prop)->World->Prop)(Jx:(Nat->Prop)->World->Prop)(i:Nat)(S:Nat->Prop)(W:World)(e:Ending)(W':World):Prop :=
 ∃S',j6 S S' W W'/\((e=.returned (.bool true)/\J (i+1) S' W')\/(e=.returned (.bool false)/\Jx S' W'))
def ac5(J:Nat->(Nat->Prop)->World->Prop)(Jx:(Nat->Prop)->World->Prop)(N:Nat)(S:Nat->Prop)(W:World)(e:Ending)(W':World):Prop :=
 (∃v,e=.returned v)/\∃S',j6 S S' W W'/\(J N S' W'\/Jx S' W')
def Xw(K:Nat->(Nat->Prop)->World->Prop)(Kx:(Nat->Prop)->World->Prop)(i:Nat)(S:Nat->Prop)(W:World):Exit->Act->World->Prop
 | .normal,_,W'=>∃S',j6 S S' W W'/\K (i+1) S' W'
 | .ret,_,W'=>∃S',j6 S S' W W'/\Kx S' W'
 | _,_,_=>False
theorem Out.putObj(W:World)(r:Nat)(o:Obj):Out (λb=>b=r) W (W.putObj r o):=Out.grown (grownBy_putObj' W r o) λb e=>by injection e with e;exact e.symm
theorem zS{P:Program}{n:Nat}{g:Operand}{ps:Array Tmp}{assign body:Code}{Q:Exit->Act->World->Prop}{a:Act}{w:World}
  {gf:FuncId} {first lb:Array Value} (hg:a.eval g=.func (.func gf) first lb) (eg:∀args w,(callFunc gf args).run P w=.ok (.enter gf args) w)
  (N:Nat) (xs:Nat->Array Value) (hps:∀i,(xs i).size=ps.size) (K:Nat->(Nat->Prop)->World->Prop) (Kx:(Nat->Prop)->World->Prop)
  (hK:abp K) (hKx:RF Kx) (S0:Nat->Prop) (hS0:∀b,S0 b->b<w.heap.size) (h0:K 0 S0 w)
  (hit:∀(lp:Nat) (J:Nat->(Nat->Prop)->World->Prop) (Jx:(Nat->Prop)->World->Prop) (S1:Nat->Prop) (W1:World),Below w w W1->(∀b,S1 b->(S0 b\/w.heap.size<=b)/\b<W1.heap.size)->abp J->RF Jx ->
   (∀m i S W,i<N->J i S W->YieldAt Fence.wide m P lp (xs i) W (ac4 J Jx i S W))->J 0 S1 W1 ->
   CallsIn Fence.wide (n-1) P gf (first ++ #[.func (.yield lp) #[] #[]]++lb) W1 (ac5 J Jx N S1 W1))
  (upd:Nat->Array Value->Array Value)
  (hassign:∀(l m i:Nat) (W:World) (G:Act->World->Prop),i<N->G { tmps:=upd i a.tmps,defers:=[] } W ->
   assign.wpIn (Fence.wide.inRound l) m P (Exit.then G (λ_ _ _=>False)) { tmps:=(ps.zip (xs i)).foldl (λt (p,v)=>t.setIfInBounds p v) a.tmps,defers:=[] } W)
  (hbody:∀(l m i:Nat) (S:Nat->Prop) (W:World),i<N->K i S W->body.wpIn (Fence.wide.inRound l) m P (Xw K Kx i S W) { tmps:=upd i a.tmps,defers:=[] } W)
  (hdone:∀(D:Nat) (S:Nat->Prop) (W:World),w.heap.size<=D->j6 S0 S w W->¬ S D->K N S W->W.heap[D]? = some (.deferred (some []))->Q .normal { a with defers:={ target:=.collected D,args:=#[] }::a.defers } W)
  (hstop:∀(D:Nat) (S:Nat->Prop) (W:World),w.heap.size<=D->j6 S0 S w W->¬ S D->Kx S W->W.heap[D]? = some (.deferred (some []))->Code.ret.wpIn Fence.wide n P Q { a with defers:={ target:=.collected D,args:=#[] }::a.defers } W) :
  (Code.rangeFunc g ps assign body).wpIn Fence.wide n P Q a w:=by
 refine wpIn_rangeFunc λfn _ => ?_
 let L:LoopState->Option Code->Loop:=λs p=>{ state:=s,pending:=p,fn:=fn,tmps:=a.tmps,params:=ps,assign:=assign,body:=body,defers:=w.heap.size }
 have hH:Held ((w.alloc (.deferred (some []))).alloc (.loop (L .ready none))) w.heap.size (L .ready none):=by
  exact Z30
 have hsz:((w.alloc (.deferred (some []))).alloc (.loop (L .ready none))).heap.size=w.heap.size+2:=by simp
 have hbl:Below w w ((w.alloc (.deferred (some []))).alloc (.loop (L .ready none))):=aB (aB aD _) _;generalize hW:(w.alloc (.deferred (some []))).alloc (.loop (L .ready none))=W1 at hH hsz hbl
 let B2:(Nat->Prop)->(Nat->Prop)->Prop:=λS S1=>(∀b,S b↔S1 b\/b=w.heap.size\/b=w.heap.size+1)/\(∀b,S1 b->b≠w.heap.size/\b≠w.heap.size+1)
 let J:Nat->(Nat->Prop)->World->Prop:=λi S W=>∃S1,B2 S S1/\K i S1 W/\Held W w.heap.size (L .ready none)
 let Jx:(Nat->Prop)->World->Prop:=λS W=>∃S1,B2 S S1/\Kx S1 W/\Held W w.heap.size (L .done (some .ret))
 have hHeld:∀(S S1 M:Nat->Prop) (W W':World) (r:Loop),B2 S S1->Held W w.heap.size r->Out M W W'->(∀b,S b->¬ M b)->Held W' w.heap.size r:=λS S1 M W W' r hB hh ho hm =>
  ⟨(show At W _ _ from hh.1).out (hm _ ((hB.1 _).2 (.inr (.inr rfl)))) ho,(show At W _ _ from hh.2).out (hm _ ((hB.1 _).2 (.inr (.inl rfl)))) ho⟩
 have hJ:abp J:=λi S M W W' ⟨S1,hB,hk,hh⟩ ho hm=>⟨S1,hB,hK i S1 M W W' hk ho (λb hb=>hm b ((hB.1 b).2 (.inl hb))),hHeld S S1 M W W' _ hB hh ho hm⟩;have hJx:RF Jx:=λS M W W' ⟨S1,hB,hk,hh⟩ ho hm=>⟨S1,hB,hKx S1 M W W' hk ho (λb hb=>hm b ((hB.1 b).2 (.inl hb))),hHeld S S1 M W W' _ hB hh ho hm⟩
 have ac6:∀(S S1:Nat->Prop) (W W':World),B2 S S1->j6 (λb=>S0 b\/b=w.heap.size\/b=w.heap.size+1) S W1 W'->Out (λb=>b=w.heap.size+1) W' W->j6 S0 S1 w W:=λS S1 W W' hB hw ho=>by
  have e1:=hbl.size;have e2:=hw.1.size;have e3:=ho.size;refine⟨⟨(Below.mono hbl oI).trans (hw.1.1.trans ho.1),λb hb hm => ?_⟩,λb hb => ?_⟩
  . rw[ho.2 b ak iJ,hw.1.2 b ak (λq=>q.elim hm ak),hbl.block b hb]
  . have hb2:=hB.2 b hb
    rcases hw.2 b ((hB.1 b).2 (.inl hb))with(q|q|q)|q
    . exact .inl q
    . exact absurd q hb2.1
    . exact absurd q hb2.2
    . exact .inr ⟨by omega,by omega⟩
 have hB0:B2 (λb=>S0 b\/b=w.heap.size\/b=w.heap.size+1) S0:=⟨λb=>Iff.rfl,λb hb=>by have:=hS0 b hb;omega⟩
 refine⟨w.heap.size+1,[{ target:=.collected w.heap.size,args:=#[] }],W1,{ target:=.fn (.func gf) lb,args:=first ++ #[.func (.yield (w.heap.size+1)) #[] #[]] },W1,gf,
  first ++ #[.func (.yield (w.heap.size+1)) #[] #[]]++lb,W1,?_,?_,λ_ _=>trivial,?_,λhd=>Z4l,?_⟩
 . rw[<-hW];exact run_enterLoop_outer fn _ _ _ _
 . simp only[resolve,hg]
   simp[go_sem]
 . simp[invoke,go_sem,eg]
 refine(hit (w.heap.size+1) J Jx (λb=>S0 b\/b=w.heap.size\/b=w.heap.size+1) W1 hbl (λb hb => ?s1) hJ hJx ?round ⟨S0,hB0,hK 0 S0 (λ_=>False) w W1 h0 (Out.of_below hbl) (λ_ _ q=>q),hH⟩).mono ?behind
 case s1 =>
  rcases hb with hb|hb|hb
  . have:=hS0 b hb;exact⟨.inl hb,by omega⟩
  . exact⟨.inr ak,by omega⟩
  . exact⟨.inr ak,by omega⟩
 case round =>
  rintro m i S W hi ⟨S1,hB,hk,hh⟩;refine⟨fn,_,assign,body,run_yield hh.1 (hps i),roundIn_of_wpIn trivial (hassign _ _ i W _ hi ⟨_,run_beginRound hh.1 rfl,?_⟩)⟩;have hb:=hh.turn (L .busy none);have ho:=Out.putObj W (w.heap.size+1) (.loop (L .busy none));have hk1:=hK i S1 _ _ _ hk ho (λb hb q=>(hB.2 b hb).2 q);have hlt1:w.heap.size+1<W.heap.size:=(Array.getElem?_eq_some_iff.1 hh.1).1;refine wpIn_mono (hbody _ _ i S1 _ hi hk1) ?_;intro e _ W3 hp;have akx:(W.putObj (w.heap.size+1) (.loop (L .busy none))).heap.size=W.heap.size:=by simp
  have fin:∀(S':Nat->Prop) (s:LoopState) (p:Option Code),j6 S1 S' (W.putObj (w.heap.size+1) (.loop (L .busy none))) W3 ->
    Held W3 w.heap.size (L .busy none)/\B2 (λb=>S' b\/b=w.heap.size\/b=w.heap.size+1) S'/\j6 S (λb=>S' b\/b=w.heap.size\/b=w.heap.size+1) W (W3.putObj (w.heap.size+1) (.loop (L s p))):=λS' s p hw=>by
   have hz:=hw.1.size;refine⟨⟨(show At _ _ _ from hb.1).out (λq=>(hB.2 _ q).2 rfl) hw.1,(show At _ _ _ from hb.2).out (λq=>(hB.2 _ q).1 rfl) hw.1⟩,⟨λb=>Iff.rfl,λb hb => ?_⟩,?_,λb hb => ?_⟩
   . rcases hw.2 b hb with q|q
     . exact hB.2 b q
     . omega
   . have o1:Out S W (W.putObj (w.heap.size+1) (.loop (L .busy none))):=ho.mono λb _ e=>by subst e;exact(hB.1 _).2 (.inr (.inr rfl))
     have o2:Out S (W.putObj (w.heap.size+1) (.loop (L .busy none))) W3:=hw.1.mono λb _ e=>(hB.1 b).2 (.inl e);have o3:Out S W3 (W3.putObj (w.heap.size+1) (.loop (L s p))):=(Out.putObj W3 (w.heap.size+1) (.loop (L s p))).mono λb _ e=>by subst e;exact(hB.1 _).2 (.inr (.inr rfl))
     exact(o1.trans o2).trans o3
   . rcases hb with hb|hb
     . rcases hw.2 b hb with q|q
       . exact .inl ((hB.1 b).2 (.inl q))
       . exact .inr ⟨by omega,by simp;omega⟩
     . exact .inl ((hB.1 b).2 (.inr hb))
  cases e with
  | normal =>
    obtain⟨S',hw,hk3⟩:=hp;obtain⟨h3,hb3,hw3⟩:=fin S' .ready none hw;exact⟨_,_,run_endRound none h3.1,_,hw3,.inl ⟨rfl,S',hb3,hK _ _ _ _ _ hk3 (Out.putObj W3 _ _) (λb hb q=>(hb3.2 b hb).2 q),h3.turn _⟩⟩
  | ret =>
    obtain⟨S',hw,hk3⟩:=hp;obtain⟨h3,hb3,hw3⟩:=fin S' .done (some .ret) hw;exact⟨_,_,run_endRound (some .ret) h3.1,_,hw3,.inr ⟨rfl,S',hb3,hKx _ _ _ _ hk3 (Out.putObj W3 _ _) (λb hb q=>(hb3.2 b hb).2 q),h3.turn _⟩⟩
  | exit _=>exact hp.elim
  | goto _=>exact hp.elim
  | panic _=>exact hp.elim
  | outgrown=>exact hp.elim
 case behind =>
  rintro e W2 ⟨⟨v,rfl⟩,S,hw,⟨S1,hB,hk,hh⟩|⟨S1,hB,hk,hh⟩⟩
  . have ho:=Out.putObj W2 (w.heap.size+1) (.loop (L .exhausted none))
    exact⟨none,_,run_endLoop hh.1 (by simp[L]),hdone _ S1 _ aC (ac6 S S1 _ W2 hB hw (Out.putObj W2 _ _)) (λq=>(hB.2 _ q).1 rfl) (hK _ _ _ _ _ hk (Out.putObj W2 _ _) (λb hb q=>(hB.2 b hb).2 q)) (hh.turn _).2⟩
  . exact⟨some .ret,_,run_endLoop hh.1 (by simp[L]),hstop _ S1 _ aC (ac6 S S1 _ W2 hB hw (Out.putObj W2 _ _)) (λq=>(hB.2 _ q).1 rfl) (hKx _ _ _ _ hk (Out.putObj W2 _ _) (λb hb q=>(hB.2 b hb).2 q)) (hh.turn _).2⟩
def marks(Ds:List Nat):List Deferred:=Ds.map λD=>{ target:=.collected D,args:=#[] }
theorem sS{F:Fence}{n:Nat}{P:Program}{fn:Func}{tmps:Array Value}{R:Ending->World->Prop}:∀(Ds:List Nat) (W:World),Ds.Nodup->(∀D∈Ds,W.heap[D]? = some (.deferred (some [])))->(∀W',Out (λb=>b∈Ds) W W'->LeavesIn F n P fn tmps R [] .returning W')->LeavesInM F n P fn tmps R (marks Ds) .returning W
 | [],W,_,_,h=>h W (Out.refl _ _)
 | D::Ds,W,hn,hd,h=>by
   refine⟨by simp,.inl ⟨D,_,rfl,run_takeDeferred (hd D jb3),sS Ds _ (List.nodup_cons.1 hn).2 (λE hE => ?_) λW' ho=>h W' ?_⟩⟩
   . have hne:E≠D:=λe=>(List.nodup_cons.1 hn).1 (e▸hE)
     exact(show At W E _ from hd E (ja8 _ hE)).out (M:=λb=>b=D) hne (Out.putObj W D _)
   . exact((Out.putObj W D _).mono λb _ (e:b=D)=>by subst e;exact jb3).trans (ho.mono λb _ e=>ja8 _ e)
end
section
open Go.Shelf
open List renaming setIfInBounds_toArray → ja1,set_cons_zero → ja2,set_cons_succ → ja3,getElem?_eq_getElem → ja6,length_append → ja7,length_cons → ja9,append_toArray → jc2,getElem_mem → jc3,size_toArray → jc4,push_toArray → jc',cons_append → jd1
variable {l:List Int}
attribute [local go_sem] Oper.semAt_some
theorem wF(t:Nat)(x:Int)(w:World):Calls ja0 58 #[t,x] w λe w'=>e=.returned (.func (.func 95) #[] #[w,.pointer (some ⟨w.heap.size+1,0,none⟩)]) /\
  w'=(w.alloc (.cells #[t] 24)).alloc (.cells #[x] 3):=by
 have Jp:=@ru;go_enter Tryz.func58,Tryz.ntmps58
 go_wp2;exact Zv
theorem aZ{ops:Array Oper}{S:World->Prop}{o:Oper}{a:Act}{ty:TypeId}{x y:Operand}{m z v:Value}(hw:Region.wanted o (yielded ops a.tmps)=true)(ho:o.op=.lookup ty x y false)(hx:a.eval x=m)(hy:a.eval y=z)
  (hrun:∀W,S W->(Instr.lookup ty m z false).run ja0 W=.ok v W):aj.Reads ja0 ops S o v a :=
 .inl ⟨hw,λW hS=>by unfold execOp;simp only[ho,hx,hy,Sem.run_bind,Sem.run_pure,hrun W hS,Result.andThen_ok]⟩
def told(T:Tr.T)(f:Nat)(l:List Int)(k:Nat):Nat:=((l.take k).flatMap (Tr.sub T f)).length
theorem Uc(T:Tr.T)(f:Nat){k:Nat}(h:k<l.length):told T f l (k+1)=told T f l k+(Tr.sub T f (l.getD k 0)).length:=by
 unfold told;rw[dW l k h,List.flatMap_append,ja7];simp
theorem Xx(T:Tr.T)(f:Nat)(l:List Int):told T f l l.length=(l.flatMap (Tr.sub T f)).length:=by unfold told;rw[List.take_length]
theorem abq(T:Tr.T)(f:Nat){k i:Nat}(h:k<l.length)(hi:i<(Tr.sub T f (l.getD k 0)).length):told T f l k+i<(l.flatMap (Tr.sub T f)).length/\(l.flatMap (Tr.sub T f)).getD (told T f l k+i) 0=(Tr.sub T f (l.getD k 0)).getD i 0:=by
 have e:l.flatMap (Tr.sub T f)=(l.take k).flatMap (Tr.sub T f)++(Tr.sub T f (l.getD k 0)++(l.drop (k+1)).flatMap (Tr.sub T f)):=by
  conv=>lhs;rw[<-List.take_append_drop (k+1) l,dW l k h]
  simp[List.flatMap_append,List.append_assoc]
 have e1:((l.take k).flatMap (Tr.sub T f)).length=told T f l k:=rfl;rw[e];generalize l.getD k 0=y at *;constructor
 . simp only[ja7,e1];omega
 . unfold List.getD
   rw[List.getElem?_append_right ak,e1,Nat.add_sub_cancel_left,List.getElem?_append_left hi]
theorem j6.with_{S S' S2:Nat->Prop}{W W' W5 W6:World}{yb:Nat}(h:j6 S S' W W')(hy:W.heap.size<=yb/\yb<W'.heap.size)(hb:Below W' W' W5)(k:j6 (λb=>S' b\/b=yb) S2 W5 W6):j6 S S2 W W6:=by
 have e1:=h.1.size;have e2:=hb.size;have e3:=k.1.size;refine⟨⟨h.1.1.trans ((hb.mono oI).trans k.1.1),λb hlt hm => ?_⟩,λb hs => ?_⟩
 . rw[k.1.2 b ak (λq => ?_),hb.block b ak,h.1.2 b hlt hm]
   rcases q with q|q
   . rcases h.2 b q with q|q
     . exact hm q
     . omega
   . omega
 . rcases k.2 b hs with(q|q)|q
   . rcases h.2 b q with q|q
     . exact .inl q
     . exact .inr ak
   . exact .inr ak
   . exact .inr ak
theorem j6.sub{S S' S2:Nat->Prop}{W W':World}(h:j6 S S' W W')(k:∀b,S2 b->S' b):j6 S S2 W W':=⟨h.1,λb hb=>h.2 b (k b hb)⟩
theorem j6.more{S S' M:Nat->Prop}{W W' W'':World}(h:j6 S S' W W')(k:Out M W' W'')(hm:∀b,M b->W.heap.size<=b):j6 S S' W W'':=by
 have e1:=h.1.size;have e2:=k.size;refine⟨⟨h.1.1.trans k.1,λb hb hn => ?_⟩,λb hb=>(h.2 b hb).imp_right λq=>⟨q.1,by omega⟩⟩;rw[k.2 b ak (λq=>by have:=hm b q;omega),h.1.2 b hb hn]
theorem KS.wG{W:World}{A:Option Addr}{n c:Nat}(h:KS W (.slice A n c) l):Ints W A l/\l.length=n:=by
 obtain⟨A',c',e,hI,_⟩:=h.ints;injection e with e1 e2 e3;subst e1;exact⟨hI,e2.symm⟩
theorem LX(f:Nat):∀(x:Int) (nn lp tb ib t n:Nat) (L:Lay) (T:Tr.T) (J:Nat->(Nat->Prop)->World->Prop) (Jx:(Nat->Prop)->World->Prop) (S:Nat->Prop) (W:World),Tr.Fit T f x->dQ W t L T n ->
  At W tb (.cells #[t] 24)->At W ib (.cells #[x] 3)->(∀b,S b->b<W.heap.size/\¬ owned t L T b/\b≠tb/\b≠ib)->abp J->RF Jx ->
  (∀m i S W,i<(Tr.sub T f x).length->J i S W->YieldAt Fence.wide m ja0 lp #[.int .i64 ((Tr.sub T f x).getD i 0)] W (ac4 J Jx i S W))->J 0 S W ->
  CallsIn Fence.wide nn ja0 95 #[.func (.yield lp) #[] #[],tb,ib] W (ac5 J Jx (Tr.sub T f x).length S W):=by
 induction f with
 | zero=>intro x nn lp tb ib t n L T J Jx S W h;exact h.elim
 | succ f ih =>
   intro x nn lp tb ib t n L T J Jx S W hfit hR htb hib hS hJ hJx hY h0;obtain⟨nd,hT,hk⟩:=hfit;have hsub:=Tr.fG (f:=f) hT;obtain⟨fl,hfl⟩:∃fl,fl=nd.kids.flatMap (Tr.sub T f):=⟨_,rfl⟩;rw[<-hfl]at hsub;rw[hsub]at hY ⊢;obtain⟨yb,hyb⟩:∃yb,yb=W.heap.size:=⟨_,rfl⟩;obtain⟨W1,hW1⟩:∃W1,W1=W.alloc (.cells #[.func (.yield lp) #[] #[]] 126):=⟨_,rfl⟩;have hB1:Below W W W1:=by rw[hW1];exact aB aD _
   have hA1:At W1 yb (.cells #[.func (.yield lp) #[] #[]] 126):=by rw[hW1,hyb];exact At.new _ _
   have sU:=hR.after hB1;have adQ:=htb.keep hB1;have Pm:=hib.keep hB1;have hJ1:=hJ 0 S (λ_=>False) W W1 h0 (Out.of_below hB1) (λ_ _ q=>q);have hSy:∀b,S b->b<yb:=λb hb=>by rw[hyb];exact(hS b hb).1
   have hw1:j6 S S W W1.drew:=j6.of_below hB1.drew;have HS:=ah hS;have HY:=ah hY;have HJ:=ah hJ;have HJX:=ah hJx;have HK:=ah hk;have GJ:=ah hfl;have aky:=ah hsub;have uN:=ah hR;have HW0:=ah hyb;have HTB:=ah htb;clear hS hY hJ hJx hk hfl hsub hR htb hib h0 hB1;refine callsIn_of_wp_marks Tryz.func95 rfl trivial ?_ rfl;simp only[Tryz.ntmps95,jc4,ja9,List.length_nil,Nat.reduceAdd,Nat.reduceSub,Array.replicate_succ,Array.replicate_zero,jc',jc2,List.nil_append,jd1]
   gi_wp2
   rw[<-hyb,<-hW1];clear hyb hW1;refine wpIn_wide.2 ?_;have hS0:W1.drew.cell? ⟨tb,0,none⟩=some (.pointer t)/\W1.drew.cell? ⟨ib,0,none⟩=some (.int .i64 x)/\dQ W1.drew t L T n/\W1.drew=W1.drew:=⟨adQ.cell 0,Pm.cell 0,sU.after (Below.refl _ _).drew,rfl⟩;refine iC (S:=(λW'=>W'.cell? ⟨tb,0,none⟩=some (.pointer t)/\W'.cell? ⟨ib,0,none⟩=some (.int .i64 x)/\dQ W' t L T n/\W'=W1.drew)) 5 ?_ ?_
   . exact hS0
   intro hS1;refine aO 0 ?_;refine aO 2 ?_;refine tk1 1 ?_;refine aj.Step.call eD (KT hS1.2.2.1) ?_;rintro e w4 ⟨rfl,rfl⟩;refine⟨_,rfl,λ_=>hS1,?_⟩
   (try simp only[bM,bN,bO,tks])
   refine jh 3 rfl (aZ aR rfl rfl rfl (λW h=>h.2.2.1.fT hT)) ?_;refine aO 4 ?_;refine gZ ?_;have hA2:=hA1.drew;have hR2:=hS0.2.2.1;have adR:=adQ.drew;have Ud:=Pm.drew;have hJ2:=HJ.out 0 S (λ_=>False) _ _ hJ1 (Out.drew (Out.refl _ _)) (λ_ _ q=>q);clear hA1 sU adQ Pm hJ1 hS0 hS1;generalize W1.drew=W2 at *;obtain⟨fn,tmps,assign,body,hy,Xy⟩:=HY.out (nn-1) 0 S W2 aW hJ2;have hy':(Instr.yield lp #[.int .i64 x]).run ja0 W2=.ok (.round lp fn tmps assign body) W2:=hy;have cy:=hA2.cell 0;have ci:=Ud.cell 0;simp at cy ci;clear hy;have hdp:∀k:Nat,(Fence.wide.depth.isSome=true->1<=k):=λk h=>by simp[Fence.wide]at h
   gi_wp2
   refine⟨hdp _,Xy.mono ?_⟩;rintro e W3 ⟨S3,hw3,(⟨rfl,hJ3⟩|⟨rfl,hJx3⟩)⟩
   . have FQ:=hR2.out (M:=S) (λb hb q=>(HS.out b q).2.1 hb) hw3.1
     have aiE:=adR.out (λq=>(HS.out _ q).2.2.1 rfl) hw3.1;have hA3:=hA2.out (λq=>Nat.lt_irrefl _ (hSy _ q)) hw3.1;have afX:=hw1.trans hw3
     have qz:∀b,S3 b->¬ owned t L T b/\b≠tb/\b≠yb/\b<W3.heap.size:=λb hb=>by
      have e1:=hw1.1.size;have e2:=hw3.1.size;have e4:=hA2.lt;have e5:=HW0.out;rcases hw3.2 b hb with q|q
      . have:=HS.out b q
        exact⟨this.2.1,this.2.2.1,dX (hSy b q),by omega⟩
      . refine⟨λh => ?_,?_,by omega,by omega⟩
        . have:=hR2.lt h;omega
        . have:=adR.lt;omega
     have c1:=FQ.jX hT;obtain⟨A,c,hv,hI,_⟩:=(FQ.row x nd hT).ints;have hlen:=(FQ.small x nd hT).2.2.2.2;rw[hv]at c1;generalize hls:nd.kids=l at *;generalize hm:l.length=mm at *;have HM:=ah hm;have HV:=ah hv;have HLS:=ah hls;clear hI hm hv hls Xy hy' cy ci hJ2 hA2 adR Ud hw3
     gi_wp2
     refine wpIn_loop (λa' W'=>∃(k:Nat) (S':Nat->Prop) (Ds:List Nat) (u6 u7 u26 u27 u28 u29 u30 u31 u32 u33 u34 u35 u36 u37:Value),k<=mm/\J (1+told T f l k) S' W'/\j6 S S' W W'/\(Ds.Nodup/\∀D∈Ds,W.heap.size<=D/\¬ S' D/\W'.heap[D]? = some (.deferred (some [])))/\At W' yb (.cells #[.func (.yield lp) #[] #[]] 126)/\(∀b,S' b->¬ owned t L T b/\b≠tb/\b≠yb/\b<W'.heap.size) /\
      a'={ tmps:=#[Value.func (Fn.yield lp) #[] #[],tb,ib,yb,Value.pointer (some ⟨L.bl x,0,none⟩),undef,u6,u7,
       Value.pointer (some ⟨t,0,none⟩),Value.map (some L.mb),Value.int IntKind.i64 x,Value.pointer (some ⟨L.bl x,0,none⟩),Value.pointer (some ⟨L.bl x,0,none⟩),Value.bool false,Value.bool false,Value.func (Fn.yield lp) #[] #[],Value.int IntKind.i64 x,
       Value.bool true,Value.bool false,Value.bool false,Value.pointer (some ⟨L.bl x,0,none⟩),Value.pointer (some ⟨L.bl x,0,none⟩),Value.pointer (some ⟨L.bl x,1,none⟩),
       Value.slice A mm c,Value.int IntKind.i64 (mm:Int),Value.int IntKind.i64 (k:Int),u26,u27,u28,u29,u30,u31,u32,u33,u34,u35,u36,u37],defers:=marks Ds }) (λa' _=>mm-(intOf (a'.tmps.getD 25 undef)).toNat) ?start ?round
     case start =>
      exact⟨0,S3,[],_,_,_,_,_,_,_,_,_,_,_,_,_,_,eX _,by simpa[told]using hJ3,afX,⟨.nil,λD hD=>by cases hD⟩,hA3,qz,rfl⟩
     case round =>
      clear hJ3 afX qz hA3 aiE FQ c1;rintro a' W' ⟨k,S',Ds,u6,u7,u26,u27,u28,u29,u30,u31,u32,u33,u34,u35,u36,u37,hkm,hJk,hw,⟨hDn,hD⟩,hA',hS',rfl⟩;have hR':=uN.out.out (M:=S) (λb hb q=>(HS.out b q).2.1 hb) hw.1;have htb':=HTB.out.out (λq=>(HS.out _ q).2.2.1 rfl) hw.1;have hI:=hR'.row x nd hT;rw[HV.out,HLS.out]at hI;have hI':=hI.wG.1;clear hI;by_cases hlt:k<mm
      . obtain⟨b,o,rfl,lb,hcell⟩:=hI'.at_ (k:=k) Z4a
        have hfz:=HK.out (l.getD k 0) (by rw[List.getD,ja6 Z4a];exact jc3 _);have hts:=Uc T f (l:=l) (k:=k) Z4a;have hta:=λi hi=>abq T f (l:=l) (k:=k) (i:=i) Z4a hi;rw[<-GJ.out]at hta;generalize l.getD k 0=z at *;have ct:=htb'.cell 0;simp at ct;have kr:Below W' W' ((W'.alloc (.cells #[t] 24)).alloc (.cells #[z] 3)):=aB (aB aD _) _;have xJ:At ((W'.alloc (.cells #[t] 24)).alloc (.cells #[z] 3)) W'.heap.size (.cells #[t] 24):=(At.new _ _).alloc _;have xK:At ((W'.alloc (.cells #[t] 24)).alloc (.cells #[z] 3)) (W'.heap.size+1) (.cells #[z] 3):=At.new' _ aW;generalize hW5:(W'.alloc (.cells #[t] 24)).alloc (.cells #[z] 3)=W5 at *
        gi_wp2_with ((try refine⟨trivial,?_⟩);(try refine⟨hdp _,?_⟩);gi_at_call 58;refine(callsIn_wide.2 (wF t z W')).mono ?_;rintro e w' ⟨rfl,rfl⟩;rw[hW5])
        have e5:=kr.size;have Jt:=hR'.after kr;have aiF:=hA'.keep kr;have afY:=hA'.lt;have hy0:W.heap.size<=yb:=Nat.le_of_eq HW0.out.symm;have hy1:yb<=W.heap.size:=Nat.le_of_eq HW0.out;obtain⟨q,hq⟩:∃q:Nat->Int,Hid (∀i,q i=(Tr.sub T f z).getD i 0):=⟨_,ah λ_=>rfl⟩;have hJ5:=HJ.out (1+told T f l k) S' (λ_=>False) W' W5 hJk (Out.of_below kr) (λ_ _ q=>q);have hlt1:=xJ.lt;have hlt2:=xK.lt
        refine zS (gf:=95) (first:=#[]) (lb:=#[W',.pointer (some ⟨W'.heap.size+1,0,none⟩)]) rfl (enters_of Tryz.func95 aV rfl) (Tr.sub T f z).length (λi=>#[.int .i64 (q i)]) (λ_=>rfl)
         (λi S2 V=>∃S1,(∀b,S2 b↔S1 b\/b=yb)/\(∀b,S1 b->b≠yb)/\J (1+told T f l k+i) S1 V/\At V yb (.cells #[.func (.yield lp) #[] #[]] 126))
         (λS2 V=>∃S1,(∀b,S1 b->S2 b)/\Jx S1 V)
         ?stab ?stabx (λb=>S' b\/b=yb) (λb hb=>by rcases hb with hb|hb;(have:=(hS' b hb).2.2.2;omega);omega) ⟨S',λb=>Iff.rfl,λb hb=>(hS' b hb).2.2.1,hJ5,aiF⟩
         ?hit (λi t=>(t.setIfInBounds 32 (.int .i64 (q i))).setIfInBounds 7 (.int .i64 (q i))) ?assign ?body ?done ?stop
        case stab =>
         rintro i S2 M V V' ⟨S1,h1,h2,h3,h4⟩ ho hm;exact⟨S1,h1,h2,HJ.out _ _ _ _ _ h3 ho (λb hb=>hm b ((h1 b).2 (.inl hb))),h4.out (hm yb ((h1 yb).2 (.inr rfl))) ho⟩
        case stabx =>
         rintro S2 M V V' ⟨S1,h1,h2⟩ ho hm;exact⟨S1,h1,HJX.out _ _ _ _ h2 ho (λb hb=>hm b (h1 b hb))⟩
        case hit =>
         intro lp2 J2 Jx2 S1 V hb hs1 hj2 aiG hy2 h02;refine ih z _ lp2 _ _ t n L T J2 Jx2 S1 V hfz (Jt.after hb) (xJ.keep hb) (xK.keep hb) (λb hs => ?_) hj2 aiG (λm i S W h1 h2=>by rw[<-hq.out i];exact hy2 m i S W h1 h2) h02;obtain⟨h1,h2⟩:=hs1 b hs;rcases h1 with(h1|h1)|h1
         . have:=hS' b h1
           exact⟨h2,this.1,by omega,by omega⟩
         . subst h1
           refine⟨h2,λq => ?_,by omega,by omega⟩;have:=uN.out.lt q;omega
         . refine⟨h2,λq => ?_,by omega,by omega⟩
           have:=Jt.lt q;omega
        case assign =>
         intro l1 m1 i V G hi hG;exact Z1j
        case body =>
         rintro l1 m1 i S2 V hi ⟨S1,h1,h2,h3,h4⟩;obtain⟨hti,hte⟩:=hta i hi;have hyy:=HY.out (m1-1) (1+told T f l k+i) S1 V (by simp only[ja9];omega) h3;rw[show(x::fl).getD (1+told T f l k+i) 0=q i by rw[hq.out,<-hte,show 1+told T f l k+i=(told T f l k+i)+1 by omega];rfl]at hyy;obtain⟨fn2,aks,assign2,akt,hyq,hRq⟩:=hyy;have cyb:=h4.cell 0;simp at cyb;generalize q i=y at *;simp only[ja1,ja2,ja3]
         gi_wp2
         refine⟨hdp _,RoundIn.mono (F:=Fence.wide.inRound l1) hRq ?_⟩;rintro e V3 ⟨S3',hw3,(⟨rfl,hJ3⟩|⟨rfl,hJx3⟩)⟩
         . have hyl:=h4.lt
           gi_wp2
           refine⟨λb=>S3' b\/b=yb,⟨hw3.1.mono λb _ hb=>(h1 b).2 (.inl hb),λb hb => ?_⟩,S3',λb=>Iff.rfl,λb hb => ?_,hJ3,h4.out (λhb=>h2 yb hb rfl) hw3.1⟩
           . rcases hb with hb|hb
             . rcases hw3.2 b hb with hb|hb
               . exact .inl ((h1 b).2 (.inl hb))
               . exact .inr hb
             . exact .inl ((h1 b).2 (.inr hb))
           . rcases hw3.2 b hb with hb|hb
             . exact h2 b hb
             . omega
         . gi_wp2
           exact⟨S3',⟨hw3.1.mono λb _ hb=>(h1 b).2 (.inl hb),λb hb=>(hw3.2 b hb).imp_left λhb=>(h1 b).2 (.inl hb)⟩,S3',λb hb=>hb,hJx3⟩
        case done =>
         rintro D S2 V hDl hw5 hDS ⟨S1,h1,h2,h3,h4⟩ hDo;have hwW:=hw.with_ ⟨hy0,afY⟩ kr hw5;have e6:=hw5.1.size;have hkl:(k:Int)<mm:=by omega
         gi_wp2
         refine⟨⟨k+1,S1,D::Ds,_,_,_,_,_,_,_,_,_,_,_,_,_,_,by omega,?_,hwW.sub (λb hb=>(h1 b).2 (.inl hb)),⟨List.nodup_cons.2 ⟨λhm => ?_,hDn⟩,λE hE => ?_⟩,h4,λb hb => ?_,rfl⟩,?_⟩
         . rw[hts,<-Nat.add_assoc];exact h3
         . have:=(Array.getElem?_eq_some_iff.1 (hD D hm).2.2).1
           omega
         . rcases List.mem_cons.1 hE with rfl|hE
           . exact⟨by omega,λq=>hDS ((h1 _).2 (.inl q)),hDo⟩
           . obtain⟨q1,q2,q3⟩:=hD E hE
             have q4:=(Array.getElem?_eq_some_iff.1 q3).1;have q5:E≠yb:=λe=>by subst e;have:=(show At W' E _ from q3).uniq hA';cases this
             refine⟨q1,λq => ?_,?_⟩
             . rcases hw5.2 E ((h1 E).2 (.inl q))with(q|q)|q
               . exact q2 q
               . exact q5 q
               . omega
             . rw[hw5.1.2 E ak (λq=>q.elim q2 q5),kr.block E q4];exact q3
         . rcases hw5.2 b ((h1 b).2 (.inl hb))with(q|q)|q
           . have:=hS' b q
             exact⟨this.1,this.2.1,this.2.2.1,by omega⟩
           . exact absurd q (h2 b hb)
           . refine⟨λr => ?_,by have:=htb'.lt;omega,by omega,q.2⟩
             have:=Jt.lt r;omega
         . simp[intOf];omega
        case stop =>
         rintro D S2 V hDl hw5 hDS ⟨S1,h1,h2⟩ hDo;have hwW:=hw.with_ ⟨hy0,afY⟩ kr hw5
         have hE:∀E∈D::Ds,W.heap.size<=E/\¬ S2 E/\V.heap[E]? = some (.deferred (some [])):=λE hE=>by
          rcases List.mem_cons.1 hE with rfl|hE
          . exact⟨by omega,hDS,hDo⟩
          . obtain⟨q1,q2,q3⟩:=hD E hE
            have q4:=(Array.getElem?_eq_some_iff.1 q3).1;have q5:E≠yb:=λe=>by subst e;have:=(show At W' E _ from q3).uniq hA';cases this
            refine⟨q1,λq => ?_,?_⟩
            . rcases hw5.2 E q with(q|q)|q
              . exact q2 q
              . exact q5 q
              . omega
            . rw[hw5.1.2 E ak (λq=>q.elim q2 q5),kr.block E q4];exact q3
         have hnd:(D::Ds).Nodup:=List.nodup_cons.2 ⟨λhm=>by have:=(Array.getElem?_eq_some_iff.1 (hD D hm).2.2).1;omega,hDn⟩
         gi_wp2
         exact sS (D::Ds) V hnd (λE q=>(hE E q).2.2) λW7 ho=>⟨_,results_none rfl _ _ _,⟨⟨_,rfl⟩,S1,(hwW.sub h1).more ho (λb hb=>(hE b hb).1),.inr (HJX.out _ _ _ _ h2 ho (λb hb q=>(hE b q).2.1 (h1 b hb)))⟩⟩
      . obtain rfl:k=mm:=by omega
        gi_wp2
        refine sS Ds W' hDn (λE q=>(hD E q).2.2) λW7 ho=>⟨_,results_none rfl _ _ _,⟨⟨_,rfl⟩,S',hw.more ho (λb hb=>(hD b hb).1),.inl ?_⟩⟩;rw[GJ.out,<-Xx,HM.out,Nat.add_comm];exact HJ.out _ _ _ _ _ hJk ho (λb hb q=>(hD b q).2.1 hb)
   . gi_wp2
     exact⟨_,results_none rfl _ _ _,⟨⟨_,rfl⟩,S3,hw1.trans hw3,.inr hJx3⟩⟩
end
section
open Go.Shelf
open List renaming setIfInBounds_toArray → ja1,set_cons_zero → ja2,set_cons_succ → ja3,getElem?_eq_getElem → ja6,length_cons → ja9,append_toArray → jc2,getElem_mem → jc3,size_toArray → jc4,push_toArray → jc',cons_append → jd1
variable {w:World}{L:Lay}
attribute [local go_sem] Oper.semAt_some
theorem bG{M:Nat->Prop}{W W':World}{base:Nat}{e:TypeId}{size:Nat}{v:Value}{n:Nat}{xs:List Value}(h:W.ownsRow base e size v n xs)(hm:∀g,v.ownBlock=some g->¬ M g)(k:Out M W W'):W'.ownsRow base e size v n xs:=by
 refine⟨h.1,?_⟩;rcases h.2 with q|⟨g,cap,cur,rfl,hb,hg,r⟩
 . exact .inl q
 . exact .inr ⟨g,cap,cur,rfl,hb,(show At W g _ from hg).out (hm g rfl) k,r⟩
theorem dP{W:World}{base base':Nat}{e:TypeId}{size:Nat}{v:Value}{k:Nat}{xs:List Value}(h:W.ownsRow base e size v k xs)(hb:base'<=base):W.ownsRow base' e size v k xs:=by
 refine⟨h.1,?_⟩;rcases h.2 with q|⟨g,cap,cur,q1,q2,r⟩
 . exact .inl q
 . exact .inr ⟨g,cap,cur,q1,aJ hb q2,r⟩
theorem Xz{t n f tb ib:Nat}{T:Tr.T}{x:Int}(hR:dQ w t L T n)(hfit:Tr.Fit T f x)(hlen:(Tr.sub T f x).length<=10000)(htb:At w tb (.cells #[t] 24))(hib:At w ib (.cells #[x] 3)) :
  Calls ja0 94 #[.slice none 0 0,.func (.func 95) #[] #[tb,ib]] w λe w' =>
   (∃v,e=.returned v/\w'.ownsRow w.heap.size 3 1 v (Tr.sub T f x).length ((Tr.sub T f x).map (Value.int .i64)))/\Below w w w':=by
 obtain⟨i0,hi,hz0,hz1,hz2⟩:=info_parts intZero;obtain⟨l,hl⟩:∃l,Hid (l=Tr.sub T f x):=⟨_,ah rfl⟩;rw[<-hl.out]at hlen ⊢;obtain⟨q,hq⟩:∃q:Nat->Int,Hid (∀i,q i=l.getD i 0):=⟨_,ah λ_=>rfl⟩;have hB0:Below w w (w.alloc (.cells #[.slice none 0 0] 37)):=aB aD _;have Ue:At (w.alloc (.cells #[.slice none 0 0] 37)) w.heap.size (.cells #[.slice none 0 0] 37):=At.new _ _;have hsz:(w.alloc (.cells #[.slice none 0 0] 37)).heap.size=w.heap.size+1:=by simp
 have hR0:=hR.after hB0;have aiH:=htb.keep hB0;have aiI:=hib.keep hB0;have ltb:=htb.lt;have lib:=hib.lt;have HRW:=ah hR;clear hR htb hib;refine(callsIn_wide (n:=5)).1 ?_;refine callsIn_of_wp_marks Tryz.func94 rfl trivial ?_ rfl;simp only[Tryz.ntmps94,jc4,ja9,List.length_nil,Nat.reduceAdd,Nat.reduceSub,Array.replicate_succ,Array.replicate_zero,jc',jc2,List.nil_append,jd1]
 gi_wp2
 generalize w.alloc (.cells #[.slice none 0 0] 37)=W0 at *
 refine zS (gf:=95) (first:=#[]) (lb:=#[tb,ib]) rfl (enters_of Tryz.func95 aV rfl) l.length (λi=>#[.int .i64 (q i)]) (λ_=>rfl)
  (λi S W=>∃v,(∀b,S b↔b=w.heap.size\/v.ownBlock=some b)/\At W w (.cells #[v] 37)/\W.ownsRow w.heap.size 3 1 v i ((l.take i).map (Value.int .i64)))
  (λ_ _=>False) ?stab (λ_ _ _ _ h _ _=>h) (λb=>b=w.heap.size) (λb hb=>by omega)
  ⟨.slice none 0 0,λb=>by simp[Value.ownBlock],Ue,by simpa using World.ownsRow_nil W0 w.heap.size 3 1⟩ ?hit
  (λi t=>(t.setIfInBounds 7 (.int .i64 (q i))).setIfInBounds 5 (.int .i64 (q i))) ?assign ?body ?done ?stop
 case stab =>
  rintro i S M W W' ⟨v,h1,h2,h3⟩ ho hm;exact⟨v,h1,h2.out (hm _ ((h1 _).2 (.inl rfl))) ho,bG h3 (λg hg=>hm g ((h1 g).2 (.inr hg))) ho⟩
 case hit =>
  intro lp J Jx S1 V hb hs1 hj hjx hy h0;rw[hl.out]at hy ⊢;refine LX f x _ lp tb ib t n L T J Jx S1 V hfit (hR0.after hb) (aiH.keep hb) (aiI.keep hb) (λb hs => ?_) hj hjx (λm i S W h1 h2=>by rw[<-hl.out,<-hq.out i];exact hy m i S W h1 h2) h0;obtain⟨h1,h2⟩:=hs1 b hs;refine⟨h2,λr => ?_,by omega,by omega⟩;have:=HRW.out.lt r;omega
 case assign =>
  intro l1 m1 i V G hi hG;exact Z1j
 case body =>
  rintro l1 m1 i S W hi2 ⟨v,h1,h2,h3⟩;have htk:Hid ((l.take (i+1)).map (Value.int .i64)=(l.take i).map (Value.int .i64)++[.int .i64 (q i)]):=ah (by rw[dW l i hi2,List.map_append,hq.out i];rfl)
  have hvB:v.ownBlock≠some w.heap.size:=λe=>by
   rcases h3.2 with⟨rfl,_⟩|⟨g,cap,cur,rfl,_,hg,_⟩
   . cases e
   . simp[Value.ownBlock]at e
     rw[e]at hg;have:=(show At W _ _ from hg).uniq h2;injection this with _ e2;exact absurd e2 aG
  have hc:=h2.cell 0;have hz:=h2.thaw 0;have hlt:=h2.lt;simp at hc;generalize q i=y at *;have H1:=ah h1;have H2:=ah h2;have H3:=ah h3;clear h1 h2;simp only[ja1,ja2,ja3]
  gi_wp2_with (gi_at_builtin;refine wpListIn_append_own_at _ rfl _ _ 37 rfl w.heap.size 3 i0 (.int .i64 0) 1 8 Tryz.underlying37 hi hz0 hz1 hz2 rfl aG _ _ _ rfl (H3.out.alloc _) ⟨W,0,none⟩ 1 1 [.int .i64 y] rfl rfl (cell_one_new _ _ _) Kv Oi ak iJ ?_)
  intro v' w1 hown' hgrow _ hat;obtain⟨g',cap',rfl⟩:=ownsRow_succ hown';have hA1:=(H2.out.alloc (.cells #[y] 3)).out (M:=λb=>v.ownBlock=some b) hvB (Out.grown hgrow λb e=>e);have hc1:=hA1.cell 0;have hz1':=hA1.thaw 0;simp at hc1
  gi_wp2
  have hg':g'≠w.heap.size:=λe=>by
   rcases hown'.2 with⟨q1,_⟩|⟨g,cap,cur,q1,_,hg,_⟩
   . cases q1
   . injection q1 with q1
     injection q1 with q1;injection q1 with q1;subst q1;rw[e]at hg;have:=(show At w1 _ _ from hg).uniq hA1;injection this with _ e2;exact absurd e2 aG
  have hgl:g'<w1.heap.size:=(hown'.lt g' rfl).2;have o1:Out S W (W.alloc (.cells #[y] 3)):=Out.of_below (aB aD _);have o2:Out S (W.alloc (.cells #[y] 3)) w1:=Out.grown hgrow λb e=>(H1.out b).2 (.inr e);have o3:Out (λb=>b=w.heap.size) w1 (w1.setCell ⟨w,0,none⟩ (.slice g' (i+1) cap')):=(Out.refl _ _).set (M:=λb=>b=w.heap.size) rfl 0 _;have o4:Out S w1 (w1.setCell ⟨w,0,none⟩ (.slice g' (i+1) cap')):=o3.mono λb _ e=>(H1.out b).2 (.inl e);refine⟨λb=>b=w.heap.size\/b=g',⟨(o1.trans o2).trans o4,λb hb => ?_⟩,_,λb => ?_,hA1.set 0 _,?_⟩
  . rcases hb with hb|hb
    . exact .inl ((H1.out b).2 (.inl hb))
    . subst hb
      rcases hat with e|e
      . exact .inl ((H1.out b).2 (.inr (e▸rfl)))
      . simp[Value.ownBlock]at e
        refine .inr ⟨by omega,?_⟩;have:(w1.setCell ⟨w,0,none⟩ (.slice b (i+1) cap')).heap.size=w1.heap.size:=by simp[World.setCell]
        omega
  . simp only[Value.ownBlock,Option.some.injEq]
    constructor<;>(intro hb;omega)
  . rw[htk.out,List.map_take]
    exact bG hown' (λg hg q=>hg' (by simp[Value.ownBlock]at hg;rw[hg];exact q)) o3
 case done =>
  rintro D S W hDl hw hDS ⟨v,h1,h2,h3⟩ hDo;have hc:=h2.cell 0;simp at hc;have hBW:Below w w W:=hB0.trans (hw.1.below ak λb hb e=>by omega);rw[List.take_length]at h3
  gi_wp2
  refine⟨by simp,.inl ⟨_,_,rfl,run_takeDeferred hDo,?_⟩⟩;have hoD:Out (λb=>b=D) W (W.putObj D (.deferred none)):=Out.putObj W D _;refine⟨_,results_tmp rfl _ _ _,⟨v,rfl,bG h3 (λg hg (q:g=D) => ?_) hoD⟩,hBW.trans (hoD.below (by have:=hBW.size;omega) λb hb (q:b=D)=>by omega)⟩;exact hDS ((h1 D).2 (.inr (q▸hg)))
 case stop =>
  rintro D S W _ _ _ h _;exact h.elim
theorem AO{t n f tb ib:Nat}{T:Tr.T}{x:Int}(hR:dQ w t L T n)(hfit:Tr.Fit T f x)(hlen:(Tr.sub T f x).length<=10000)(htb:At w tb (.cells #[t] 24))(hib:At w ib (.cells #[x] 3)) :
  Calls ja0 57 #[.func (.func 95) #[] #[tb,ib]] w λe w' =>
   (∃v,e=.returned v/\w'.ownsRow w.heap.size 3 1 v (Tr.sub T f x).length ((Tr.sub T f x).map (Value.int .i64)))/\Below w w w':=by
 have key:=Xz hR hfit hlen htb hib;clear hR hfit hlen htb hib;generalize Tr.sub T f x=l at *;go_enter Tryz.func57,Tryz.ntmps57
 go_wp2_with (go_at_call 94;(with_reducible refine key.mono ?_);rintro e w' ⟨⟨v,rfl,ho⟩,hb⟩)
 go_ret
 exact⟨⟨_,rfl,ho⟩,hb⟩
theorem DX{t n:Nat}{T:Tr.T}(h:dQ w t L T n)(hf:Tr.Fit T 64 0)(hl:(Tr.ord T).length<=10000):Calls ja0 15 #[t] w λe w'=>(∃v,e=.returned v/\w'.ownsRow w.heap.size 3 1 v (Tr.ord T).length ((Tr.ord T).map (Value.int .i64)))/\Below w w w':=by
 have key:=AO (h.after (W':=(w.alloc (.cells #[t] 24)).alloc (.cells #[()] 3)) (aB (aB aD _) _)) hf hl ((At.new w _).alloc _) (At.new' (b:=w.heap.size+1) _ aW);have hb0:Below w w ((w.alloc (.cells #[t] 24)).alloc (.cells #[()] 3)):=aB (aB aD _) _;clear h;change Calls _ _ _ _ (λe w'=>(∃v,e=.returned v/\w'.ownsRow _ _ 1 v (Tr.ord T).length ((Tr.ord T).map (Value.int .i64)))/\_)at key;generalize Tr.ord T=l at *;go_enter Tryz.func15,Tryz.ntmps15
 go_wp2_with (first|(go_at_call 58;(with_reducible refine(wF _ _ _).mono ?_);rintro e w' ⟨rfl,rfl⟩)|(go_at_call 57;(with_reducible refine key.mono ?_);rintro e w' ⟨⟨v,rfl,ho⟩,hb⟩))
 go_ret
 exact⟨⟨_,rfl,dP ho iJ⟩,hb0.trans (hb.mono iJ)⟩
theorem Pn{t n f:Nat}{T:Tr.T}{x y:Int}(hR:dQ w t L T n)(hfit:Tr.Fit T f x) :
  Calls ja0 105 #[t,x,y] w λe w'=>e=.returned (.bool (decide (y∈Tr.sub T f x)))/\Below w w w':=by
 obtain⟨l,hl⟩:∃l,Hid (l=Tr.sub T f x):=⟨_,ah rfl⟩;rw[<-hl.out];obtain⟨q,hq⟩:∃q:Nat->Int,Hid (∀i,q i=l.getD i 0):=⟨_,ah λ_=>rfl⟩;have xJ:At ((w.alloc (.cells #[y] 3)).alloc (.cells #[false] 4)) w.heap.size (.cells #[y] 3):=(At.new _ _).alloc _;have xK:At ((w.alloc (.cells #[y] 3)).alloc (.cells #[false] 4)) (w.heap.size+1) (.cells #[false] 4):=At.new' _ aW;have hB0:Below w w ((w.alloc (.cells #[y] 3)).alloc (.cells #[false] 4)):=aB (aB aD _) _;have hsz:((w.alloc (.cells #[y] 3)).alloc (.cells #[false] 4)).heap.size=w.heap.size+2:=by simp
 generalize hW0:(w.alloc (.cells #[y] 3)).alloc (.cells #[false] 4)=W0 at *;have hB1:Below W0 W0 ((W0.alloc (.cells #[t] 24)).alloc (.cells #[x] 3)):=aB (aB aD _) _;have Oj:At ((W0.alloc (.cells #[t] 24)).alloc (.cells #[x] 3)) W0.heap.size (.cells #[t] 24):=(At.new _ _).alloc _;have Po:At ((W0.alloc (.cells #[t] 24)).alloc (.cells #[x] 3)) (W0.heap.size+1) (.cells #[x] 3):=At.new' _ aW;have hsz1:((W0.alloc (.cells #[t] 24)).alloc (.cells #[x] 3)).heap.size=W0.heap.size+2:=by simp
 generalize hW1:(W0.alloc (.cells #[t] 24)).alloc (.cells #[x] 3)=W1 at *;have sU:=(hR.after hB0).after hB1;have aiJ:=xJ.keep hB1;have aiK:=xK.keep hB1;have HRW:=ah hR;have hB2:=hB0.trans (hB1.mono ak);clear hR;refine(callsIn_wide (n:=5)).1 ?_;refine callsIn_of_wp_marks Tryz.func105 rfl trivial ?_ rfl;simp only[Tryz.ntmps105,jc4,ja9,List.length_nil,Nat.reduceAdd,Nat.reduceSub,Array.replicate_succ,Array.replicate_zero,jc',jc2,List.nil_append,jd1]
 gi_wp2_with (refine⟨trivial,?_⟩;gi_at_call 58;refine(callsIn_wide.2 (wF t x W0)).mono ?_;rintro e w' ⟨rfl,rfl⟩)
 (try rw[hW1])
 clear hW0 hW1;rw[hsz]at Oj Po
 refine zS (gf:=95) (first:=#[]) (lb:=#[.pointer (some ⟨w.heap.size+2,0,none⟩),.pointer (some ⟨w.heap.size+2+1,0,none⟩)]) rfl (enters_of Tryz.func95 aV rfl) l.length (λi=>#[.int .i64 (q i)]) (λ_=>rfl)
  (λi S W=>(∀b,S b↔b=w.heap.size\/b=w.heap.size+1)/\At W w (.cells #[y] 3)/\At W (w.heap.size+1) (.cells #[false] 4)/\y ∉ l.take i)
  (λS W=>(∀b,S b↔b=w.heap.size\/b=w.heap.size+1)/\At W (w.heap.size+1) (.cells #[true] 4)/\y∈l) ?stab ?stabx (λb=>b=w.heap.size\/b=w.heap.size+1) (λb hb=>by omega)
  ⟨λb=>Iff.rfl,aiJ,aiK,by simp⟩ ?hit
  (λi t=>(t.setIfInBounds 11 (.int .i64 (q i))).setIfInBounds 7 (.int .i64 (q i))) ?assign ?body ?done ?stop
 case stab =>
  rintro i S M W W' ⟨h1,h2,h3,h4⟩ ho hm;exact⟨h1,h2.out (hm _ ((h1 _).2 (.inl rfl))) ho,h3.out (hm _ ((h1 _).2 (.inr rfl))) ho,h4⟩
 case stabx =>
  rintro S M W W' ⟨h1,h2,h3⟩ ho hm;exact⟨h1,h2.out (hm _ ((h1 _).2 (.inr rfl))) ho,h3⟩
 case hit =>
  intro lp J Jx S1 V hb hs1 hj hjx hy h0;rw[hl.out]at hy ⊢;refine LX f x _ lp _ _ t n L T J Jx S1 V hfit (sU.after hb) (Oj.keep hb) (Po.keep hb) (λb hs => ?_) hj hjx (λm i S W h1 h2=>by rw[<-hl.out,<-hq.out i];exact hy m i S W h1 h2) h0;obtain⟨h1,h2⟩:=hs1 b hs;refine⟨h2,λr => ?_,by omega,by omega⟩;have:=HRW.out.lt r;omega
 case assign =>
  intro l1 m1 i V G hi hG;exact Z1j
 case body =>
  rintro l1 m1 i S W hi2 ⟨h1,h2,h3,h4⟩;have htk:Hid (l.take (i+1)=l.take i++[q i]):=ah (by rw[dW l i hi2,hq.out i]);have hmem:Hid (q i∈l):=ah (by rw[hq.out i,List.getD,ja6 hi2];exact jc3 _);have hc:=h2.cell 0;have hc3:=h3.cell 0;have hz3:=h3.thaw 0;simp at hc hc3;generalize q i=z at *;have H1:=ah h1;have H2:=ah h2;have H3:=ah h3;have H4:=ah h4;clear h1 h2 h3 h4;simp only[ja1,ja2,ja3];by_cases e:z=y
  . subst e
    gi_wp2
    exact⟨S,⟨(Out.refl _ _).set (M:=S) ((H1.out _).2 (.inr rfl)) 0 _,λb hb => .inl hb⟩,H1.out,H3.out.set 0 _,hmem.out⟩
  . have eb:(z==y)=false:=by simpa using e
    gi_wp2
    exact⟨S,j6.refl _ _,H1.out,H2.out,H3.out,by rw[htk.out,List.mem_append,List.mem_singleton];exact λh=>h.elim H4.out (λh=>e h.symm)⟩
 case done =>
  rintro D S W hDl hw hDS ⟨h1,h2,h3,h4⟩ hDo;rw[List.take_length]at h4;have hc:=h3.cell 0;have hz:=h3.thaw 0;simp at hc;have hBW:Below w w W:=hB2.trans (hw.1.below ak λb hb e=>by omega);have o3:Out (λb=>b=w.heap.size+1) W (W.setCell ⟨w.heap.size+1,0,none⟩ (.bool false)):=(Out.refl _ _).set (M:=λb=>b=w.heap.size+1) rfl 0 _;have hD2:(W.setCell ⟨w.heap.size+1,0,none⟩ (.bool false)).heap[D]? = some (.deferred (some [])):=(show At W D _ from hDo).out (M:=λb=>b=w.heap.size+1) (λ(e:D=w.heap.size+1)=>hDS ((h1 D).2 (.inr e))) o3
  gi_wp2
  refine⟨by simp,.inl ⟨_,_,rfl,run_takeDeferred hD2,?_⟩⟩;have hoD:=Out.putObj (W.setCell ⟨w.heap.size+1,0,none⟩ (.bool false)) D (.deferred none);have pI:=(h3.set 0 (.bool false)).out (M:=λb=>b=D) (λ(e:w.heap.size+1=D)=>hDS ((h1 D).2 (.inr e.symm))) hoD;have wH:Below w w ((W.setCell ⟨w.heap.size+1,0,none⟩ (.bool false)).putObj D (.deferred none)):=(hBW.trans (o3.below (by have:=hBW.size;omega) λb hb (q:b=w.heap.size+1)=>by omega)).trans (hoD.below (by have:=hBW.size;have:=o3.size;omega) λb hb (q:b=D)=>by omega);have hc9:=pI.cell 0;simp at hc9;generalize World.putObj _ _ _=W9 at *;refine⟨.bool false,?_,by simp[h4],wH⟩;simp[results,Tryz.results105,go_sem,hc9]
 case stop =>
  rintro D S W hDl hw hDS ⟨h1,h3,h4⟩ hDo;have hBW:Below w w W:=hB2.trans (hw.1.below ak λb hb e=>by omega)
  gi_wp2
  refine⟨by simp,.inl ⟨_,_,rfl,run_takeDeferred hDo,?_⟩⟩;have hoD:=Out.putObj W D (.deferred none);have pI:=h3.out (M:=λb=>b=D) (λ(e:w.heap.size+1=D)=>hDS ((h1 D).2 (.inr e.symm))) hoD;have wH:Below w w (W.putObj D (.deferred none)):=hBW.trans (hoD.below (by have:=hBW.size;omega) λb hb (q:b=D)=>by omega);have hc9:=pI.cell 0;simp at hc9;generalize World.putObj _ _ _=W9 at *;refine⟨.bool true,?_,by simp[h4],wH⟩;simp[results,Tryz.results105,go_sem,hc9]
end
variable {I:List Int->World->Prop}{caps cs:Array Value}{f:Nat->Int->Int}{mine:Nat->Prop}{F:FuncId}{w:World}{wr:Bool}{t:Re.St}{bs bw k:Nat}{lo hi:Int}{xs:List Int}{T:TypeId}
structure Here(F:FuncId)(caps:Array Value)(I:List Int->World->Prop)(bw b:Nat)(T:TypeId)(cs:Array Value)(wr:Bool)(xs:List Int)(W:World):Prop where
 i:I xs W
 a:At W b (.cells cs T)
 w:At W bw (.cells #[.func (.func F) #[] caps,wr] 215)
structure gG(mine:Nat->Prop)(b bw:Nat):Prop where
 nb:¬ mine b
 nw:¬ mine bw
 ne:b≠bw
theorem lW{bw:Nat}{v:Value}{wr ok:Bool}(aw:At w bw (.cells #[v,wr] 215)) :
  Calls ja0 200 #[bw,ok] w λe w'=>e=.returned (.tuple #[])/\w'=w.setCell ⟨bw,1,none⟩ (.bool (wr || !ok)):=by
 obtain⟨lw,c0,c1⟩:=At.two aw;have z1:=aw.thaw 1;cases wr
 . go_enter Tryz.func200,Tryz.ntmps200
   go_wp2;refine bodyPost_end (results_none rfl _ _ _) rfl ⟨rfl,rfl⟩
 . go_enter Tryz.func200,Tryz.ntmps200
   go_wp2;refine bodyPost_end (results_none rfl _ _ _) rfl ⟨rfl,rfl⟩
theorem Here.held(hA:oQ F caps f mine I){bw b:Nat}{W:World}
 (h:Here F caps I bw b T cs wr xs W) (hp:gG mine b bw) (v:Bool):Here F caps I bw b T cs v xs (W.setCell ⟨bw,1,none⟩ (.bool v)):=⟨hA.set _ _ _ _ _ h.i hp.nw,h.a.off hp.ne _ _,h.w.set 1 _⟩
theorem Here.keep(hA:oQ F caps f mine I){bw b:Nat}{W W':World}
 (h:Here F caps I bw b T cs wr xs W) (hb:Below W W W'):Here F caps I bw b T cs wr xs W':=⟨hA.keep _ _ _ h.i hb,h.a.keep hb,h.w.keep hb⟩
theorem jo{P:Program}{fn:Func}{a:Act}(hA:oQ F caps f mine I){bw b:Nat}{wr p q v:Bool}{y lo hi:Int}{w W:World}
  (h:Here F caps I bw b T cs wr xs W) (hp:gG mine b bw) (hO:Out (λc=>mine c\/c=b) w W) (e1:decide (lo<=y)=p) (e2:decide (y<=hi)=q) (hv:v=(wr || !(p&&q))) (hr:fn.results=#[]:=by rfl) (hd:a.defers=[]:=by rfl):bodyPost P fn (λe w'=>e=.returned (.tuple #[])/\Here F caps I bw b T cs (wr || !Re.inn y lo hi) xs w'/\Out (λc=>mine c\/c=b\/c=bw) w w') .normal a (W.setCell ⟨bw,1,none⟩ (.bool v)):=by
 refine bodyPost_end (results_none hr _ _ _) hd ⟨rfl,?_,Out.set (hO.mono λ_ _ q=>q.elim .inl λq => .inr (.inl q)) (.inr (.inr rfl)) _ _⟩;rw[show Re.inn y lo hi=(decide (lo<=y)&&decide (y<=hi))from rfl,e1,e2,<-hv];exact Here.held hA h hp _
abbrev yG(g:FuncId):Prop:=∀{F:FuncId} {caps:Array Value} {f:Nat->Int->Int} {mine:Nat->Prop} {I:List Int->World->Prop} (_:oQ F caps f mine I) {b o bw:Nat} {cs:Array Value} {T:TypeId} {wr:Bool} {x y:Int} {xs:List Int} {w:World}
 (_:Here F caps I bw b T cs wr xs w) (_:gG mine b bw) (_:xs.length<55) (_:cs[o]? = some (.int .i64 x)) (_:y=f xs.length x),
 Calls ja0 g #[bw,.pointer (some ⟨b,o,none⟩)] w λe w'=>e=.returned (.tuple #[])/\Here F caps I bw b T (cs.setIfInBounds o (.int .i64 y)) wr (xs++[x]) w'/\Out (λc=>mine c\/c=b) w w'
abbrev pX(g:FuncId):Prop:=∀{F:FuncId} {caps:Array Value} {f:Nat->Int->Int} {mine:Nat->Prop} {I:List Int->World->Prop} (_:oQ F caps f mine I) {b o bw:Nat} {cs:Array Value} {T:TypeId} {wr:Bool} {x y lo hi:Int} {xs:List Int} {w:World}
 (_:Here F caps I bw b T cs wr xs w) (_:gG mine b bw) (_:xs.length<55) (_:cs[o]? = some (.int .i64 x)) (_:y=f xs.length x),
 Calls ja0 g #[bw,.pointer (some ⟨b,o,none⟩),lo,hi] w λe w'=>e=.returned (.tuple #[])/\Here F caps I bw b T (cs.setIfInBounds o (.int .i64 y)) (wr || !Re.inn y lo hi) (xs++[x]) w'/\Out (λc=>mine c\/c=b\/c=bw) w w'
theorem Uf:yG 199:=by
 intro F caps f mine I hA b o bw cs T wr x y xs w h hp hx ho hy;subst hy;obtain⟨hI,a,aw⟩:=h;obtain⟨n1,n2,n3⟩:=hp;have cx:w.cell? ⟨b,o,none⟩=some (.int .i64 x):=(a.cell o).trans ho;have lb:=a.lt;obtain⟨lw,c0,c1⟩:=At.two aw;have hcf:=hA.enters;go_enter Tryz.func199,Tryz.ntmps199
 exact Z4
theorem Ug:yG 201:=by
 intro F caps f mine I hA b o bw cs T wr x y xs w h hp hx ho hy;subst hy;obtain⟨hI,a,aw⟩:=h;obtain⟨n1,n2,n3⟩:=hp;have cx:w.cell? ⟨b,o,none⟩=some (.int .i64 x):=(a.cell o).trans ho;have lb:=a.lt;obtain⟨lw,c0,c1⟩:=At.two aw;have hcf:=hA.enters;go_enter Tryz.func201,Tryz.ntmps201
 exact Z4
theorem Uh:yG 202:=by
 intro F caps f mine I hA b o bw cs T wr x y xs w h hp hx ho hy;subst hy;obtain⟨hI,a,aw⟩:=h;obtain⟨n1,n2,n3⟩:=hp;have cx:w.cell? ⟨b,o,none⟩=some (.int .i64 x):=(a.cell o).trans ho;have lb:=a.lt;obtain⟨lw,c0,c1⟩:=At.two aw;have hcf:=hA.enters;go_enter Tryz.func202,Tryz.ntmps202
 exact Z4
theorem Ui:yG 203:=by
 intro F caps f mine I hA b o bw cs T wr x y xs w h hp hx ho hy;subst hy;obtain⟨hI,a,aw⟩:=h;obtain⟨n1,n2,n3⟩:=hp;have cx:w.cell? ⟨b,o,none⟩=some (.int .i64 x):=(a.cell o).trans ho;have lb:=a.lt;obtain⟨lw,c0,c1⟩:=At.two aw;have hcf:=hA.enters;go_enter Tryz.func203,Tryz.ntmps203
 exact Z4
theorem Hl:yG 204:=by
 intro F caps f mine I hA b o bw cs T wr x y xs w h hp hx ho hy;subst hy;obtain⟨hI,a,aw⟩:=h;obtain⟨n1,n2,n3⟩:=hp;have cx:w.cell? ⟨b,o,none⟩=some (.int .i64 x):=(a.cell o).trans ho;have lb:=a.lt;obtain⟨lw,c0,c1⟩:=At.two aw;have hcf:=hA.enters;go_enter Tryz.func204,Tryz.ntmps204
 exact Z4
theorem Uj:yG 206:=by
 intro F caps f mine I hA b o bw cs T wr x y xs w h hp hx ho hy;subst hy;obtain⟨hI,a,aw⟩:=h;obtain⟨n1,n2,n3⟩:=hp;have cx:w.cell? ⟨b,o,none⟩=some (.int .i64 x):=(a.cell o).trans ho;have lb:=a.lt;obtain⟨lw,c0,c1⟩:=At.two aw;have hcf:=hA.enters;go_enter Tryz.func206,Tryz.ntmps206
 exact Z4
theorem Uk:yG 207:=by
 intro F caps f mine I hA b o bw cs T wr x y xs w h hp hx ho hy;subst hy;obtain⟨hI,a,aw⟩:=h;obtain⟨n1,n2,n3⟩:=hp;have cx:w.cell? ⟨b,o,none⟩=some (.int .i64 x):=(a.cell o).trans ho;have lb:=a.lt;obtain⟨lw,c0,c1⟩:=At.two aw;have hcf:=hA.enters;go_enter Tryz.func207,Tryz.ntmps207
 exact Z4
theorem Ul:yG 208:=by
 intro F caps f mine I hA b o bw cs T wr x y xs w h hp hx ho hy;subst hy;obtain⟨hI,a,aw⟩:=h;obtain⟨n1,n2,n3⟩:=hp;have cx:w.cell? ⟨b,o,none⟩=some (.int .i64 x):=(a.cell o).trans ho;have lb:=a.lt;obtain⟨lw,c0,c1⟩:=At.two aw;have hcf:=hA.enters;go_enter Tryz.func208,Tryz.ntmps208
 exact Z4
theorem Um:yG 209:=by
 intro F caps f mine I hA b o bw cs T wr x y xs w h hp hx ho hy;subst hy;obtain⟨hI,a,aw⟩:=h;obtain⟨n1,n2,n3⟩:=hp;have cx:w.cell? ⟨b,o,none⟩=some (.int .i64 x):=(a.cell o).trans ho;have lb:=a.lt;obtain⟨lw,c0,c1⟩:=At.two aw;have hcf:=hA.enters;go_enter Tryz.func209,Tryz.ntmps209
 exact Z4
theorem LY:pX 167:=by
 intro F caps f mine I hA b o bw cs T wr x y lo hi xs w h hp hx ho hy;have HY:=ah hy;have Pp:=ah (show(cs.setIfInBounds o (.int .i64 y))[o]? = some (.int .i64 y)by simp[(Array.getElem?_eq_some_iff.1 ho).1]);have HO:=ah ho;clear hy ho;cases e1:decide (lo<=y)<;>cases e2:decide (y<=hi)<;>(go_enter Tryz.func167,Tryz.ntmps167;go_wp2_with (first|(go_at_call 199;refine(Uf hA h hp hx HO.out HY.out).mono ?_;rintro e w1 ⟨rfl,h1',hO⟩;have KG:=(h1'.a.cell o).trans Pp.out)|(go_at_call 200;refine(lW h1'.w).mono ?_;rintro e w2 ⟨rfl,rfl⟩));exact jo hA h1' hp hO e1 e2 aW)
theorem LZ:pX 168:=by
 intro F caps f mine I hA b o bw cs T wr x y lo hi xs w h hp hx ho hy;have HY:=ah hy;have Pp:=ah (show(cs.setIfInBounds o (.int .i64 y))[o]? = some (.int .i64 y)by simp[(Array.getElem?_eq_some_iff.1 ho).1]);have HO:=ah ho;clear hy ho;cases e1:decide (lo<=y)<;>cases e2:decide (y<=hi)<;>(go_enter Tryz.func168,Tryz.ntmps168;go_wp2_with (first|(go_at_call 201;refine(Ug hA h hp hx HO.out HY.out).mono ?_;rintro e w1 ⟨rfl,h1',hO⟩;have KG:=(h1'.a.cell o).trans Pp.out)|(go_at_call 200;refine(lW h1'.w).mono ?_;rintro e w2 ⟨rfl,rfl⟩));exact jo hA h1' hp hO e1 e2 aW)
theorem L6:pX 169:=by
 intro F caps f mine I hA b o bw cs T wr x y lo hi xs w h hp hx ho hy;have HY:=ah hy;have Pp:=ah (show(cs.setIfInBounds o (.int .i64 y))[o]? = some (.int .i64 y)by simp[(Array.getElem?_eq_some_iff.1 ho).1]);have HO:=ah ho;clear hy ho;cases e1:decide (lo<=y)<;>cases e2:decide (y<=hi)<;>(go_enter Tryz.func169,Tryz.ntmps169;go_wp2_with (first|(go_at_call 202;refine(Uh hA h hp hx HO.out HY.out).mono ?_;rintro e w1 ⟨rfl,h1',hO⟩;have KG:=(h1'.a.cell o).trans Pp.out)|(go_at_call 200;refine(lW h1'.w).mono ?_;rintro e w2 ⟨rfl,rfl⟩));exact jo hA h1' hp hO e1 e2 aW)
theorem vE:pX 173:=by
 intro F caps f mine I hA b o bw cs T wr x y lo hi xs w h hp hx ho hy;have HY:=ah hy;have Pp:=ah (show(cs.setIfInBounds o (.int .i64 y))[o]? = some (.int .i64 y)by simp[(Array.getElem?_eq_some_iff.1 ho).1]);have HO:=ah ho;clear hy ho;cases e1:decide (lo<=y)<;>cases e2:decide (y<=hi)<;>(go_enter Tryz.func173,Tryz.ntmps173;go_wp2_with (first|(go_at_call 204;refine(Hl hA h hp hx HO.out HY.out).mono ?_;rintro e w1 ⟨rfl,h1',hO⟩;have KG:=(h1'.a.cell o).trans Pp.out)|(go_at_call 200;refine(lW h1'.w).mono ?_;rintro e w2 ⟨rfl,rfl⟩));exact jo hA h1' hp hO e1 e2 aW)
theorem L8:pX 174:=by
 intro F caps f mine I hA b o bw cs T wr x y lo hi xs w h hp hx ho hy;have HY:=ah hy;have Pp:=ah (show(cs.setIfInBounds o (.int .i64 y))[o]? = some (.int .i64 y)by simp[(Array.getElem?_eq_some_iff.1 ho).1]);have HO:=ah ho;clear hy ho;cases e1:decide (lo<=y)<;>cases e2:decide (y<=hi)<;>(go_enter Tryz.func174,Tryz.ntmps174;go_wp2_with (first|(go_at_call 206;refine(Uj hA h hp hx HO.out HY.out).mono ?_;rintro e w1 ⟨rfl,h1',hO⟩;have KG:=(h1'.a.cell o).trans Pp.out)|(go_at_call 200;refine(lW h1'.w).mono ?_;rintro e w2 ⟨rfl,rfl⟩));exact jo hA h1' hp hO e1 e2 aW)
theorem L9:pX 175:=by
 intro F caps f mine I hA b o bw cs T wr x y lo hi xs w h hp hx ho hy;have HY:=ah hy;have Pp:=ah (show(cs.setIfInBounds o (.int .i64 y))[o]? = some (.int .i64 y)by simp[(Array.getElem?_eq_some_iff.1 ho).1]);have HO:=ah ho;clear hy ho;cases e1:decide (lo<=y)<;>cases e2:decide (y<=hi)<;>(go_enter Tryz.func175,Tryz.ntmps175;go_wp2_with (first|(go_at_call 207;refine(Uk hA h hp hx HO.out HY.out).mono ?_;rintro e w1 ⟨rfl,h1',hO⟩;have KG:=(h1'.a.cell o).trans Pp.out)|(go_at_call 200;refine(lW h1'.w).mono ?_;rintro e w2 ⟨rfl,rfl⟩));exact jo hA h1' hp hO e1 e2 aW)
theorem Ma:pX 177:=by
 intro F caps f mine I hA b o bw cs T wr x y lo hi xs w h hp hx ho hy;have HY:=ah hy;have Pp:=ah (show(cs.setIfInBounds o (.int .i64 y))[o]? = some (.int .i64 y)by simp[(Array.getElem?_eq_some_iff.1 ho).1]);have HO:=ah ho;clear hy ho;cases e1:decide (lo<=y)<;>cases e2:decide (y<=hi)<;>(go_enter Tryz.func177,Tryz.ntmps177;go_wp2_with (first|(go_at_call 208;refine(Ul hA h hp hx HO.out HY.out).mono ?_;rintro e w1 ⟨rfl,h1',hO⟩;have KG:=(h1'.a.cell o).trans Pp.out)|(go_at_call 200;refine(lW h1'.w).mono ?_;rintro e w2 ⟨rfl,rfl⟩));exact jo hA h1' hp hO e1 e2 aW)
theorem Mc:pX 178:=by
 intro F caps f mine I hA b o bw cs T wr x y lo hi xs w h hp hx ho hy;have HY:=ah hy;have Pp:=ah (show(cs.setIfInBounds o (.int .i64 y))[o]? = some (.int .i64 y)by simp[(Array.getElem?_eq_some_iff.1 ho).1]);have HO:=ah ho;clear hy ho;cases e1:decide (lo<=y)<;>cases e2:decide (y<=hi)<;>(go_enter Tryz.func178,Tryz.ntmps178;go_wp2_with (first|(go_at_call 209;refine(Um hA h hp hx HO.out HY.out).mono ?_;rintro e w1 ⟨rfl,h1',hO⟩;have KG:=(h1'.a.cell o).trans Pp.out)|(go_at_call 200;refine(lW h1'.w).mono ?_;rintro e w2 ⟨rfl,rfl⟩));exact jo hA h1' hp hO e1 e2 aW)
theorem Md(hA:oQ F caps f mine I){b o bw:Nat}{x x2 y y2:Int}
  (h:Here F caps I bw b T cs wr xs w) (hp:gG mine b bw) (hx:xs.length+1<55) (ho:cs[o]? = some (.int .i64 x)) (ho2:cs[o+1]? = some (.int .i64 x2)) (hy:y=f xs.length x) (hy2:y2=f (xs.length+1) x2) :
  Calls ja0 170 #[bw,.pointer (some ⟨b,o,none⟩)] w λe w'=>e=.returned (.tuple #[])/\Here F caps I bw b T ((cs.setIfInBounds o (.int .i64 y)).setIfInBounds (o+1) (.int .i64 y2)) (wr || !Fx.valid y y2) (xs++[x]++[x2]) w'/\Out (λc=>mine c\/c=b\/c=bw) w w':=by
 have HY:=ah hy;have HY2:=ah hy2;clear hy hy2;have hlt:o<cs.size:=(Array.getElem?_eq_some_iff.1 ho).1;have hlt2:o+1<cs.size:=(Array.getElem?_eq_some_iff.1 ho2).1;have HO:=ah ho;have HO2:=ah (show(cs.setIfInBounds o (.int .i64 y))[o+1]? = some (.int .i64 x2)by rw[Array.getElem?_setIfInBounds,if_neg ak];exact ho2);have G1:=ah (show((cs.setIfInBounds o (.int .i64 y)).setIfInBounds (o+1) (.int .i64 y2))[o]? = some (.int .i64 y)by rw[Array.getElem?_setIfInBounds,if_neg ak,Array.getElem?_setIfInBounds,if_pos rfl,if_pos hlt]);have G2:=ah (show((cs.setIfInBounds o (.int .i64 y)).setIfInBounds (o+1) (.int .i64 y2))[o+1]? = some (.int .i64 y2)by rw[Array.getElem?_setIfInBounds,if_pos rfl,Array.size_setIfInBounds,if_pos hlt2]);have HX:=ah hx;have hx0:xs.length<55:=by omega
 clear ho ho2 hx;go_enter Tryz.func170,Tryz.ntmps170
 go_wp2_with (first|(go_at_call 203;refine(Ui hA h hp hx0 HO.out HY.out).mono ?_;rintro e w1 ⟨rfl,h1,gJ⟩)|(go_at_call 204;refine(Hl hA h1 hp (by simp;exact HX.out) HO2.out (by simpa using HY2.out)).mono ?_;rintro e w2 ⟨rfl,h2,hO2⟩;have d1:=(h2.a.cell o).trans G1.out;have d2:=(h2.a.cell (o+1)).trans G2.out)|(go_at_call 205;refine(TL _ _ _).mono ?_;rintro e w3 ⟨rfl,hb3⟩;have h3:=Here.keep hA h2 hb3)|(go_at_call 200;refine(lW h3.w).mono ?_;rintro e w2 ⟨rfl,rfl⟩))
 refine bodyPost_end (results_none rfl _ _ _) rfl ⟨rfl,?_,Out.set (((gJ.trans hO2).trans (Out.of_below hb3)).mono λ_ _ q=>q.elim .inl λq => .inr (.inl q)) (.inr (.inr rfl)) _ _⟩;exact Here.held hA h3 hp _
def On(F:FuncId)(caps:Array Value)(f:Nat->Int->Int)(I:List Int->World->Prop)(bw bs:Nat)(t:Re.St)(k:Nat)(wr:Bool)(W:World):Prop:=Here F caps I bw bs 68 (cells (mix f t k)) wr (ins t k) W
theorem abr(hA:oQ F caps f mine I)(h:On F caps f I bw bs t k wr w)(hp:gG mine bs bw)(hk:k<55)(hb:Re.rW k=false) :
  Calls ja0 167 #[bw,.pointer (some ⟨bs,k,none⟩),lo,hi] w λe w'=>e=.returned (.tuple #[])/\On F caps f I bw bs t (k+1) (wr || !Re.inn (f k (Re.num t k)) lo hi) w'/\Out (λc=>mine c\/c=bs\/c=bw) w w':=by
 refine(LY hA h hp Z49 (x:=t.c k) Z40 rfl).mono ?_;exact Zq
theorem abt(hA:oQ F caps f mine I)(h:On F caps f I bw bs t k wr w)(hp:gG mine bs bw)(hk:k<55)(hb:Re.rW k=false) :
  Calls ja0 168 #[bw,.pointer (some ⟨bs,k,none⟩),lo,hi] w λe w'=>e=.returned (.tuple #[])/\On F caps f I bw bs t (k+1) (wr || !Re.inn (f k (Re.num t k)) lo hi) w'/\Out (λc=>mine c\/c=bs\/c=bw) w w':=by
 refine(LZ hA h hp Z49 (x:=t.c k) Z40 rfl).mono ?_;exact Zq
theorem abu(hA:oQ F caps f mine I)(h:On F caps f I bw bs t k wr w)(hp:gG mine bs bw)(hk:k<55)(hb:Re.rW k=false) :
  Calls ja0 169 #[bw,.pointer (some ⟨bs,k,none⟩),lo,hi] w λe w'=>e=.returned (.tuple #[])/\On F caps f I bw bs t (k+1) (wr || !Re.inn (f k (Re.num t k)) lo hi) w'/\Out (λc=>mine c\/c=bs\/c=bw) w w':=by
 refine(L6 hA h hp Z49 (x:=t.c k) Z40 rfl).mono ?_;exact Zq
theorem yt(hA:oQ F caps f mine I)(h:On F caps f I bw bs t k wr w)(hp:gG mine bs bw)(hk:k<55)(hb:Re.rW k=false) :
  Calls ja0 173 #[bw,.pointer (some ⟨bs,k,none⟩),lo,hi] w λe w'=>e=.returned (.tuple #[])/\On F caps f I bw bs t (k+1) (wr || !Re.inn (f k (Re.num t k)) lo hi) w'/\Out (λc=>mine c\/c=bs\/c=bw) w w':=by
 refine(vE hA h hp Z49 (x:=t.c k) Z40 rfl).mono ?_;exact Zq
theorem abv(hA:oQ F caps f mine I)(h:On F caps f I bw bs t k wr w)(hp:gG mine bs bw)(hk:k<55)(hb:Re.rW k=false) :
  Calls ja0 174 #[bw,.pointer (some ⟨bs,k,none⟩),lo,hi] w λe w'=>e=.returned (.tuple #[])/\On F caps f I bw bs t (k+1) (wr || !Re.inn (f k (Re.num t k)) lo hi) w'/\Out (λc=>mine c\/c=bs\/c=bw) w w':=by
 refine(L8 hA h hp Z49 (x:=t.c k) Z40 rfl).mono ?_;exact Zq
theorem abw(hA:oQ F caps f mine I)(h:On F caps f I bw bs t k wr w)(hp:gG mine bs bw)(hk:k<55)(hb:Re.rW k=false) :
  Calls ja0 175 #[bw,.pointer (some ⟨bs,k,none⟩),lo,hi] w λe w'=>e=.returned (.tuple #[])/\On F caps f I bw bs t (k+1) (wr || !Re.inn (f k (Re.num t k)) lo hi) w'/\Out (λc=>mine c\/c=bs\/c=bw) w w':=by
 refine(L9 hA h hp Z49 (x:=t.c k) Z40 rfl).mono ?_;exact Zq
theorem abx(hA:oQ F caps f mine I)(h:On F caps f I bw bs t k wr w)(hp:gG mine bs bw)(hk:k<55)(hb:Re.rW k=false) :
  Calls ja0 177 #[bw,.pointer (some ⟨bs,k,none⟩),lo,hi] w λe w'=>e=.returned (.tuple #[])/\On F caps f I bw bs t (k+1) (wr || !Re.inn (f k (Re.num t k)) lo hi) w'/\Out (λc=>mine c\/c=bs\/c=bw) w w':=by
 refine(Ma hA h hp Z49 (x:=t.c k) Z40 rfl).mono ?_;exact Zq
theorem aby(hA:oQ F caps f mine I)(h:On F caps f I bw bs t k wr w)(hp:gG mine bs bw)(hk:k<55)(hb:Re.rW k=false) :
  Calls ja0 178 #[bw,.pointer (some ⟨bs,k,none⟩),lo,hi] w λe w'=>e=.returned (.tuple #[])/\On F caps f I bw bs t (k+1) (wr || !Re.inn (f k (Re.num t k)) lo hi) w'/\Out (λc=>mine c\/c=bs\/c=bw) w w':=by
 refine(Mc hA h hp Z49 (x:=t.c k) Z40 rfl).mono ?_;exact Zq
theorem qP(hA:oQ F caps f mine I)(h:On F caps f I bw bs t k wr w)(hp:gG mine bs bw)(hk:k+1<55)(hb:Re.rW k=false)(hb2:Re.rW (k+1)=false) :
  Calls ja0 170 #[bw,.pointer (some ⟨bs,k,none⟩)] w λe w'=>e=.returned (.tuple #[])/\On F caps f I bw bs t (k+1+1) (wr || !Fx.valid (f k (Re.num t k)) (f (k+1) (Re.num t (k+1)))) w'/\Out (λc=>mine c\/c=bs\/c=bw) w w':=by
 refine(Md hA h hp Z49 (x:=t.c k) (x2:=t.c (k+1)) (by rw[bJ _ ak hb,OB f t (aH k)]) (by rw[bJ _ hk hb2,OB f t ak]) rfl rfl).mono ?_;rintro e w' ⟨rfl,h1,hO⟩;rw[sG,uR f t hb,uR f t hb2,<-Re.KP hb,<-Re.KP hb2,<-yu,<-yu]at h1;exact⟨rfl,h1,hO⟩
def Of3(mine:Nat->Prop)(bs bw:Nat):Nat->Prop:=λc=>mine c\/c=bs\/c=bw
theorem Out.trans'{M M':Nat->Prop}{X Y Z:World}(h:Out M X Y)(k:Out M' Y Z)(hm:∀b,b<X.heap.size->M' b->M b):Out M X Z:=⟨h.1.trans k.1,λb hb hn=>(k.2 b (aT hb h.size) (λq=>hn (hm b hb q))).trans (h.2 b hb hn)⟩
theorem FZ(hA:oQ F caps f mine I)(h:On F caps f I bw bs t k wr w)(hp:gG mine bs bw)(hm:∀b,w.heap.size<=b->¬ mine b)(hk:k<55)(hb:Re.rW k=true) :
  Calls ja0 176 #[bw,.pointer (some ⟨bs,k,none⟩)] w λe w'=>e=.returned (.tuple #[])/\On F caps f I bw bs t (k+1) (wr || !Re.inn (f k (Re.num t k)) 0 1) w'/\Out (Of3 mine bs bw) w w':=by
 obtain⟨hI,a,aw⟩:=h;have ck:w.cell? ⟨bs,k,none⟩=some (.bool (t.b k)):=(a.cell k).trans (by rw[sO _ hk hb,Jm f t (aH k)]);have lb:=a.lt;have lw:=aw.lt;have hn:Re.num t k=if t.b k=true then 1 else 0:=by unfold Re.num;rw[if_pos hb]
 have HN:=ah hn;obtain⟨y,hy⟩:∃y,y=f k (Re.num t k):=⟨_,rfl⟩;have HY:=ah hy;obtain⟨q,hq⟩:∃q,q=t.b k:=⟨_,rfl⟩;rw[<-hq]at ck hn;have HQ:=ah hq;clear hy hn hq;have HK:=ah hk;have HB:=ah hb;clear hk hb;have hp2:gG mine w.heap.size bw:=⟨hm _ aC,hp.nw,by omega⟩;have hne:bs≠w.heap.size:=by omega
 cases q
 . have hx:Re.num t k=0:=by rw[HN.out,<-HQ.out];rfl
   have HX:=ah hx;clear hx;go_enter Tryz.func176,Tryz.ntmps176
   go_wp2_with (go_at_call 173;(with_reducible refine(vE (y:=y) hA (⟨hA.keep _ _ _ hI (aB aD _),At.new _ _,aw.alloc _⟩:Here F caps I bw w.heap.size 3 #[()] wr (ins t k) _) hp2 (by rw[sG];exact HK.out) rfl (by rw[sG,<-HX.out];exact HY.out)).mono ?_);rintro e w2 ⟨rfl,h2,hO2⟩;have a2:=At.out (a.alloc _) (λq=>q.elim hp.nb λq=>q.elim hne hp.ne) hO2;have c2:w2.cell? ⟨w,0,none⟩=some (.int .i64 y):=(h2.a.cell 0).trans rfl;have ck2:w2.cell? ⟨bs,k,none⟩=some (.bool false):=(a2.cell k).trans (by rw[sO _ HK.out HB.out,Jm f t (aH k),<-HQ.out]);have z2:=a2.thaw k)
   exact Z15
 . have hx:Re.num t k=1:=by rw[HN.out,<-HQ.out];rfl
   have HX:=ah hx;clear hx;go_enter Tryz.func176,Tryz.ntmps176
   go_wp2_with (go_at_call 173;(with_reducible refine(vE (y:=y) hA (⟨hA.keep _ _ _ hI (aB aD _),At.new _ _,aw.alloc _⟩:Here F caps I bw w.heap.size 3 #[.int .i64 1] wr (ins t k) _) hp2 (by rw[sG];exact HK.out) rfl (by rw[sG,<-HX.out];exact HY.out)).mono ?_);rintro e w2 ⟨rfl,h2,hO2⟩;have a2:=At.out (a.alloc _) (λq=>q.elim hp.nb λq=>q.elim hne hp.ne) hO2;have c2:w2.cell? ⟨w,0,none⟩=some (.int .i64 y):=(h2.a.cell 0).trans rfl;have ck2:w2.cell? ⟨bs,k,none⟩=some (.bool true):=(a2.cell k).trans (by rw[sO _ HK.out HB.out,Jm f t (aH k),<-HQ.out]);have z2:=a2.thaw k)
   exact Z15
theorem DY(hA:oQ F caps f mine I){bs bw:Nat}(h:On F caps f I bw bs t 15 wr w)(hp:gG mine bs bw) :
  Calls ja0 171 #[bw,.pointer (some ⟨bs,15,none⟩)] w λe w'=>e=.returned (.tuple #[])/\On F caps f I bw bs t (15+8) ((((wr || !Fx.valid (f 15 (Re.num t 15)) (f (15+1) (Re.num t (15+1)))) || !Fx.valid (f (15+2) (Re.num t (15+2))) (f (15+3) (Re.num t (15+3)))) || !Fx.valid (f (15+4) (Re.num t (15+4))) (f (15+5) (Re.num t (15+5)))) || !Fx.valid (f (15+6) (Re.num t (15+6))) (f (15+7) (Re.num t (15+7)))) w'/\Out (Of3 mine bs bw) w w':=by
 exact Zi
theorem DZ(hA:oQ F caps f mine I){bs bw:Nat}(h:On F caps f I bw bs t 23 wr w)(hp:gG mine bs bw) :
  Calls ja0 171 #[bw,.pointer (some ⟨bs,23,none⟩)] w λe w'=>e=.returned (.tuple #[])/\On F caps f I bw bs t (23+8) ((((wr || !Fx.valid (f 23 (Re.num t 23)) (f (23+1) (Re.num t (23+1)))) || !Fx.valid (f (23+2) (Re.num t (23+2))) (f (23+3) (Re.num t (23+3)))) || !Fx.valid (f (23+4) (Re.num t (23+4))) (f (23+5) (Re.num t (23+5)))) || !Fx.valid (f (23+6) (Re.num t (23+6))) (f (23+7) (Re.num t (23+7)))) w'/\Out (Of3 mine bs bw) w w':=by
 exact Zi
theorem BO(hA:oQ F caps f mine I){bs bw:Nat}(h:On F caps f I bw bs t 31 wr w)(hp:gG mine bs bw) :
  Calls ja0 172 #[bw,.pointer (some ⟨bs,31,none⟩)] w λe w'=>e=.returned (.tuple #[])/\On F caps f I bw bs t (31+4) ((((wr || !Re.inn (f 31 (Re.num t 31)) 0 1048576) || !Re.inn (f (31+1) (Re.num t (31+1))) 0 1048576) || !Re.inn (f (31+2) (Re.num t (31+2))) 0 1048576) || !Re.inn (f (31+3) (Re.num t (31+3))) 0 1048576) w'/\Out (Of3 mine bs bw) w w':=by
 exact Zl
theorem BP(hA:oQ F caps f mine I){bs bw:Nat}(h:On F caps f I bw bs t 35 wr w)(hp:gG mine bs bw) :
  Calls ja0 172 #[bw,.pointer (some ⟨bs,35,none⟩)] w λe w'=>e=.returned (.tuple #[])/\On F caps f I bw bs t (35+4) ((((wr || !Re.inn (f 35 (Re.num t 35)) 0 1048576) || !Re.inn (f (35+1) (Re.num t (35+1))) 0 1048576) || !Re.inn (f (35+2) (Re.num t (35+2))) 0 1048576) || !Re.inn (f (35+3) (Re.num t (35+3))) 0 1048576) w'/\Out (Of3 mine bs bw) w w':=by
 exact Zl
def zU(n:Nat->Int):Bool:=((((((((((((((((((((((((((((((((((((((((false || !Re.inn (n 0) 0 3) || !Re.inn (n 1) 0 4) || !Re.inn (n 2) 0 2) || !Fx.valid (n 3) (n 4)) || !Fx.valid (n 5) (n 6)) || !Fx.valid (n 7) (n 8)) || !Fx.valid (n 9) (n 10)) || !Fx.valid (n 11) (n 12)) || !Fx.valid (n 13) (n 14)) || !Fx.valid (n 15) (n 16)) || !Fx.valid (n 17) (n 18)) || !Fx.valid (n 19) (n 20)) || !Fx.valid (n 21) (n 22)) || !Fx.valid (n 23) (n 24)) || !Fx.valid (n 25) (n 26)) || !Fx.valid (n 27) (n 28)) || !Fx.valid (n 29) (n 30)) || !Re.inn (n 31) 0 1048576) || !Re.inn (n 32) 0 1048576) || !Re.inn (n 33) 0 1048576) || !Re.inn (n 34) 0 1048576) || !Re.inn (n 35) 0 1048576) || !Re.inn (n 36) 0 1048576) || !Re.inn (n 37) 0 1048576) || !Re.inn (n 38) 0 1048576) || !Re.inn (n 39) 0 1000) || !Re.inn (n 40) 0 1000) || !Fx.valid (n 41) (n 42)) || !Re.inn (n 43) 0 5) || !Re.inn (n 44) 0 3) || !Re.inn (n 45) 0 1) || !Re.inn (n 46) 0 1048576) || !Re.inn (n 47) 0 1) || !Re.inn (n 48) (-1048576) 1048576) || !Re.inn (n 49) 0 2) || !Re.inn (n 50) 0 3) || !Re.inn (n 51) 0 1) || !Re.inn (n 52) 0 1) || !Re.inn (n 53) 0 1048576) || !Re.inn (n 54) 0 1048576)
theorem Jv(n:Nat->Int)(b:Nat->Bool):(!zU n)=(Re.valid ⟨n,b⟩&&(Re.inn (n 45) 0 1&&Re.inn (n 47) 0 1&&Re.inn (n 51) 0 1&&Re.inn (n 52) 0 1)):=by
 unfold zU Re.valid Re.fV Re.K6 Re.Dj Re.lens Re.sizes;simp only[Bool.not_or,Bool.not_not,Bool.not_false,Bool.true_and,List.all_cons,List.all_nil,Bool.and_true,Nat.reduceAdd]
 ac_rfl
theorem F3(hA:oQ F caps f mine I){bs bw:Nat}(hS:On F caps f I bw bs t 0 false w)(hp:gG mine bs bw)(hm:∀b,w.heap.size<=b->¬ mine b) :
  Calls ja0 133 #[bw,bs] w λe w'=>e=.returned (.tuple #[])/\On F caps f I bw bs t 55 (zU λi=>f i (Re.num t i)) w'/\Out (Of3 mine bs bw) w w':=by
 have hO:Out (Of3 mine bs bw) w w:=Out.refl _ _;go_enter Tryz.func133,Tryz.ntmps133
 go_wp2_with (first|(go_at_call 167;(with_reducible refine(abr hA hS hp aG rfl).mono ?_);rintro e w1 ⟨rfl,h1,gJ⟩;replace hO:=hO.trans gJ;replace hS:=h1;clear h1 gJ;simp only[Nat.reduceAdd]at hS)|(go_at_call 168;(with_reducible refine(abt hA hS hp aG rfl).mono ?_);rintro e w1 ⟨rfl,h1,gJ⟩;replace hO:=hO.trans gJ;replace hS:=h1;clear h1 gJ;simp only[Nat.reduceAdd]at hS)|(go_at_call 169;(with_reducible refine(abu hA hS hp aG rfl).mono ?_);rintro e w1 ⟨rfl,h1,gJ⟩;replace hO:=hO.trans gJ;replace hS:=h1;clear h1 gJ;simp only[Nat.reduceAdd]at hS)|(go_at_call 170;(with_reducible refine(qP hA hS hp aG rfl rfl).mono ?_);rintro e w1 ⟨rfl,h1,gJ⟩;replace hO:=hO.trans gJ;replace hS:=h1;clear h1 gJ;simp only[Nat.reduceAdd]at hS)|(go_at_call 171;(with_reducible refine(DY hA hS hp).mono ?_);rintro e w1 ⟨rfl,h1,gJ⟩;replace hO:=hO.trans gJ;replace hS:=h1;clear h1 gJ;simp only[Nat.reduceAdd]at hS)|(go_at_call 171;(with_reducible refine(DZ hA hS hp).mono ?_);rintro e w1 ⟨rfl,h1,gJ⟩;replace hO:=hO.trans gJ;replace hS:=h1;clear h1 gJ;simp only[Nat.reduceAdd]at hS)|(go_at_call 172;(with_reducible refine(BO hA hS hp).mono ?_);rintro e w1 ⟨rfl,h1,gJ⟩;replace hO:=hO.trans gJ;replace hS:=h1;clear h1 gJ;simp only[Nat.reduceAdd]at hS)|(go_at_call 172;(with_reducible refine(BP hA hS hp).mono ?_);rintro e w1 ⟨rfl,h1,gJ⟩;replace hO:=hO.trans gJ;replace hS:=h1;clear h1 gJ;simp only[Nat.reduceAdd]at hS)|(go_at_call 173;(with_reducible refine(yt hA hS hp aG rfl).mono ?_);rintro e w1 ⟨rfl,h1,gJ⟩;replace hO:=hO.trans gJ;replace hS:=h1;clear h1 gJ;simp only[Nat.reduceAdd]at hS)|(go_at_call 174;(with_reducible refine(abv hA hS hp aG rfl).mono ?_);rintro e w1 ⟨rfl,h1,gJ⟩;replace hO:=hO.trans gJ;replace hS:=h1;clear h1 gJ;simp only[Nat.reduceAdd]at hS)|(go_at_call 175;(with_reducible refine(abw hA hS hp aG rfl).mono ?_);rintro e w1 ⟨rfl,h1,gJ⟩;replace hO:=hO.trans gJ;replace hS:=h1;clear h1 gJ;simp only[Nat.reduceAdd]at hS)|(go_at_call 176;(with_reducible refine(FZ hA hS hp (λb hb=>hm b (aJ hO.size hb)) aG rfl).mono ?_);rintro e w1 ⟨rfl,h1,gJ⟩;replace hO:=hO.trans gJ;replace hS:=h1;clear h1 gJ;simp only[Nat.reduceAdd]at hS)|(go_at_call 177;(with_reducible refine(abx hA hS hp aG rfl).mono ?_);rintro e w1 ⟨rfl,h1,gJ⟩;replace hO:=hO.trans gJ;replace hS:=h1;clear h1 gJ;simp only[Nat.reduceAdd]at hS)|(go_at_call 178;(with_reducible refine(aby hA hS hp aG rfl).mono ?_);rintro e w1 ⟨rfl,h1,gJ⟩;replace hO:=hO.trans gJ;replace hS:=h1;clear h1 gJ;simp only[Nat.reduceAdd]at hS))
 go_end0
 exact⟨rfl,hS,hO⟩
theorem Me(hA:oQ F caps f mine I){bs:Nat}(hI:I [] w)(a:At w bs (.cells (cells t) 68))(hb:¬ mine bs)(hm:∀b,w.heap.size<=b->¬ mine b) :
  Calls ja0 100 #[bs,.func (.func F) #[] caps] w λe w'=>e=.returned (.bool (!zU λi=>f i (Re.num t i)))/\I (ins t 55) w'/\At w' bs (.cells (cells (mix f t 55)) 68)/\Out (λc=>mine c\/c=bs) w w':=by
 have lb:=a.lt;have hp:gG mine bs w.heap.size:=⟨hb,hm _ aC,by omega⟩;have hS0:On F caps f I w.heap.size bs t 0 false (w.alloc (.cells #[.func (.func F) #[] caps,false] 215)):=⟨hA.keep _ _ _ hI (aB aD _),by rw[Xj];exact a.alloc _,At.new _ _⟩;generalize hr:(zU λi=>f i (Re.num t i))=r;go_enter Tryz.func100,Tryz.ntmps100
 go_wp2_with (go_at_call 133;(with_reducible refine(F3 hA hS0 hp (λb hb=>hm b (by simp at hb;omega))).mono ?_);rintro e w2 ⟨rfl,hS,hO⟩;rw[hr]at hS;have c1:=hS.w.cell 1;simp at c1)
 go_ret
 exact⟨rfl,hS.i,hS.a,Out.trans' (Out.of_below (aB aD _)) hO λb hb q=>q.elim .inl λq=>q.elim .inr λq=>absurd q (dX hb)⟩
theorem Pq:oQ 101 #[] (λ_ x=>x) (λ_=>False) (λ_ _=>True) where
 keep:=λ_ _ _ _ _=>trivial
 set:=λ_ _ _ _ _ _ _=>trivial
 enters:=λ_ _=>rfl
 call:=λxs x W _ _=>by
  show Calls ja0 101 #[x] W _;go_enter Tryz.func101,Tryz.ntmps101
  go_wp2
  go_ret
  exact⟨rfl,trivial,Out.refl _ _⟩
theorem Jw(t:Re.St):(!zU λi=>Re.num t i)=Re.valid t:=by
 rw[Jv _ t.b]
 have hb:∀i,Re.rW i=true->Re.inn (Re.num t i) 0 1=true:=λi hi=>by
  rw[Re.Rk];unfold Re.num;rw[if_pos hi];split<;>omega
 rw[hb 45 rfl,hb 47 rfl,hb 51 rfl,hb 52 rfl];simp only[Bool.and_true]
 exact Re.OG λi hi=>by
  by_cases e:Re.rW i=true
  . rw[if_pos e]
  . rw[if_neg e];exact Re.KP (by simpa using e)
theorem Jy(t:Re.St)(w:World):Calls ja0 68 #[.agg (cells t)] w λe w'=>e=.returned (.bool (Re.valid t))/\Below w w w':=by
 generalize hr:Re.valid t=r;rw[<-Jw]at hr;go_enter Tryz.func68,Tryz.ntmps68
 go_wp2_with (go_at_call 100;(with_reducible refine(Me Pq trivial (At.new _ _) (λq=>q) (λ_ _ q=>q)).mono ?_);rintro e w2 ⟨rfl,_,_,hO⟩;rw[hr])
 go_ret
 exact⟨rfl,(aB aD _).trans (hO.below aW λb hb q=>q.elim id (dX hb))⟩
end Go.Proofs.YtdnggaapcgomhaaGreat.Fix
