/- Proved here: what functions of the program do, in plain numbers (part 38); no conditions but those in sight. -/
import Derived.Test.YtcbcfdihofclkaaGreatQK
import Derived.Test.YtcbcfdihofclkaaGreatQ08
import Derived.Test.YtcbcfdihofclkaaGreatQ37
set_option linter.unusedVariables false
set_option linter.unusedSimpArgs false
set_option linter.unusedSectionVars false
set_option maxRecDepth 100000
namespace Go.Proofs.YtcbcfdihofclkaaGreat.Fix
open Go.ChangeShapes Go.WideShapes Go.ChangeAt Go.RowKit Go.Deep Go.Joins Go.Shelf
def fU(u:Int)(v:Value)(s:Re.St):Array Value:=#[.bool true,.int .i64 u,v]++cells s
def jA:Array Value:=#[.bool false,.int .i64 0,.slice none 0 0]++cells Re.zero
theorem AF(u:Int)(v:Value)(s:Re.St):(fU u v s).size=58:=by simp[fU,bC]
theorem oq:jA.size=58:=by simp[jA,bC]
theorem Em(u:Int)(v:Value)(s:Re.St){j:Nat}(h:j<55):(fU u v s)[3+j]? = some (cell s j):=by
 unfold fU;rw[Array.getElem?_append_right eY,show 3+j-(#[Value.bool true,Value.int .i64 u,v]:Array Value).size=j by simp,iB s h]
theorem ou(u:Int)(v:Value)(s:Re.St){j:Nat}(h:j<3):(fU u v s)[j]? = (#[Value.bool true,Value.int .i64 u,v]:Array Value)[j]? := by
 unfold fU;rw[Array.getElem?_append_left (by simpa using h)]
theorem Ck(u:Int)(W:World):(Instr.build 180 #[(0,.bool true),(1,.int .i64 u)]).run Tryz.prog W=.ok (.agg (fU u (.slice none 0 0) Re.zero)) W:=by kernel_rfl
theorem vQ(W:World):(Instr.build 180 #[]).run Tryz.prog W=.ok (.agg jA) W:=by kernel_rfl
theorem LY(A:Option Addr)(n c:Nat)(W:World):(Instr.build 183 #[(0,.slice A n c)]).run Tryz.prog W=.ok (.agg #[.slice A n c]) W:=by kernel_rfl
theorem LZ(W:World):(Instr.buildSlice 181 1 #[(0,.agg (fU (-1) (.slice none 0 0) Re.zero))]).run Tryz.prog W=.ok (.slice (some ⟨W.heap.size,0,none⟩) 1 1) (W.alloc (.cells (fU (-1) (.slice none 0 0) Re.zero) 180)):=by kernel_rfl
theorem AJ(W:World):(Instr.buildSlice 181 1 #[(0,.agg jA)]).run Tryz.prog W=.ok (.slice (some ⟨W.heap.size,0,none⟩) 1 1) (W.alloc (.cells jA 180)):=by kernel_rfl
theorem wpList_buildSlice{ops:Array Oper}{rest:List Oper}{o:Oper}{a:Act}{w w':World}{Q:Exit->Act->World->Prop}(hw:Region.wanted o (yielded ops a.tmps)=true)(t:TypeId)(n:Nat)(ps:Array (Nat×Operand))(ho:o.op=.buildSlice t n ps){v:Value}(qs:Array (Nat×Value))(hq:(ps.map λp=>(p.1,a.eval p.2))=qs)
  (hrun:(Instr.buildSlice t n qs).run Tryz.prog w=.ok v w') (h:wpList Tryz.prog ops Q rest (a.put o.dst v) w'):wpList Tryz.prog ops Q (o::rest) a w :=
 dY hw (by unfold execOp;simp only[ho,hq,Sem.run_bind,hrun,Result.andThen_ok,Sem.run_pure]) h
structure Place(cur:Array Value)(i:Nat)(v:Value)(o:Option Tr.Nd):Prop where
 live:cur[i*58]? = some (.bool o.isSome)
 up:∀nd,o=some nd->cur[i*58+1]? = some (.int .i64 nd.up)
 kids:∀nd,o=some nd->cur[i*58+2]? = some v
 sty:∀nd,o=some nd->∀j,j<55->cur[i*58+3+j]? = some (cell nd.sty j)
structure Doc(W:World)(r g c m:Nat)(K:Int->Value)(T:Tr.T):Prop where
 at_:At W r (.cells #[.slice (some ⟨g,0,none⟩) m c] 183)
 cur:∃cur:Array Value,At W g (.cells cur 180)/\cur.size=c*58/\∀i:Nat,i<m->Place cur i (K i) (T i)
 cap:m<=c
 lim:c<=maxLen
 row:∀z nd,T z=some nd->KS W (K z) nd.kids
 range:∀z nd,T z=some nd->0<=z/\z<m
 small:m<=4096
def jq(r g:Nat)(K:Int->Value)(T:Tr.T)(b:Nat):Prop:=b=r\/b=g\/∃z nd,T z=some nd/\(K z).ownBlock=some b
section
variable {W W':World} {r g c m:Nat} {K:Int->Value} {T:Tr.T}
theorem Doc.out{M:Nat->Prop}(h:Doc W r g c m K T)(hm:∀b,jq r g K T b->¬ M b)(k:Out M W W'):Doc W' r g c m K T where
 at_:=h.at_.out (hm r (.inl rfl)) k
 cur:=by obtain⟨cur,h1,h2⟩:=h.cur;exact⟨cur,h1.out (hm g (.inr (.inl rfl))) k,h2⟩
 cap:=h.cap
 lim:=h.lim
 row:=λz nd hz=>(h.row z nd hz).out (λb hb=>hm b (.inr (.inr ⟨z,nd,hz,hb⟩))) k
 range:=h.range
 small:=h.small
theorem Doc.after(h:Doc W r g c m K T)(hb:Below W.heap.size W W'):Doc W' r g c m K T:=h.out (M:=λ_=>False) (λ_ _ q=>q) (Out.of_below hb)
theorem Doc.lt(h:Doc W r g c m K T){b:Nat}(hb:jq r g K T b):b<W.heap.size:=by
 rcases hb with rfl|rfl|⟨z,nd,hz,hb⟩
 . exact h.at_.lt
 . obtain⟨cur,h1,_⟩:=h.cur;exact h1.lt
 . exact(h.row z nd hz).lt hb
theorem Doc.cT(h:Doc W r g c m K T):W.cell? ⟨r,0,none⟩=some (.slice (some ⟨g,0,none⟩) m c):=by rw[h.at_.cell];rfl
theorem Doc.afI(h:Doc W r g c m K T){i:Nat}(hi:i<m):W.cell? ⟨g,i*58,none⟩=some (.bool (T i).isSome):=by
 obtain⟨cur,h1,_,h3⟩:=h.cur;rw[h1.cell,(h3 i hi).live]
theorem Doc.cUp(h:Doc W r g c m K T){i:Nat}{nd:Tr.Nd}(hn:T i=some nd):W.cell? ⟨g,i*58+1,none⟩=some (.int .i64 nd.up):=by
 obtain⟨cur,h1,_,h3⟩:=h.cur;rw[h1.cell,(h3 i (by have:=h.range _ _ hn;omega)).up nd hn]
theorem Doc.lF(h:Doc W r g c m K T){i:Nat}{nd:Tr.Nd}(hn:T i=some nd):W.cell? ⟨g,i*58+2,none⟩=some (K i):=by
 obtain⟨cur,h1,_,h3⟩:=h.cur;rw[h1.cell,(h3 i (by have:=h.range _ _ hn;omega)).kids nd hn]
theorem Doc.sty(h:Doc W r g c m K T){i:Nat}{nd:Tr.Nd}(hn:T i=some nd):uh W g (i*58+3) nd.sty:=λj hj=>by
 obtain⟨cur,h1,_,h3⟩:=h.cur;rw[h1.cell,(h3 i (by have:=h.range _ _ hn;omega)).sty nd hn j hj]
theorem Doc.wf(h:Doc W r g c m K T){z:Int}{nd:Tr.Nd}(hz:T z=some nd):Wf z:=by have:=h.range z nd hz;have:=h.small;rw[eT];omega
theorem Doc.nat(h:Doc W r g c m K T){z:Int}{nd:Tr.Nd}(hz:T z=some nd):∃i:Nat,z=i/\i<m:=⟨z.toNat,by have:=h.range z nd hz;omega,by have:=h.range z nd hz;omega⟩
theorem Doc.rg(h:Doc W r g c m K T):r≠g:=λe=>by
 obtain⟨cur,h1,_⟩:=h.cur;have:=h.at_.uniq (e▸h1);injection this with _ e2;exact absurd e2 aG
theorem jc(h:Doc W r g c m K T)(z:Int):Calls Tryz.prog 100 #[.pointer (some ⟨r,0,none⟩),.int .i64 z] W λe w'=>e=.returned (.bool (T z).isSome)/\W=w':=by
 have c0:=h.cT;by_cases h0:0<=z
 . by_cases h1:z<(m:Int)
   . obtain⟨i,rfl⟩:∃i:Nat,z=i:=⟨z.toNat,by omega⟩
     have cl:=h.afI (i:=i) ak;have him:i<m:=by omega
     clear h;generalize (T (i:Int)).isSome=b at *;go_enter Tryz.func100,Tryz.ntmps100
     go_wp2;exact Eu
   . have hn:(T z).isSome=false:=by
      cases e:T z with
      | none=>rfl
      | some nd=>have:=h.range z nd e;omega
     rw[hn];clear h hn;go_enter Tryz.func100,Tryz.ntmps100
     go_wp2;exact Eu
 . have hn:(T z).isSome=false:=by
    cases e:T z with
    | none=>rfl
    | some nd=>have:=h.range z nd e;omega
   rw[hn];clear h hn c0;go_enter Tryz.func100,Tryz.ntmps100
   go_wp2;exact Eu
theorem kK{T:Tr.T}{z:Int}{nd:Tr.Nd}(h:T z=some nd):(T z).isSome=true:=by rw[h];rfl
theorem kN{T:Tr.T}{z:Int}(h:T z=none):(T z).isSome=false:=by rw[h];rfl
theorem qJ(h:Doc W r g c m K T)(hr:∀nd,T 0=some nd->nd.up = -1){z:Int}{d:Nat}(hd:Tr.Dp T z d)(abA:d<=1000):Calls Tryz.prog 58 #[.pointer (some ⟨r,0,none⟩),.int .i64 z] W λe w'=>e=.returned (.int .i64 (d:Int))/\w'=W:=by
 have hm:T (-1)=none:=by
  cases e:T (-1)with
  | none=>rfl
  | some nd=>have:=(h.range _ nd e).1;omega
 have HR:=Lib.hid h;have OY:=Lib.hid hr;have HD:=Lib.hid hd;clear h hr hd;go_enter Tryz.func58,Tryz.ntmps58
 go_wp2
 go_loop [1,5] (λi p=>(∃(y:Int) (q:Nat) (k:Int),i=.int .i64 y/\p=.int .i64 k/\q<=d/\k=(d:Int)-q-1/\Tr.Dp T y q)\/(i=.int .i64 (-1)/\p=.int .i64 (d:Int))) (λ_ p=>(d-intOf p).toNat)
 case atStart=>exact .inl ⟨z,d,-1,rfl,rfl,ah _,by omega,HD.out⟩
 case round =>
  rcases hrel with⟨y,q,k,rfl,rfl,hmd,hk,hD⟩|⟨rfl,rfl⟩
  . obtain⟨nd,hT⟩:=hD.live
    obtain⟨i,rfl,him⟩:=HR.out.nat hT;have key:=jc HR.out (i:Int);rw[kK hT]at key;have c0:=HR.out.cT;have c1:=HR.out.cUp hT;have hw:IntKind.i64.wrap (k+1)=k+1:=by rw[IntWalk.i64_in _ ak]
    have HK:=Lib.hid hk;have SB:=Lib.hid hD;clear hk hD
    go_wp2_with (go_at_call 100;(with_reducible refine key.mono ?_);rintro e w' ⟨rfl,rfl⟩)
    go_round
    case rel =>
     have hk:=HK.out;generalize hii:(i:Int)=ii at *;exact Z37
    case measure=>have hk:=HK.out;simp[intOf];omega
  . have key:=jc HR.out (-1)
    rw[kN hm]at key
    go_wp2_with (go_at_call 100;(with_reducible refine key.mono ?_);rintro e w' ⟨rfl,rfl⟩)
    exact Eu
theorem tQ(h:Doc W r g c m K T)(H:Tr.WF T)(z:Int):Calls Tryz.prog 58 #[.pointer (some ⟨r,0,none⟩),.int .i64 z] W λe w'=>e=.returned (.int .i64 (Tr.dep T z))/\w'=W:=by
 cases hT:T z with
 | none =>
   rw[Tr.CK hT];have key:=jc h z;rw[kN hT]at key;clear h;go_enter Tryz.func58,Tryz.ntmps58
   go_wp2;refine wp_loop_rounds 1 ?_;rw[rounds_succ]
   go_wp2_with (go_at_call 100;(with_reducible refine key.mono ?_);rintro e w' ⟨rfl,rfl⟩)
   exact Eu
 | some nd =>
   obtain⟨d,h1,h2,h3⟩:=H.iD hT;rw[h3];exact qJ h (λ_ q=>H.o9 q) h2 ak
end
def mH(T:Tr.T)(f:Nat)(x:Int)(l:List Int)(k:Nat):List Int:=x::(l.take k).flatMap (Tr.sub T f)
theorem Jc(T:Tr.T)(f:Nat)(x:Int){l:List Int}{k:Nat}(h:k<l.length):mH T f x l (k+1)=mH T f x l k++Tr.sub T f (l.getD k 0):=by
 unfold mH;rw[eH l k h,List.flatMap_append];simp
theorem OE(T:Tr.T)(f:Nat)(x:Int)(l:List Int){k:Nat}(h:k<=l.length):(mH T f x l k).length<=(mH T f x l l.length).length:=by
 unfold mH;rw[List.take_length];have e:l=l.take k++l.drop k:=(List.take_append_drop k l).symm;have:=congrArg (λz:List Int=>(z.flatMap (Tr.sub T f)).length) e;simp only[List.flatMap_append,List.length_append]at this;simp only[List.length_cons];omega
set_option maxHeartbeats 4000000 in
theorem qK(f:Nat):∀(x:Int) {W:World} {r g c m:Nat} {K:Int->Value} {T:Tr.T},Doc W r g c m K T->Tr.Fit T f x->(Tr.sub T f x).length<=10000->Calls Tryz.prog 57 #[.pointer (some ⟨r,0,none⟩),.int .i64 x] W λe w'=>(∃v,e=.returned v/\w'.ownsRow W.heap.size 3 1 v (Tr.sub T f x).length ((Tr.sub T f x).map (Value.int .i64)))/\Below W.heap.size W w':=by
 induction f with
 | zero=>intro x W r g c m K T _ h;exact h.elim
 | succ f ih =>
   intro x W r g c m K T h hfit hlen;obtain⟨nd,hT,hk⟩:=hfit;have key:=jc h x;rw[kK hT]at key;have hsub:=Tr.fP (f:=f) hT;have hall:Hid (Tr.sub T (f+1) x=mH T f x nd.kids nd.kids.length):=Lib.hid (by rw[hsub];unfold mH;rw[List.take_length]);have hrow:=h.row _ _ hT;rw[hall.out]at hlen;rw[hall.out];have hle:=λk (hk:k<=nd.kids.length)=>OE T f x nd.kids hk;have hkl:nd.kids.length<=10000:=by
    have:∀(l:List Int),(∀y∈l,Tr.Fit T f y)->l.length<=(l.flatMap (Tr.sub T f)).length:=λl=>by
     induction l with
     | nil=>intro _;simp
     | cons y l ihl =>
       intro hy;have h1:=ihl λz hz=>hy z (List.mem_cons_of_mem _ hz);have h2:0<(Tr.sub T f y).length:=by
        cases f with
        | zero=>exact(hy y List.mem_cons_self).elim
        | succ f=>obtain⟨yd,Pp,_⟩:=hy y List.mem_cons_self;rw[Tr.fP Pp];simp
       simp only[List.flatMap_cons,List.length_append,List.length_cons];omega
    have h1:=this nd.kids hk;unfold mH at hlen;rw[List.take_length,List.length_cons]at hlen;omega
   obtain⟨i,rfl,him⟩:=h.nat hT;have c0:=h.cT;have hB0:Below W.heap.size W (W.alloc (.cells #[.int .i64 (i:Int)] 3)):=Below.alloc' (Below.refl _ _) _;have hown0:(W.alloc (.cells #[.int .i64 (i:Int)] 3)).ownsRow W.heap.size 3 1 (.slice (some ⟨W.heap.size,0,none⟩) 1 1) 1 [.int .i64 (i:Int)]:=yx (ah _) rfl ak;have HD:=Lib.hid h;have HT:=Lib.hid hT;have HLE:=Lib.hid hle;have HK:=Lib.hid hk;have HLEN:=Lib.hid hlen;clear h hrow hsub hall hk hle hlen;generalize hl:nd.kids=l at *;have HL:=Lib.hid hl;go_enter Tryz.func57,Tryz.ntmps57
   go_wp2_with (go_at_call 100;(with_reducible refine key.mono ?_);rintro e w' ⟨rfl,rfl⟩)
   generalize hn:l.length=n at *;have HN:=Lib.hid hn;clear hl hn c0 key
   go_loopw [5,6] (λlv iv wr=>∃k:Nat,k<=n/\iv=.int .i64 (k:Int)/\wr.ownsRow W.heap.size 3 1 lv (mH T f (i:Int) l k).length ((mH T f (i:Int) l k).map (Value.int .i64))/\Below W.heap.size W wr) (λ_ iv _=>n-(intOf iv).toNat)
   case atStart=>exact⟨0,by omega,rfl,hown0,hB0⟩
   case round =>
    clear hown0 hB0;obtain⟨k,hk,rfl,hown,hb⟩:=hrel;have hd:=HD.out.after hb;have c0:=hd.cT;have c1:=hd.lF HT.out;have hks:=hd.row _ _ HT.out;obtain⟨A,cc,hs,hI,_⟩:=hks.ints;rw[hs]at c1;rw[HL.out,HN.out]at c1;rw[HL.out]at hI;have HB:=Lib.hid hb;have HOWN:=Lib.hid hown;have hsz:=hb.size;by_cases hlt:k<n
    . have hltz:(k:Int)<(n:Int):=by omega
      obtain⟨b6,o6,rfl,lb6,En⟩:=hI.at_ (k:=k) SC;have hmem:l.getD k 0∈l:=by
       rw[List.getD,List.getElem?_eq_getElem SC];exact List.getElem_mem _
      have hfk:=HK.out _ hmem;have hstep:=Lib.hid (Jc T f (i:Int) (k:=k) SC (l:=l));have hl1:=HLE.out (k+1) ak;have hl2:=HLEN.out;rw[hstep.out,List.length_append]at hl1;have qY:=ih (l.getD k 0) hd hfk ak;generalize l.getD k 0=y at *;have hlim:Hid ((mH T f (i:Int) l k).length+(Tr.sub T f y).length<=100000):=Lib.hid ak;clear hd hks hs hI hown hb hmem hfk hl1 hl2
      go_wp2_with (first|(go_at_call 57;(with_reducible refine qY.mono ?_);rintro e w5 ⟨⟨v2,rfl,ho2⟩,hb5⟩;obtain⟨A2,c2,rfl,hI2,_,_,ag8⟩:=KS.ints (fE ho2 (bJ _));obtain⟨v',w',hr,ho',hb',hs'⟩:=jN (w0:=W) (base:=W.heap.size) (bD (M:=λ_=>False) HOWN.out (λ_ _ q=>q) (Out.of_below hb5)) (HB.out.trans (hb5.mono hsz)) (aC hsz hb5.size) hI2 rfl ag8 hlim.out;have HR:=Lib.hid hr;have HO:=Lib.hid ho';have HB':=Lib.hid hb';clear hr ho' hb' hs' ho2 hI2 hb5)|(at_builtin;refine wpList_append_run aU _ _ 30 rfl rfl rfl HR.out ?_))
      go_roundw
      case rel=>exact⟨k+1,by omega,by go_num,by rw[hstep.out,List.length_append];exact HO.out,HB'.out⟩
      case measure=>simp[intOf];omega
    . have hltz:¬ (k:Int)<(n:Int):=by omega
      obtain rfl:k=n:=by omega
      clear hd hks hs hI hown hb;go_wp2
      go_ret
      rw[HN.out];exact⟨⟨_,rfl,HOWN.out⟩,HB.out⟩
theorem Eo{W:World}{r g c m:Nat}{K:Int->Value}{T:Tr.T}(h:Doc W r g c m K T)(H:Tr.WF T):Calls Tryz.prog 170 #[.pointer (some ⟨r,0,none⟩)] W λe w'=>e=.returned (.int .i64 ((Tr.ord T).length:Int))/\Below W.heap.size W w':=by
 have key:=qK 64 0 h H.qy (by have:=H.jo;unfold Tr.ord at this;omega);change Calls _ _ _ _ (λe w'=>(∃v,e=.returned v/\w'.ownsRow _ _ 1 v (Tr.ord T).length ((Tr.ord T).map (Value.int .i64)))/\_)at key;generalize Tr.ord T=l at *;clear h;go_enter Tryz.func170,Tryz.ntmps170
 go_wp2_with (go_at_call 57;(with_reducible refine key.mono ?_);rintro e w1 ⟨⟨v,rfl,ho⟩,hb⟩;obtain⟨A,c1,rfl⟩:=fH ho)
 go_ret
 exact⟨rfl,hb⟩
set_option maxHeartbeats 4000000 in
theorem tT{w:World}{v:Value}{l:List Int}(h:KS w v l)(hl:l.length<=10000)(x:Int):Calls Tryz.prog 164 #[v,.int .i64 x] w λe w'=>(∃v',e=.returned v'/\w'.ownsRow w.heap.size 3 1 v' (Tr.wo l x).length ((Tr.wo l x).map (Value.int .i64)))/\Below w.heap.size w w':=by
 obtain⟨A,c,rfl,hI,_⟩:=h.ints;have HI:=Lib.hid hI;clear h hI;generalize hn:l.length=n at *;have HN:=Lib.hid hn;clear hn;go_enter Tryz.func164,Tryz.ntmps164
 go_wp2
 go_loopw [5,6] (λov iv wr=>∃k:Nat,k<=n/\iv=.int .i64 (k:Int)/\wr.ownsRow w.heap.size 3 1 ov (Tr.wo (l.take k) x).length ((Tr.wo (l.take k) x).map (Value.int .i64))/\Below w.heap.size w wr) (λ_ iv _=>n-(intOf iv).toNat)
 case atStart=>exact⟨0,by omega,rfl,World.ownsRow_nil _ _ _ _,Below.refl _ _⟩
 case round =>
  obtain⟨k,hk,rfl,hown,hb⟩:=hrel;by_cases hlt:k<n
  . have hltz:(k:Int)<(n:Int):=by omega
    obtain⟨b6,o6,rfl,lb6,En⟩:=(HI.out.after hb).at_ (k:=k) SC
    have hstep:Hid (Tr.wo (l.take (k+1)) x=Tr.wo (l.take k) x++if l.getD k 0=x then []else [l.getD k 0]):=Lib.hid (by
     rw[eH l k SC];unfold Tr.wo;rw[List.filter_append];congr 1;generalize l.getD k 0=y;by_cases e:y=x
     . rw[if_pos e];simp[e]
     . rw[if_neg e];simp[e])
    have EP:(Tr.wo (l.take k) x).length<=10000:=aC (List.length_filter_le _ _) (by rw[List.length_take];omega);generalize l.getD k 0=y at *;have HB:=Lib.hid hb;have HOWN:=Lib.hid hown;by_cases hyx:y=x
    . rw[if_pos hyx,List.append_nil]at hstep
      subst hyx;clear hown hb;go_wp2
      go_roundw
      case rel=>exact⟨k+1,by omega,by go_num,by rw[hstep.out];exact HOWN.out,HB.out⟩
      case measure=>simp[intOf];omega
    . rw[if_neg hyx]at hstep
      have ah6:(y==x)=false:=by simpa using hyx
      have hll:Hid ((Tr.wo (l.take (k+1)) x).length=(Tr.wo (l.take k) x).length+1):=Lib.hid (by rw[hstep.out];simp);obtain⟨v',w',hr,ho',hb',hs'⟩:=Db y hown hb hb.size EP;have HR:=Lib.hid hr;have HO:=Lib.hid ho';have HB':=Lib.hid hb';clear hown hb hr ho' hb' hs'
      go_wp2_with (at_builtin;refine wpList_append_run aU _ _ 30 rfl rfl rfl HR.out ?_)
      go_roundw
      case rel=>exact⟨k+1,by omega,by go_num,by rw[hll.out,hstep.out];exact HO.out,HB'.out⟩
      case measure=>simp[intOf];omega
  . have hltz:¬ (k:Int)<(n:Int):=by omega
    obtain rfl:k=n:=by omega
    rw[List.take_of_length_le (by rw[HN.out];exact ah _)]at hown;have HB:=Lib.hid hb;have HOWN:=Lib.hid hown;clear hown hb;go_wp2
    go_ret
    exact⟨⟨_,rfl,HOWN.out⟩,HB.out⟩
set_option maxHeartbeats 4000000 in
theorem Fy{w:World}{v:Value}{l:List Int}{i:Nat}(h:KS w v l)(hl:l.length<=10000)(hi:i<=l.length)(x:Int):Calls Tryz.prog 168 #[v,.int .i64 (i:Int),.int .i64 x] w λe w'=>(∃v',e=.returned v'/\w'.ownsRow w.heap.size 3 1 v' (Tr.wi l i x).length ((Tr.wi l i x).map (Value.int .i64)))/\Below w.heap.size w w':=by
 obtain⟨A,c,rfl,hI,hlc,_,hcn⟩:=h.ints;have F1:=Lib.hid (Dh A l.length c i ak);have F2:=Lib.hid (qb A l.length c i hi);have U1:=hI.upto i c hi hlc;have U2:=λW (hb:Below w.heap.size w W)=>(hI.after hb).from_ i c hi hlc
 have N1:(if c=0 then A else A.map (·.add (0*1)))=none->c=0:=λh=>by
  split at h
  . assumption
  . cases A with
    | none=>exact hcn rfl
    | some _=>cases h
 have N2:(if c=i then A else A.map (·.add (i*1)))=none->c-i=0:=λh=>by
  split at h
  . omega
  . cases A with
    | none=>have:=hcn rfl;omega
    | some _=>cases h
 generalize (if c=0 then A else A.map (·.add (0*1)))=B1 at *;generalize (if c=i then A else A.map (·.add (i*1)))=B2 at *;obtain⟨v1,w1,hr1,ho1,hb1,hs1⟩:=jN (w0:=w) (base:=w.heap.size) (xs:=[]) (World.ownsRow_nil _ _ _ _) (Below.refl _ _) (ah _) U1 (m:=i) (by rw[List.length_take];omega) N1 ak;obtain⟨v2,w2,hr2,ho2,hb2,hs2⟩:=Db x ho1 hb1 hs1 ak;obtain⟨v3,w3,hr3,ho3,hb3,hs3⟩:=jN ho2 hb2 hs2 (U2 w2 hb2) (m:=l.length-i) (by rw[List.length_drop]) N2 ak;have e:(([]++l.take i)++[x])++l.drop i=Tr.wi l i x:=by unfold Tr.wi;simp
 have e2:0+i+1+(l.length-i)=(Tr.wi l i x).length:=by rw[Tr.mU];omega
 rw[e,e2]at ho3;have HR1:=Lib.hid hr1;have HR2:=Lib.hid hr2;have HR3:=Lib.hid hr3;have HO:=Lib.hid ho3;have HB:=Lib.hid hb3;clear hr1 hr2 hr3 ho1 ho2 ho3 hb1 hb2 hb3 hs1 hs2 hs3 U1 U2 N1 N2 h hI hcn e e2 hlc;generalize Tr.wi l i x=l2 at *;generalize l.length=n at *;go_enter Tryz.func168,Tryz.ntmps168
 go_upto_region 3 with(first|(refine qQ rfl aU (F1.out _) ?_)|(at_builtin;refine wpList_append_run aU _ _ 30 rfl rfl rfl HR1.out ?_))
 go_upto_region 4 with(at_builtin;refine wpList_append_run aU _ _ 30 rfl rfl rfl HR2.out ?_)
 go_wp2_with (first|(refine qQ rfl aU (F2.out _) ?_)|(at_builtin;refine wpList_append_run aU _ _ 30 rfl rfl rfl HR3.out ?_))
 go_ret
 exact⟨⟨_,rfl,HO.out⟩,HB.out⟩
def mI(cur:Array Value)(o:Nat)(cs:Array Value):Array Value:=(cur.toList.take o++cs.toList++cur.toList.drop (o+cs.size)).toArray
theorem tV{cur:Array Value}{o:Nat}{cs:Array Value}(h:o+cs.size<=cur.size):(mI cur o cs).size=cur.size:=by
 unfold mI;simp only[List.size_toArray,List.length_append,List.length_take,List.length_drop,Array.length_toList];omega
theorem xK{cur:Array Value}{o:Nat}{cs:Array Value}(h:o+cs.size<=cur.size){j:Nat}(hj:j<cs.size):(mI cur o cs)[o+j]? = cs[j]? := by
 unfold mI;have ht:(cur.toList.take o).length=o:=by rw[List.length_take,Array.length_toList];omega
 rw[List.getElem?_toArray,List.append_assoc,List.getElem?_append_right ak,ht,show o+j-o=j by omega,List.getElem?_append_left (by rw[Array.length_toList];exact hj),Array.getElem?_toList]
theorem vR{cur:Array Value}{o:Nat}{cs:Array Value}(h:o+cs.size<=cur.size){k:Nat}(hk:k<o\/o+cs.size<=k):(mI cur o cs)[k]? = cur[k]? := by
 unfold mI;have ht:(cur.toList.take o).length=o:=by rw[List.length_take,Array.length_toList];omega
 rw[List.getElem?_toArray,List.append_assoc];rcases hk with hk|hk
 . rw[List.getElem?_append_left ak,List.getElem?_take,if_pos hk,Array.getElem?_toList]
 . rw[List.getElem?_append_right ak,ht,List.getElem?_append_right (by rw[Array.length_toList];omega),Array.length_toList,List.getElem?_drop,show o+cs.size+(k-o-cs.size)=k by omega,Array.getElem?_toList]
theorem OG(u:Int)(A:Option Addr)(n c:Nat)(s:Re.St):(fU u (.slice A n c) s).all Value.oneCell'=true:=by
 unfold fU;rw[Array.all_append,cells_one,Bool.and_true];simp[Value.oneCell']
theorem GD:jA.all Value.oneCell'=true:=by
 unfold jA;rw[Array.all_append,cells_one,Bool.and_true];simp[Value.oneCell']
theorem xL{W:World}{g o:Nat}{cur cs:Array Value}{T t:TypeId}(h:At W g (.cells cur T))(hz:(sizeOf t).run Tryz.prog W=.ok cs.size W)(hone:cs.all Value.oneCell'=true)(hfit:o+cs.size<=cur.size):(Instr.storeAt t (.pointer (some ⟨g,o,none⟩)) (.agg cs)).run Tryz.prog W=.ok () (W.setRow g (mI cur o cs)):=by
 have hst:=run_storeCells_at Tryz.prog g o T cs.toList 0 cur W h (by rw[Array.length_toList];omega) (λx hx=>by
  have:=Array.all_eq_true_iff_forall_mem.1 hone x (by simpa using hx);exact this)
 rw[Nat.add_zero,Array.length_toList]at hst;have hc:(Value.agg cs).cells=cs:=rfl;simp only[Instr.storeAt,Instr.sureAddr,storeVar,Sem.run_bind,Sem.run_pure,Result.andThen_ok,hz,hc,ne_eq,not_true_eq_false,if_false,hst];rfl
theorem Place.keep{cur cur':Array Value}{i j:Nat}{v:Value}{o:Option Tr.Nd}(h:Place cur j v o)(hag:∀k,(k<i*58\/i*58+58<=k)->cur'[k]? = cur[k]?)(hne:j≠i):Place cur' j v o :=
 ⟨by rw[hag _ ak];exact h.live,λnd hn=>by rw[hag _ ak];exact h.up nd hn,λnd hn=>by rw[hag _ ak];exact h.kids nd hn,λnd hn q hq=>by rw[hag _ ak];exact h.sty nd hn q hq⟩
section
variable {W W':World} {r g c m:Nat} {K K':Int->Value} {T T':Tr.T}
theorem Doc.gb(h:Doc W r g c m K T){v:Value}{l:List Int}(hv:KS W v l):v.ownBlock≠some g:=λe=>by
 obtain⟨cur,h1,_⟩:=h.cur;obtain⟨ag9,h2⟩:=hv.rowAt e;have:=h1.uniq h2;injection this with _ e2;exact absurd e2 aG
theorem Doc.put(h:Doc W r g c m K T){i:Nat}(hi:i<m){cur cur':Array Value}(hcur:At W g (.cells cur 180))(hA:At W' g (.cells cur' 180))(hsz:cur'.size=cur.size)(hO:Out (λb=>b=g) W W')
  (hag:∀k,(k<i*58\/i*58+58<=k)->cur'[k]? = cur[k]?) (hP:Place cur' i (K' i) (T' i)) (hT:∀z,z≠(i:Int)->T' z=T z/\K' z=K z) (hrow:∀nd,T' i=some nd->KS W' (K' i) nd.kids):Doc W' r g c m K' T' where
 at_:=h.at_.out (λe=>h.rg e) hO
 cur:=by
  obtain⟨ah7,h1,h2,h3⟩:=h.cur;have e:=h1.uniq hcur;injection e with e;subst e;refine⟨cur',hA,by rw[hsz,h2],λj hj => ?_⟩;by_cases e:j=i
  . subst e;exact hP
  . obtain⟨e1,e2⟩:=hT (j:Int) ak
    rw[e1,e2];exact(h3 j hj).keep hag e
 cap:=h.cap
 lim:=h.lim
 row:=λz nd hz=>by
  by_cases e:z=(i:Int)
  . subst e;exact hrow nd hz
  . obtain⟨e1,e2⟩:=hT z e
    rw[e1]at hz;rw[e2];exact(h.row z nd hz).out (λb hb (q:b=g)=>h.gb (h.row z nd hz) (by rw[hb,q])) hO
 range:=λz nd hz=>by
  by_cases e:z=(i:Int)
  . omega
  . rw[(hT z e).1]at hz;exact h.range z nd hz
 small:=h.small
def DG(r g:Nat)(K:Int->Value)(T:Tr.T)(W W':World)(g':Nat)(K':Int->Value)(T':Tr.T):Prop:=Out (jq r g K T) W W'/\∀b,jq r g' K' T' b->jq r g K T b\/W.heap.size<=b
theorem DG.refl(r g:Nat)(K:Int->Value)(T:Tr.T)(W:World):DG r g K T W W g K T:=⟨Out.refl _ _,λ_ h => .inl h⟩
theorem DG.of_below(h:Below W.heap.size W W'):DG r g K T W W' g K T:=⟨Out.of_below h,λ_ h => .inl h⟩
theorem DG.trans{W'':World}{g' g'':Nat}{K'':Int->Value}{T'':Tr.T}(h:DG r g K T W W' g' K' T')(k:DG r g' K' T' W' W'' g'' K'' T''):DG r g K T W W'' g'' K'' T'':=by
 have hs:=h.1.size;refine⟨⟨h.1.1.trans k.1.1,λb hb hn => ?_⟩,λb hb => ?_⟩
 . rw[k.1.2 b ak (λq=>(h.2 b q).elim hn λq2=>by omega),h.1.2 b hb hn]
 . rcases k.2 b hb with h1|h1
   . exact h.2 b h1
   . exact .inr ak
theorem Doc.Ut(h:Doc W r g c m K T){i:Nat}{nd:Tr.Nd}(hn:T i=some nd)(u:Int):Doc (W.setCell ⟨g,i*58+1,none⟩ (.int .i64 u)) r g c m K (Tr.set T i { nd with up:=u })/\DG r g K T W (W.setCell ⟨g,i*58+1,none⟩ (.int .i64 u)) g K (Tr.set T i { nd with up:=u }):=by
 obtain⟨cur,h1,h2,h3⟩:=h.cur;have him:i<m:=by have:=h.range _ _ hn;omega
 have hO:Out (λb=>b=g) W (W.setCell ⟨g,i*58+1,none⟩ (.int .i64 u)):=(Out.refl _ _).set (M:=λb=>b=g) rfl _ _;have hcap:=h.cap;have P:=h3 i him;have hne:∀k,k≠i*58+1->(cur.setIfInBounds (i*58+1) (.int .i64 u))[k]? = cur[k]? := λk hk=>Array.getElem?_setIfInBounds_ne ak;refine⟨h.put him h1 (h1.set _ _) eY hO (λk hk=>hne k ak) ?_ (λz hz=>⟨Tr.aD _ _ hz,rfl⟩) (λnd' hn' => ?_),hO.mono λb _ q => .inr (.inl q),λb hb => .inl ?_⟩
 . rw[Tr.aJ]
   rw[hn]at P;refine⟨by rw[hne _ ak];exact P.live,λnd' e => ?_,λnd' e => ?_,λnd' e j hj => ?_⟩
   . cases e
     rw[Array.getElem?_setIfInBounds_self_of_lt ak]
   . cases e;rw[hne _ ak];exact P.kids nd rfl
   . cases e;rw[hne _ ak];exact P.sty nd rfl j hj
 . rw[Tr.aJ]at hn';cases hn'
   exact(h.row _ _ hn).out (λb hb (q:b=g)=>h.gb (h.row _ _ hn) (by rw[hb,q])) hO
 . exact Z30
theorem Doc.sN(h:Doc W r g c m K T){i:Nat}{nd:Tr.Nd}(hn:T i=some nd){v:Value}{l:List Int}(hv:KS W v l):Doc (W.setCell ⟨g,i*58+2,none⟩ v) r g c m (λz=>if z=(i:Int)then v else K z) (Tr.set T i { nd with kids:=l }):=by
 obtain⟨cur,h1,h2,h3⟩:=h.cur;have him:i<m:=by have:=h.range _ _ hn;omega
 have hO:Out (λb=>b=g) W (W.setCell ⟨g,i*58+2,none⟩ v):=(Out.refl _ _).set (M:=λb=>b=g) rfl _ _;have hcap:=h.cap;have P:=h3 i him;have hne:∀k,k≠i*58+2->(cur.setIfInBounds (i*58+2) v)[k]? = cur[k]? := λk hk=>Array.getElem?_setIfInBounds_ne ak;refine h.put him h1 (h1.set _ _) eY hO (λk hk=>hne k ak) ?_ (λz hz=>⟨Tr.aD _ _ hz,if_neg hz⟩) (λnd' hn' => ?_)
 . rw[Tr.aJ]
   simp only[if_true];rw[hn]at P;refine⟨by rw[hne _ ak];exact P.live,λnd' e => ?_,λnd' e => ?_,λnd' e j hj => ?_⟩
   . cases e;rw[hne _ ak];exact P.up nd rfl
   . cases e
     rw[Array.getElem?_setIfInBounds_self_of_lt ak]
   . cases e;rw[hne _ ak];exact P.sty nd rfl j hj
 . rw[Tr.aJ]at hn';cases hn'
   simp only[if_true];exact hv.out (λb hb (q:b=g)=>h.gb hv (by rw[hb,q])) hO
theorem qC{z:Int}{nd:Tr.Nd}{l:List Int}{v:Value}(hn:T z=some nd){b:Nat}(hb:jq r g (λy=>if y=z then v else K y) (Tr.set T z { nd with kids:=l }) b):jq r g K T b\/v.ownBlock=some b:=by
 rcases hb with e|e|⟨y,yd,hy,e⟩
 . exact .inl (.inl e)
 . exact .inl (.inr (.inl e))
 . by_cases e2:y=z
   . subst e2
     simp only[if_true]at e;exact .inr e
   . exact Z3h
theorem Doc.Nn(h:Doc W r g c m K T){i:Nat}{nd:Tr.Nd}(hn:T i=some nd)(s:Re.St):∃W',(Instr.storeAt 51 (.pointer (some ⟨g,i*58+3,none⟩)) (.agg (cells s))).run Tryz.prog W=.ok () W'/\Out (λb=>b=g) W W'/\Doc W' r g c m K (Tr.set T i { nd with sty:=s })/\DG r g K T W W' g K (Tr.set T i { nd with sty:=s }):=by
 obtain⟨cur,h1,h2,h3⟩:=h.cur;have him:i<m:=by have:=h.range _ _ hn;omega
 have hcap:=h.cap;have hfit:i*58+3+(cells s).size<=cur.size:=by rw[bC,h2];omega
 have hst:=xL h1 (t:=51) (cs:=cells s) (o:=i*58+3) (by rw[bC];kernel_rfl) (cells_one s) hfit;have hO:Out (λb=>b=g) W (W.setRow g (mI cur (i*58+3) (cells s))):=(Out.refl _ _).setRow (M:=λb=>b=g) rfl _;have P:=h3 i him;have hne:∀k,(k<i*58+3\/i*58+58<=k)->(mI cur (i*58+3) (cells s))[k]? = cur[k]? := λk hk=>vR hfit Z5a;refine⟨_,hst,hO,h.put him h1 (h1.setRow _) (tV hfit) hO (λk hk=>hne k ak) ?_ (λz hz=>⟨Tr.aD _ _ hz,rfl⟩) (λnd' hn' => ?_),hO.mono λb _ q => .inr (.inl q),λb hb => .inl ?_⟩
 . rw[Tr.aJ]
   rw[hn]at P;refine⟨by rw[hne _ ak];exact P.live,λnd' e => ?_,λnd' e => ?_,λnd' e j hj => ?_⟩
   . cases e;rw[hne _ ak];exact P.up nd rfl
   . cases e;rw[hne _ ak];exact P.kids nd rfl
   . cases e
     rw[xK hfit (by rw[bC];exact hj),iB s hj]
 . rw[Tr.aJ]at hn';cases hn'
   exact(h.row _ _ hn).out (λb hb (q:b=g)=>h.gb (h.row _ _ hn) (by rw[hb,q])) hO
 . exact Z30
theorem Doc.abk(h:Doc W r g c m K T){i:Nat}(him:i<m)(hn:T i=none)(u:Int):∃W',(Instr.storeAt 180 (.pointer (some ⟨g,i*58,none⟩)) (.agg (fU u (.slice none 0 0) Re.zero))).run Tryz.prog W=.ok () W'/\Out (λb=>b=g) W W'/\Doc W' r g c m (λz=>if z=(i:Int)then .slice none 0 0 else K z) (Tr.set T i ⟨u,[],Re.zero⟩)/\DG r g K T W W' g (λz=>if z=(i:Int)then .slice none 0 0 else K z) (Tr.set T i ⟨u,[],Re.zero⟩):=by
 obtain⟨cur,h1,h2,h3⟩:=h.cur;have hcap:=h.cap;have hsz:=AF u (.slice none 0 0) Re.zero;have hfit:i*58+(fU u (.slice none 0 0) Re.zero).size<=cur.size:=by rw[hsz,h2];omega
 have hst:=xL h1 (t:=180) (cs:=fU u (.slice none 0 0) Re.zero) (o:=i*58) (by rw[hsz];kernel_rfl) (OG _ _ _ _ _) hfit;have hO:Out (λb=>b=g) W (W.setRow g (mI cur (i*58) (fU u (.slice none 0 0) Re.zero))):=(Out.refl _ _).setRow (M:=λb=>b=g) rfl _;have hin:∀j,j<58->(mI cur (i*58) (fU u (.slice none 0 0) Re.zero))[i*58+j]? = (fU u (.slice none 0 0) Re.zero)[j]? := λj hj=>xK hfit (by rw[hsz];exact hj);refine⟨_,hst,hO,h.put him h1 (h1.setRow _) (tV hfit) hO (λk hk=>vR hfit (by rw[hsz];omega)) ?_ (λz hz=>⟨Tr.aD _ _ hz,if_neg hz⟩) (λnd' hn' => ?_),hO.mono λb _ q => .inr (.inl q),λb hb => ?_⟩
 . rw[Tr.aJ]
   simp only[if_true];refine⟨?_,λnd' e => ?_,λnd' e => ?_,λnd' e j hj => ?_⟩
   . have:=hin 0 ak;rw[Nat.add_zero,ou _ _ _ ak]at this;exact this
   . cases e;have:=hin 1 ak;rw[ou _ _ _ ak]at this;exact this
   . cases e;have:=hin 2 ak;rw[ou _ _ _ ak]at this;exact this
   . cases e;have:=hin (3+j) ak;rw[Em _ _ _ hj]at this;rw[Nat.add_assoc];exact this
 . rw[Tr.aJ]at hn';cases hn'
   simp only[if_true];exact KS.nil _
 . rcases hb with e|e|⟨z,zd,hz,e⟩
   . exact .inl (.inl e)
   . exact .inl (.inr (.inl e))
   . by_cases e2:z=(i:Int)
     . subst e2;simp only[if_true]at e;cases e
     . rw[Tr.aD _ _ e2]at hz
       simp only[if_neg e2]at e;exact .inl (.inr (.inr ⟨z,zd,hz,e⟩))
theorem Doc.WT(h:Doc W r g c m K T){i:Nat}(him:i<m):∃W',(Instr.storeAt 180 (.pointer (some ⟨g,i*58,none⟩)) (.agg jA)).run Tryz.prog W=.ok () W'/\Out (λb=>b=g) W W'/\Doc W' r g c m K (Tr.del T [(i:Int)])/\DG r g K T W W' g K (Tr.del T [(i:Int)]):=by
 obtain⟨cur,h1,h2,h3⟩:=h.cur;have hcap:=h.cap;have hfit:i*58+jA.size<=cur.size:=by rw[oq,h2];omega
 have hst:=xL h1 (t:=180) (cs:=jA) (o:=i*58) (by rw[oq];kernel_rfl) GD hfit;have hO:Out (λb=>b=g) W (W.setRow g (mI cur (i*58) jA)):=(Out.refl _ _).setRow (M:=λb=>b=g) rfl _;have hdel:Tr.del T [(i:Int)] i=none:=by simp[Tr.del]
 have hdo:∀z,z≠(i:Int)->Tr.del T [(i:Int)] z=T z:=λz hz=>by simp[Tr.del,hz]
 refine⟨_,hst,hO,h.put him h1 (h1.setRow _) (tV hfit) hO (λk hk=>vR hfit (by rw[oq];omega)) ?_ (λz hz=>⟨hdo z hz,rfl⟩) (λnd' hn' => ?_),hO.mono λb _ q => .inr (.inl q),λb hb => ?_⟩
 . rw[hdel]
   refine⟨?_,λnd' e=>(by cases e),λnd' e=>(by cases e),λnd' e=>(by cases e)⟩;have:=xK hfit (j:=0) (by rw[oq];omega);rw[Nat.add_zero]at this;rw[this];rfl
 . rw[hdel]at hn';cases hn'
 . rcases hb with e|e|⟨z,zd,hz,e⟩
   . exact .inl (.inl e)
   . exact .inl (.inr (.inl e))
   . by_cases e2:z=(i:Int)
     . subst e2;rw[hdel]at hz;cases hz
     . rw[hdo z e2]at hz;exact .inl (.inr (.inr ⟨z,zd,hz,e⟩))
end
end Go.Proofs.YtcbcfdihofclkaaGreat.Fix
