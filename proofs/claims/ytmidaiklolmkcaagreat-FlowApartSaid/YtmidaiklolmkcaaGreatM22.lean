/- What functions of the program do, in plain numbers, part 22; no conditions. -/
import Derived.Test.YtmidaiklolmkcaaGreatM21
set_option linter.unusedVariables false
set_option linter.unusedSimpArgs false
set_option linter.unusedSectionVars false
set_option maxRecDepth 100000
set_option maxHeartbeats 16000000
namespace Go.Proofs.YtmidaiklolmkcaaGreat.Fix
open Go.ChangeShapes Go.WideShapes Go.ChangeAt Go.RowKit Go.Deep Go.Joins Go.Shelf
def mQ(T:Tr.T)(f:Nat)(x:Int)(l:List Int)(k:Nat):List Int:=x::(l.take k).flatMap (Tr.sub T f)
theorem Jq(T:Tr.T)(f:Nat)(x:Int){l:List Int}{k:Nat}(h:k<l.length):mQ T f x l (k+1)=mQ T f x l k++Tr.sub T f (l.getD k 0):=by
 unfold mQ;rw[eO l k h,List.flatMap_append];simp
theorem O8(T:Tr.T)(f:Nat)(x:Int)(l:List Int){k:Nat}(h:k<=l.length):(mQ T f x l k).length<=(mQ T f x l l.length).length:=by
 unfold mQ;rw[List.take_length];have e:l=l.take k++l.drop k:=(List.take_append_drop k l).symm;have:=congrArg (λz:List Int=>(z.flatMap (Tr.sub T f)).length) e;simp only[List.flatMap_append,List.length_append]at this;simp only[List.length_cons];omega
theorem qQ(f:Nat):∀(x:Int) {W:World} {r g c m:Nat} {K:Int->Value} {T:Tr.T},Doc W r g c m K T->Tr.Fit T f x->(Tr.sub T f x).length<=10000->Calls Tryz.prog 20 #[.pointer (some ⟨r,0,none⟩),.int .i64 x] W λe w'=>(∃v,e=.returned v/\w'.ownsRow W.heap.size 3 1 v (Tr.sub T f x).length ((Tr.sub T f x).map (Value.int .i64)))/\Below W.heap.size W w':=by
 induction f with
 | zero=>intro x W r g c m K T _ h;exact h.elim
 | succ f ih =>
   intro x W r g c m K T h hfit hlen;obtain⟨nd,hT,hk⟩:=hfit;have key:=jf h x;rw[kW hT]at key;have hsub:=Tr.eF (f:=f) hT;have hall:Hid (Tr.sub T (f+1) x=mQ T f x nd.kids nd.kids.length):=ah (by rw[hsub];unfold mQ;rw[List.take_length]);have hrow:=h.row _ _ hT;rw[hall.out]at hlen;rw[hall.out];have hle:=λk (hk:k<=nd.kids.length)=>O8 T f x nd.kids hk;have hkl:nd.kids.length<=10000:=by
    have:∀(l:List Int),(∀y∈l,Tr.Fit T f y)->l.length<=(l.flatMap (Tr.sub T f)).length:=λl=>by
     induction l with
     | nil=>intro _;simp
     | cons y l ihl =>
       intro hy;have h1:=ihl λz hz=>hy z (List.mem_cons_of_mem _ hz);have h2:0<(Tr.sub T f y).length:=by
        cases f with
        | zero=>exact(hy y List.mem_cons_self).elim
        | succ f=>obtain⟨yd,P6,_⟩:=hy y List.mem_cons_self;rw[Tr.eF P6];simp
       simp only[List.flatMap_cons,List.length_append,List.length_cons];omega
    have h1:=this nd.kids hk;unfold mQ at hlen;rw[List.take_length,List.length_cons]at hlen;omega
   obtain⟨i,rfl,him⟩:=h.nat hT;have c0:=h.cT;have hB0:Below W.heap.size W (W.alloc (.cells #[.int .i64 (i:Int)] 3)):=Below.alloc' aF _;have hown0:(W.alloc (.cells #[.int .i64 (i:Int)] 3)).ownsRow W.heap.size 3 1 (.slice (some ⟨W.heap.size,0,none⟩) 1 1) 1 [.int .i64 (i:Int)]:=yL aD rfl aj;have HD:=ah h;have HT:=ah hT;have HLE:=ah hle;have HK:=ah hk;have HLEN:=ah hlen;clear h hrow hsub hall hk hle hlen;generalize hl:nd.kids=l at *;have HL:=ah hl;go_enter Tryz.func20,Tryz.ntmps20
   go_wp2_with (go_at_call 43;(with_reducible refine key.mono ?_);rintro e w' ⟨rfl,rfl⟩)
   generalize hn:l.length=n at *;have HN:=ah hn;clear hl hn c0 key
   go_loopw [5,6] (λlv iv wr=>∃k:Nat,k<=n/\iv=.int .i64 (k:Int)/\wr.ownsRow W.heap.size 3 1 lv (mQ T f (i:Int) l k).length ((mQ T f (i:Int) l k).map (Value.int .i64))/\Below W.heap.size W wr) (λ_ iv _=>n-(intOf iv).toNat)
   case atStart=>exact⟨0,by omega,rfl,hown0,hB0⟩
   case round =>
    clear hown0 hB0;obtain⟨k,hk,rfl,hown,hb⟩:=hrel;have hd:=HD.out.after hb;have c0:=hd.cT;have c1:=hd.lZ HT.out;have hks:=hd.row _ _ HT.out;obtain⟨A,cc,hs,hI,_⟩:=hks.ints;rw[hs]at c1;rw[HL.out,HN.out]at c1;rw[HL.out]at hI;have HB:=ah hb;have HOWN:=ah hown;have hsz:=hb.size;by_cases hlt:k<n
    . have hltz:(k:Int)<(n:Int):=by omega
      obtain⟨b6,o6,rfl,lb6,EG⟩:=hI.at_ (k:=k) Tt;have hmem:l.getD k 0∈l:=by
       rw[List.getD,List.getElem?_eq_getElem Tt];exact List.getElem_mem _
      have hfk:=HK.out _ hmem;have hstep:=ah (Jq T f (i:Int) (k:=k) Tt (l:=l));have hl1:=HLE.out (k+1) aj;have hl2:=HLEN.out;rw[hstep.out,List.length_append]at hl1;have rF:=ih (l.getD k 0) hd hfk aj;generalize l.getD k 0=y at *;have hlim:Hid ((mQ T f (i:Int) l k).length+(Tr.sub T f y).length<=100000):=ah aj;clear hd hks hs hI hown hb hmem hfk hl1 hl2
      go_wp2_with (first|(go_at_call 20;(with_reducible refine rF.mono ?_);rintro e w5 ⟨⟨v2,rfl,ho2⟩,hb5⟩;obtain⟨A2,c2,rfl,hI2,_,_,ah0⟩:=KS.ints (fH ho2 sQ);obtain⟨v',w',hr,ho',hb',hs'⟩:=jU (w0:=W) (base:=W.heap.size) (bJ (M:=λ_=>False) HOWN.out (λ_ _ q=>q) (Out.of_below hb5)) (HB.out.trans (hb5.mono hsz)) (aJ hsz hb5.size) hI2 rfl ah0 hlim.out;have HR:=ah hr;have HO:=ah ho';have HB':=ah hb';clear hr ho' hb' hs' ho2 hI2 hb5)|(at_builtin;refine wpList_append_run aX _ _ 30 rfl rfl rfl HR.out ?_))
      go_roundw
      case rel=>exact⟨k+1,by omega,by go_num,by rw[hstep.out,List.length_append];exact HO.out,HB'.out⟩
      case measure=>simp[intOf];omega
    . have hltz:¬ (k:Int)<(n:Int):=by omega
      obtain rfl:k=n:=by omega
      clear hd hks hs hI hown hb;go_wp2
      go_ret
      rw[HN.out];exact⟨⟨_,rfl,HOWN.out⟩,HB.out⟩
theorem EH{W:World}{r g c m:Nat}{K:Int->Value}{T:Tr.T}(h:Doc W r g c m K T)(H:Tr.WF T):Calls Tryz.prog 65 #[.pointer (some ⟨r,0,none⟩)] W λe w'=>e=.returned (.int .i64 ((Tr.ord T).length:Int))/\Below W.heap.size W w':=by
 have key:=qQ 64 0 h H.rT (by have:=H.jB;unfold Tr.ord at this;omega);change Calls _ _ _ _ (λe w'=>(∃v,e=.returned v/\w'.ownsRow _ _ 1 v (Tr.ord T).length ((Tr.ord T).map (Value.int .i64)))/\_)at key;generalize Tr.ord T=l at *;clear h;go_enter Tryz.func65,Tryz.ntmps65
 go_wp2_with (go_at_call 20;(with_reducible refine key.mono ?_);rintro e w1 ⟨⟨v,rfl,ho⟩,hb⟩;obtain⟨A,c1,rfl⟩:=fK ho)
 go_ret
 exact⟨rfl,hb⟩
theorem ug{w:World}{v:Value}{l:List Int}(h:KS w v l)(hl:l.length<=10000)(x:Int):Calls Tryz.prog 59 #[v,.int .i64 x] w λe w'=>(∃v',e=.returned v'/\w'.ownsRow w.heap.size 3 1 v' (Tr.wo l x).length ((Tr.wo l x).map (Value.int .i64)))/\Below w.heap.size w w':=by
 obtain⟨A,c,rfl,hI,_⟩:=h.ints;have HI:=ah hI;clear h hI;generalize hn:l.length=n at *;have HN:=ah hn;clear hn;go_enter Tryz.func59,Tryz.ntmps59
 go_wp2
 go_loopw [5,6] (λov iv wr=>∃k:Nat,k<=n/\iv=.int .i64 (k:Int)/\wr.ownsRow w.heap.size 3 1 ov (Tr.wo (l.take k) x).length ((Tr.wo (l.take k) x).map (Value.int .i64))/\Below w.heap.size w wr) (λ_ iv _=>n-(intOf iv).toNat)
 case atStart=>exact⟨0,by omega,rfl,World.ownsRow_nil _ _ _ _,Below.refl _ _⟩
 case round =>
  obtain⟨k,hk,rfl,hown,hb⟩:=hrel;by_cases hlt:k<n
  . have hltz:(k:Int)<(n:Int):=by omega
    obtain⟨b6,o6,rfl,lb6,EG⟩:=(HI.out.after hb).at_ (k:=k) Tt
    have hstep:Hid (Tr.wo (l.take (k+1)) x=Tr.wo (l.take k) x++if l.getD k 0=x then []else [l.getD k 0]):=ah (by
     rw[eO l k Tt];unfold Tr.wo;rw[List.filter_append];congr 1;generalize l.getD k 0=y;by_cases e:y=x
     . rw[if_pos e];simp[e]
     . rw[if_neg e];simp[e])
    have Fh:(Tr.wo (l.take k) x).length<=10000:=aJ (List.length_filter_le _ _) (by rw[List.length_take];omega);generalize l.getD k 0=y at *;have HB:=ah hb;have HOWN:=ah hown;by_cases hyx:y=x
    . rw[if_pos hyx,List.append_nil]at hstep
      subst hyx;clear hown hb;go_wp2
      go_roundw
      case rel=>exact⟨k+1,by omega,by go_num,by rw[hstep.out];exact HOWN.out,HB.out⟩
      case measure=>simp[intOf];omega
    . rw[if_neg hyx]at hstep
      have aju:(y==x)=false:=by simpa using hyx
      have hll:Hid ((Tr.wo (l.take (k+1)) x).length=(Tr.wo (l.take k) x).length+1):=ah (by rw[hstep.out];simp);obtain⟨v',w',hr,ho',hb',hs'⟩:=Dt y hown hb hb.size Fh;have HR:=ah hr;have HO:=ah ho';have HB':=ah hb';clear hown hb hr ho' hb' hs'
      go_wp2_with (at_builtin;refine wpList_append_run aX _ _ 30 rfl rfl rfl HR.out ?_)
      go_roundw
      case rel=>exact⟨k+1,by omega,by go_num,by rw[hll.out,hstep.out];exact HO.out,HB'.out⟩
      case measure=>simp[intOf];omega
  . have hltz:¬ (k:Int)<(n:Int):=by omega
    obtain rfl:k=n:=by omega
    rw[List.take_of_length_le (by rw[HN.out];exact aG _)]at hown;have HB:=ah hb;have HOWN:=ah hown;clear hown hb;go_wp2
    go_ret
    exact⟨⟨_,rfl,HOWN.out⟩,HB.out⟩
theorem FT{w:World}{v:Value}{l:List Int}{i:Nat}(h:KS w v l)(hl:l.length<=10000)(hi:i<=l.length)(x:Int):Calls Tryz.prog 63 #[v,.int .i64 (i:Int),.int .i64 x] w λe w'=>(∃v',e=.returned v'/\w'.ownsRow w.heap.size 3 1 v' (Tr.wi l i x).length ((Tr.wi l i x).map (Value.int .i64)))/\Below w.heap.size w w':=by
 obtain⟨A,c,rfl,hI,hlc,_,hcn⟩:=h.ints;have F1:=ah (Dw A l.length c i aj);have F2:=ah (qo A l.length c i hi);have U1:=hI.upto i c hi hlc;have U2:=λW (hb:Below w.heap.size w W)=>(hI.after hb).from_ i c hi hlc
 have N1:(if c=0 then A else A.map (·.add (0*1)))=none->c=0:=λh=>by
  split at h
  . assumption
  . cases A with
    | none=>exact hcn rfl
    | some _=>cases h
 have N2:(if c=i then A else A.map (·.add (i*1)))=none->c-i=0:=λh=>by
  split at h
  . omega
  . cases A with
    | none=>have:=hcn rfl;omega
    | some _=>cases h
 generalize (if c=0 then A else A.map (·.add (0*1)))=B1 at *;generalize (if c=i then A else A.map (·.add (i*1)))=B2 at *;obtain⟨v1,w1,hr1,ho1,hb1,hs1⟩:=jU (w0:=w) (base:=w.heap.size) (xs:=[]) (World.ownsRow_nil _ _ _ _) aF aD U1 (m:=i) (by rw[List.length_take];omega) N1 aj;obtain⟨v2,w2,hr2,ho2,hb2,hs2⟩:=Dt x ho1 hb1 hs1 aj;obtain⟨v3,w3,hr3,ho3,hb3,hs3⟩:=jU ho2 hb2 hs2 (U2 w2 hb2) (m:=l.length-i) (by rw[List.length_drop]) N2 aj;have e:(([]++l.take i)++[x])++l.drop i=Tr.wi l i x:=by unfold Tr.wi;simp
 have e2:0+i+1+(l.length-i)=(Tr.wi l i x).length:=by rw[Tr.mZ];omega
 rw[e,e2]at ho3;have HR1:=ah hr1;have HR2:=ah hr2;have HR3:=ah hr3;have HO:=ah ho3;have HB:=ah hb3;clear hr1 hr2 hr3 ho1 ho2 ho3 hb1 hb2 hb3 hs1 hs2 hs3 U1 U2 N1 N2 h hI hcn e e2 hlc;generalize Tr.wi l i x=l2 at *;generalize l.length=n at *;go_enter Tryz.func63,Tryz.ntmps63
 go_upto_region 3 with(first|(refine qY rfl aX (F1.out _) ?_)|(at_builtin;refine wpList_append_run aX _ _ 30 rfl rfl rfl HR1.out ?_))
 go_upto_region 4 with(at_builtin;refine wpList_append_run aX _ _ 30 rfl rfl rfl HR2.out ?_)
 go_wp2_with (first|(refine qY rfl aX (F2.out _) ?_)|(at_builtin;refine wpList_append_run aX _ _ 30 rfl rfl rfl HR3.out ?_))
 go_ret
 exact⟨⟨_,rfl,HO.out⟩,HB.out⟩
def mR(cur:Array Value)(o:Nat)(cs:Array Value):Array Value:=(cur.toList.take o++cs.toList++cur.toList.drop (o+cs.size)).toArray
theorem uh{cur:Array Value}{o:Nat}{cs:Array Value}(h:o+cs.size<=cur.size):(mR cur o cs).size=cur.size:=by
 unfold mR;simp only[List.size_toArray,List.length_append,List.length_take,List.length_drop,Array.length_toList];omega
theorem xU{cur:Array Value}{o:Nat}{cs:Array Value}(h:o+cs.size<=cur.size){j:Nat}(hj:j<cs.size):(mR cur o cs)[o+j]? = cs[j]? := by
 unfold mR;have ht:(cur.toList.take o).length=o:=by rw[List.length_take,Array.length_toList];omega
 rw[List.getElem?_toArray,List.append_assoc,List.getElem?_append_right aj,ht,show o+j-o=j by omega,List.getElem?_append_left (by rw[Array.length_toList];exact hj),Array.getElem?_toList]
theorem vT{cur:Array Value}{o:Nat}{cs:Array Value}(h:o+cs.size<=cur.size){k:Nat}(hk:k<o\/o+cs.size<=k):(mR cur o cs)[k]? = cur[k]? := by
 unfold mR;have ht:(cur.toList.take o).length=o:=by rw[List.length_take,Array.length_toList];omega
 rw[List.getElem?_toArray,List.append_assoc];rcases hk with hk|hk
 . rw[List.getElem?_append_left aj,List.getElem?_take,if_pos hk,Array.getElem?_toList]
 . rw[List.getElem?_append_right aj,ht,List.getElem?_append_right (by rw[Array.length_toList];omega),Array.length_toList,List.getElem?_drop,show o+cs.size+(k-o-cs.size)=k by omega,Array.getElem?_toList]
theorem O9(u:Int)(A:Option Addr)(n c:Nat)(s:Re.St):(fZ u (.slice A n c) s).all Value.oneCell'=true:=by
 unfold fZ;rw[Array.all_append,cells_one,Bool.and_true];simp[Value.oneCell']
theorem GZ:jH.all Value.oneCell'=true:=by
 unfold jH;rw[Array.all_append,cells_one,Bool.and_true];simp[Value.oneCell']
theorem xV{W:World}{g o:Nat}{cur cs:Array Value}{T t:TypeId}(h:At W g (.cells cur T))(hz:(sizeOf t).run Tryz.prog W=.ok cs.size W)(hone:cs.all Value.oneCell'=true)(hfit:o+cs.size<=cur.size):(Instr.storeAt t (.pointer (some ⟨g,o,none⟩)) (.agg cs)).run Tryz.prog W=.ok () (W.setRow g (mR cur o cs)):=by
 have hst:=run_storeCells_at Tryz.prog g o T cs.toList 0 cur W h (by rw[Array.length_toList];omega) (λx hx=>by
  have:=Array.all_eq_true_iff_forall_mem.1 hone x (by simpa using hx);exact this)
 rw[Nat.add_zero,Array.length_toList]at hst;have hc:(Value.agg cs).cells=cs:=rfl;simp only[Instr.storeAt,Instr.sureAddr,storeVar,Sem.run_bind,Sem.run_pure,Result.andThen_ok,hz,hc,ne_eq,not_true_eq_false,if_false,hst];rfl
theorem Place.keep{cur cur':Array Value}{i j:Nat}{v:Value}{o:Option Tr.Nd}(h:Place cur j v o)(hag:∀k,(k<i*58\/i*58+58<=k)->cur'[k]? = cur[k]?)(hne:j≠i):Place cur' j v o :=
 ⟨by rw[hag _ aj];exact h.live,λnd hn=>by rw[hag _ aj];exact h.up nd hn,λnd hn=>by rw[hag _ aj];exact h.kids nd hn,λnd hn q hq=>by rw[hag _ aj];exact h.sty nd hn q hq⟩
section
variable {W W':World} {r g c m:Nat} {K K':Int->Value} {T T':Tr.T}
theorem Doc.gb(h:Doc W r g c m K T){v:Value}{l:List Int}(hv:KS W v l):v.ownBlock≠some g:=λe=>by
 obtain⟨cur,h1,_⟩:=h.cur;obtain⟨ah1,h2⟩:=hv.rowAt e;have:=h1.uniq h2;injection this with _ e2;exact absurd e2 aH
theorem Doc.put(h:Doc W r g c m K T){i:Nat}(hi:i<m){cur cur':Array Value}(hcur:At W g (.cells cur 101))(hA:At W' g (.cells cur' 101))(hsz:cur'.size=cur.size)(hO:Out (λb=>b=g) W W')
  (hag:∀k,(k<i*58\/i*58+58<=k)->cur'[k]? = cur[k]?) (hP:Place cur' i (K' i) (T' i)) (hT:∀z,z≠(i:Int)->T' z=T z/\K' z=K z) (hrow:∀nd,T' i=some nd->KS W' (K' i) nd.kids):Doc W' r g c m K' T' where
 at_:=h.at_.out (λe=>h.rg e) hO
 cur:=by
  obtain⟨ajv,h1,h2,h3⟩:=h.cur;have e:=h1.uniq hcur;injection e with e;subst e;refine⟨cur',hA,by rw[hsz,h2],λj hj => ?_⟩;by_cases e:j=i
  . subst e;exact hP
  . obtain⟨e1,e2⟩:=hT (j:Int) aj
    rw[e1,e2];exact(h3 j hj).keep hag e
 cap:=h.cap
 lim:=h.lim
 row:=λz nd hz=>by
  by_cases e:z=(i:Int)
  . subst e;exact hrow nd hz
  . obtain⟨e1,e2⟩:=hT z e
    rw[e1]at hz;rw[e2];exact(h.row z nd hz).out (λb hb (q:b=g)=>h.gb (h.row z nd hz) (by rw[hb,q])) hO
 range:=λz nd hz=>by
  by_cases e:z=(i:Int)
  . omega
  . rw[(hT z e).1]at hz;exact h.range z nd hz
 small:=h.small
def DG(r g:Nat)(K:Int->Value)(T:Tr.T)(W W':World)(g':Nat)(K':Int->Value)(T':Tr.T):Prop:=Out (jC r g K T) W W'/\∀b,jC r g' K' T' b->jC r g K T b\/W.heap.size<=b
theorem DG.refl(r g:Nat)(K:Int->Value)(T:Tr.T)(W:World):DG r g K T W W g K T:=⟨Out.refl _ _,λ_ h => .inl h⟩
theorem DG.of_below(h:Below W.heap.size W W'):DG r g K T W W' g K T:=⟨Out.of_below h,λ_ h => .inl h⟩
theorem DG.trans{W'':World}{g' g'':Nat}{K'':Int->Value}{T'':Tr.T}(h:DG r g K T W W' g' K' T')(k:DG r g' K' T' W' W'' g'' K'' T''):DG r g K T W W'' g'' K'' T'':=by
 have hs:=h.1.size;refine⟨⟨h.1.1.trans k.1.1,λb hb hn => ?_⟩,λb hb => ?_⟩
 . rw[k.1.2 b aj (λq=>(h.2 b q).elim hn λq2=>by omega),h.1.2 b hb hn]
 . rcases k.2 b hb with h1|h1
   . exact h.2 b h1
   . exact .inr aj
theorem Doc.U4(h:Doc W r g c m K T){i:Nat}{nd:Tr.Nd}(hn:T i=some nd)(u:Int):Doc (W.setCell ⟨g,i*58+1,none⟩ (.int .i64 u)) r g c m K (Tr.set T i { nd with up:=u })/\DG r g K T W (W.setCell ⟨g,i*58+1,none⟩ (.int .i64 u)) g K (Tr.set T i { nd with up:=u }):=by
 obtain⟨cur,h1,h2,h3⟩:=h.cur;have him:i<m:=by have:=h.range _ _ hn;omega
 have hO:Out (λb=>b=g) W (W.setCell ⟨g,i*58+1,none⟩ (.int .i64 u)):=(Out.refl _ _).set (M:=λb=>b=g) rfl _ _;have hcap:=h.cap;have P:=h3 i him;have hne:∀k,k≠i*58+1->(cur.setIfInBounds (i*58+1) (.int .i64 u))[k]? = cur[k]? := λk hk=>Array.getElem?_setIfInBounds_ne aj;refine⟨h.put him h1 (h1.set _ _) eZ hO (λk hk=>hne k aj) ?_ (λz hz=>⟨Tr.aK _ _ hz,rfl⟩) (λnd' hn' => ?_),hO.mono λb _ q => .inr (.inl q),λb hb => .inl ?_⟩
 . rw[Tr.aN]
   rw[hn]at P;refine⟨by rw[hne _ aj];exact P.live,λnd' e => ?_,λnd' e => ?_,λnd' e j hj => ?_⟩
   . cases e
     rw[Array.getElem?_setIfInBounds_self_of_lt aj]
   . cases e;rw[hne _ aj];exact P.kids nd rfl
   . cases e;rw[hne _ aj];exact P.sty nd rfl j hj
 . rw[Tr.aN]at hn';cases hn'
   exact(h.row _ _ hn).out (λb hb (q:b=g)=>h.gb (h.row _ _ hn) (by rw[hb,q])) hO
 . exact Z2y
theorem Doc.sU(h:Doc W r g c m K T){i:Nat}{nd:Tr.Nd}(hn:T i=some nd){v:Value}{l:List Int}(hv:KS W v l):Doc (W.setCell ⟨g,i*58+2,none⟩ v) r g c m (λz=>if z=(i:Int)then v else K z) (Tr.set T i { nd with kids:=l }):=by
 obtain⟨cur,h1,h2,h3⟩:=h.cur;have him:i<m:=by have:=h.range _ _ hn;omega
 have hO:Out (λb=>b=g) W (W.setCell ⟨g,i*58+2,none⟩ v):=(Out.refl _ _).set (M:=λb=>b=g) rfl _ _;have hcap:=h.cap;have P:=h3 i him;have hne:∀k,k≠i*58+2->(cur.setIfInBounds (i*58+2) v)[k]? = cur[k]? := λk hk=>Array.getElem?_setIfInBounds_ne aj;refine h.put him h1 (h1.set _ _) eZ hO (λk hk=>hne k aj) ?_ (λz hz=>⟨Tr.aK _ _ hz,if_neg hz⟩) (λnd' hn' => ?_)
 . rw[Tr.aN]
   simp only[if_true];rw[hn]at P;refine⟨by rw[hne _ aj];exact P.live,λnd' e => ?_,λnd' e => ?_,λnd' e j hj => ?_⟩
   . cases e;rw[hne _ aj];exact P.up nd rfl
   . cases e
     rw[Array.getElem?_setIfInBounds_self_of_lt aj]
   . cases e;rw[hne _ aj];exact P.sty nd rfl j hj
 . rw[Tr.aN]at hn';cases hn'
   simp only[if_true];exact hv.out (λb hb (q:b=g)=>h.gb hv (by rw[hb,q])) hO
theorem qH{z:Int}{nd:Tr.Nd}{l:List Int}{v:Value}(hn:T z=some nd){b:Nat}(hb:jC r g (λy=>if y=z then v else K y) (Tr.set T z { nd with kids:=l }) b):jC r g K T b\/v.ownBlock=some b:=by
 rcases hb with e|e|⟨y,yd,hy,e⟩
 . exact .inl (.inl e)
 . exact .inl (.inr (.inl e))
 . by_cases e2:y=z
   . subst e2
     simp only[if_true]at e;exact .inr e
   . exact Z3e
theorem Doc.NQ(h:Doc W r g c m K T){i:Nat}{nd:Tr.Nd}(hn:T i=some nd)(s:Re.St):∃W',(Instr.storeAt 46 (.pointer (some ⟨g,i*58+3,none⟩)) (.agg (cells s))).run Tryz.prog W=.ok () W'/\Out (λb=>b=g) W W'/\Doc W' r g c m K (Tr.set T i { nd with sty:=s })/\DG r g K T W W' g K (Tr.set T i { nd with sty:=s }):=by
 obtain⟨cur,h1,h2,h3⟩:=h.cur;have him:i<m:=by have:=h.range _ _ hn;omega
 have hcap:=h.cap;have hfit:i*58+3+(cells s).size<=cur.size:=by rw[bI,h2];omega
 have hst:=xV h1 (t:=46) (cs:=cells s) (o:=i*58+3) (by rw[bI];kernel_rfl) (cells_one s) hfit;have hO:Out (λb=>b=g) W (W.setRow g (mR cur (i*58+3) (cells s))):=(Out.refl _ _).setRow (M:=λb=>b=g) rfl _;have P:=h3 i him;have hne:∀k,(k<i*58+3\/i*58+58<=k)->(mR cur (i*58+3) (cells s))[k]? = cur[k]? := λk hk=>vT hfit Z55;refine⟨_,hst,hO,h.put him h1 (h1.setRow _) (uh hfit) hO (λk hk=>hne k aj) ?_ (λz hz=>⟨Tr.aK _ _ hz,rfl⟩) (λnd' hn' => ?_),hO.mono λb _ q => .inr (.inl q),λb hb => .inl ?_⟩
 . rw[Tr.aN]
   rw[hn]at P;refine⟨by rw[hne _ aj];exact P.live,λnd' e => ?_,λnd' e => ?_,λnd' e j hj => ?_⟩
   . cases e;rw[hne _ aj];exact P.up nd rfl
   . cases e;rw[hne _ aj];exact P.kids nd rfl
   . cases e
     rw[xU hfit (by rw[bI];exact hj),iC s hj]
 . rw[Tr.aN]at hn';cases hn'
   exact(h.row _ _ hn).out (λb hb (q:b=g)=>h.gb (h.row _ _ hn) (by rw[hb,q])) hO
 . exact Z2y
theorem Doc.ab2(h:Doc W r g c m K T){i:Nat}(him:i<m)(hn:T i=none)(u:Int):∃W',(Instr.storeAt 101 (.pointer (some ⟨g,i*58,none⟩)) (.agg (fZ u (.slice none 0 0) Re.zero))).run Tryz.prog W=.ok () W'/\Out (λb=>b=g) W W'/\Doc W' r g c m (λz=>if z=(i:Int)then .slice none 0 0 else K z) (Tr.set T i ⟨u,[],Re.zero⟩)/\DG r g K T W W' g (λz=>if z=(i:Int)then .slice none 0 0 else K z) (Tr.set T i ⟨u,[],Re.zero⟩):=by
 obtain⟨cur,h1,h2,h3⟩:=h.cur;have hcap:=h.cap;have hsz:=Bl u (.slice none 0 0) Re.zero;have hfit:i*58+(fZ u (.slice none 0 0) Re.zero).size<=cur.size:=by rw[hsz,h2];omega
 have hst:=xV h1 (t:=101) (cs:=fZ u (.slice none 0 0) Re.zero) (o:=i*58) (by rw[hsz];kernel_rfl) (O9 _ _ _ _ _) hfit;have hO:Out (λb=>b=g) W (W.setRow g (mR cur (i*58) (fZ u (.slice none 0 0) Re.zero))):=(Out.refl _ _).setRow (M:=λb=>b=g) rfl _;have hin:∀j,j<58->(mR cur (i*58) (fZ u (.slice none 0 0) Re.zero))[i*58+j]? = (fZ u (.slice none 0 0) Re.zero)[j]? := λj hj=>xU hfit (by rw[hsz];exact hj);refine⟨_,hst,hO,h.put him h1 (h1.setRow _) (uh hfit) hO (λk hk=>vT hfit (by rw[hsz];omega)) ?_ (λz hz=>⟨Tr.aK _ _ hz,if_neg hz⟩) (λnd' hn' => ?_),hO.mono λb _ q => .inr (.inl q),λb hb => ?_⟩
 . rw[Tr.aN]
   simp only[if_true];refine⟨?_,λnd' e => ?_,λnd' e => ?_,λnd' e j hj => ?_⟩
   . have:=hin 0 aj;rw[Nat.add_zero,oH _ _ _ aj]at this;exact this
   . cases e;have:=hin 1 aj;rw[oH _ _ _ aj]at this;exact this
   . cases e;have:=hin 2 aj;rw[oH _ _ _ aj]at this;exact this
   . cases e;have:=hin (3+j) aj;rw[EF _ _ _ hj]at this;rw[Nat.add_assoc];exact this
 . rw[Tr.aN]at hn';cases hn'
   simp only[if_true];exact KS.nil _
 . rcases hb with e|e|⟨z,zd,hz,e⟩
   . exact .inl (.inl e)
   . exact .inl (.inr (.inl e))
   . by_cases e2:z=(i:Int)
     . subst e2;simp only[if_true]at e;cases e
     . rw[Tr.aK _ _ e2]at hz
       simp only[if_neg e2]at e;exact .inl (.inr (.inr ⟨z,zd,hz,e⟩))
theorem Doc.Xw(h:Doc W r g c m K T){i:Nat}(him:i<m):∃W',(Instr.storeAt 101 (.pointer (some ⟨g,i*58,none⟩)) (.agg jH)).run Tryz.prog W=.ok () W'/\Out (λb=>b=g) W W'/\Doc W' r g c m K (Tr.del T [(i:Int)])/\DG r g K T W W' g K (Tr.del T [(i:Int)]):=by
 obtain⟨cur,h1,h2,h3⟩:=h.cur;have hcap:=h.cap;have hfit:i*58+jH.size<=cur.size:=by rw[oG,h2];omega
 have hst:=xV h1 (t:=101) (cs:=jH) (o:=i*58) (by rw[oG];kernel_rfl) GZ hfit;have hO:Out (λb=>b=g) W (W.setRow g (mR cur (i*58) jH)):=(Out.refl _ _).setRow (M:=λb=>b=g) rfl _;have hdel:Tr.del T [(i:Int)] i=none:=by simp[Tr.del]
 have hdo:∀z,z≠(i:Int)->Tr.del T [(i:Int)] z=T z:=λz hz=>by simp[Tr.del,hz]
 refine⟨_,hst,hO,h.put him h1 (h1.setRow _) (uh hfit) hO (λk hk=>vT hfit (by rw[oG];omega)) ?_ (λz hz=>⟨hdo z hz,rfl⟩) (λnd' hn' => ?_),hO.mono λb _ q => .inr (.inl q),λb hb => ?_⟩
 . rw[hdel]
   refine⟨?_,λnd' e=>(by cases e),λnd' e=>(by cases e),λnd' e=>(by cases e)⟩;have:=xU hfit (j:=0) (by rw[oG];omega);rw[Nat.add_zero]at this;rw[this];rfl
 . rw[hdel]at hn';cases hn'
 . rcases hb with e|e|⟨z,zd,hz,e⟩
   . exact .inl (.inl e)
   . exact .inl (.inr (.inl e))
   . by_cases e2:z=(i:Int)
     . subst e2;rw[hdel]at hz;cases hz
     . rw[hdo z e2]at hz;exact .inl (.inr (.inr ⟨z,zd,hz,e⟩))
end
theorem Xx:(Tryz.prog.info? 101).map (λi=>(i.zero,i.size,i.bytes))=some (some (.agg jH),58,472):=by kernel_rfl
section
variable {W W':World} {r g c m:Nat} {K K':Int->Value} {T T':Tr.T}
theorem Doc.grow(h:Doc W r g c m K T)(hm:m+1<=4096):∃g' c' w1,(Builtin.append_ #[102,102] 102 #[.slice (some ⟨g,0,none⟩) m c,.slice (some ⟨W.heap.size,0,none⟩) 1 1]).run Tryz.prog (W.alloc (.cells jH 101))=.ok (.slice (some ⟨g',0,none⟩) (m+1) c') w1 /\
  At w1 r (.cells #[.slice (some ⟨g,0,none⟩) m c] 104)/\Doc (w1.setCell ⟨r,0,none⟩ (.slice (some ⟨g',0,none⟩) (m+1) c')) r g' c' (m+1) K T/\DG r g K T W (w1.setCell ⟨r,0,none⟩ (.slice (some ⟨g',0,none⟩) (m+1) c')) g' K T:=by
 obtain⟨i0,hi0,hz0,hz1,hz2⟩:=info_parts Xx;obtain⟨cur,h1,h2,h3⟩:=h.cur;have hcap:=h.cap;have hlim:=h.lim;have hown:W.ownsRow 0 101 58 (.slice (some ⟨g,0,none⟩) m c) m (cur.toList.take (m*58)):=by
  refine⟨by rw[List.length_take,Array.length_toList];omega,.inr ⟨g,c,cur,rfl,fC _,h1,hcap,hlim,h2,rfl⟩⟩
 have hA:=At.new W (.cells jH 101)
 obtain⟨v',w1,hr,ho,hg,_,hblk⟩:=run_append_own_at (P:=Tryz.prog) (w:=W.alloc (.cells jH 101)) 0 102 102 101 i0 _ 58 472 Tryz.underlying102 hi0 hz0 hz1 hz2 oG aH _ m _ (hown.alloc _) ⟨W.heap.size,0,none⟩ 1 1 jH.toList (by rw[Array.length_toList,oG])
  (by intro j u hj
      rw[addr_add,Nat.zero_add,hA.cell,<-hj,Array.getElem?_toList])
  (λx hx=>Array.all_eq_true_iff_forall_mem.1 GZ x (by simpa using hx)) Py aj eZ
 rcases ho.2 with⟨_,h0⟩|⟨g',c',cur',rfl,_,hg',hc1,hc2,hc3,hc4⟩
 . omega
 have hs1:(W.alloc (.cells jH 101)).heap.size=W.heap.size+1:=by simp
 have iA:Out (λb=>b=g) (W.alloc (.cells jH 101)) w1:=Out.grown hg (λb e=>by injection e with e;exact e.symm);have hO0:Out (λb=>b=g) W (W.alloc (.cells jH 101)):=Out.of_below (Below.alloc' aF _);have hO:Out (λb=>b=g) W w1:=hO0.trans iA;have hrA:=h.at_.out (λe=>h.rg e) hO;have hgn:g'=g\/W.heap.size<=g':=by
  rcases hblk with e|e
  . injection e with e;exact .inl e
  . injection e with e;have e':g'=(W.alloc (.cells jH 101)).heap.size:=e;exact .inr aj
 have hgr:g'≠r:=by
  rcases hgn with e|e
  . rw[e];exact λq=>h.rg q.symm
  . have:=h.lt (.inl rfl);omega
 have hget:∀k,k<(m+1)*58->cur'[k]? = (cur.toList.take (m*58)++jH.toList)[k]? := λk hk=>by
  rw[<-hc4,List.getElem?_take,if_pos hk,Array.getElem?_toList]
 have htl:(cur.toList.take (m*58)).length=m*58:=by rw[List.length_take,Array.length_toList];omega
 have hold:∀k,k<m*58->cur'[k]? = cur[k]? := λk hk=>by
  rw[hget k aj,List.getElem?_append_left aj,List.getElem?_take,if_pos hk,Array.getElem?_toList]
 have hO2:Out (λb=>b=r) w1 (w1.setCell ⟨r,0,none⟩ (.slice (some ⟨g',0,none⟩) (m+1) c')):=(Out.refl _ _).set (M:=λb=>b=r) rfl _ _;have hO3:Out (jC r g K T) W (w1.setCell ⟨r,0,none⟩ (.slice (some ⟨g',0,none⟩) (m+1) c')):=(hO.mono λb _ q => .inr (.inl q)).trans (hO2.mono λb _ q => .inl q);refine⟨g',c',w1,hr,hrA,⟨hrA.set 0 _,⟨cur',(show At w1 g' _ from hg').off hgr 0 _,hc3,λi hi => ?_⟩,hc1,hc2,λz nd hz => ?_,λz nd hz => ?_,hm⟩,hO3,λb hb => ?_⟩
 . by_cases e:i=m
   . subst e
     have hn:T (i:Int)=none:=by
      cases e:T (i:Int)with
      | none=>rfl
      | some nd=>have:=h.range _ _ e;omega
     rw[hn];refine⟨?_,λnd' e=>(by cases e),λnd' e=>(by cases e),λnd' e=>(by cases e)⟩;rw[hget _ aj,List.getElem?_append_right aj,htl,Nat.sub_self];rfl
   . have P:=h3 i aj
     exact⟨by rw[hold _ aj];exact P.live,λnd hn=>by rw[hold _ aj];exact P.up nd hn,λnd hn=>by rw[hold _ aj];exact P.kids nd hn,λnd hn q hq=>by rw[hold _ aj];exact P.sty nd hn q hq⟩
 . have hk:=(h.row z nd hz).out (λb hb (q:b=g)=>h.gb (h.row z nd hz) (by rw[hb,q])) hO
   refine hk.out (λb hb (q:b=r) => ?_) hO2;obtain⟨ah1,hc⟩:=hk.rowAt (hb.trans (congrArg some q));have:=hrA.uniq hc;injection this with _ e2;exact absurd e2 aH
 . have:=h.range z nd hz;omega
 . rcases hb with e|e|hb
   . exact .inl (.inl e)
   . rcases hgn with q|q
     . exact .inl (.inr (.inl (e.trans q)))
     . exact .inr aj
   . exact .inl (.inr (.inr hb))
end
theorem Xy(w:World):Calls Tryz.prog 17 #[] w λe w'=>(∃r,e=.returned (.pointer (some ⟨r,0,none⟩))/\∃g c K,Doc w' r g c 1 K T0/\∀b,jC r g K T0 b->w.heap.size<=b)/\Below w.heap.size w w':=by
 have hA1:At (w.alloc (.cells (fZ (-1) (.slice none 0 0) Re.zero) 101)) w.heap.size (.cells (fZ (-1) (.slice none 0 0) Re.zero) 101):=At.new _ _;have hB1:Below w.heap.size w (w.alloc (.cells (fZ (-1) (.slice none 0 0) Re.zero) 101)):=Below.alloc' aF _;have hs1:(w.alloc (.cells (fZ (-1) (.slice none 0 0) Re.zero) 101)).heap.size=w.heap.size+1:=by simp
 have hB2:=Below.alloc' hB1 (.cells #[.slice (some ⟨w.heap.size,0,none⟩) 1 1] 104)
 have some_:∀z nd,T0 z=some nd->z=0/\nd=⟨-1,[],Re.zero⟩:=λz nd hz=>by
  unfold T0 at hz;split at hz
  . injection hz with hz;exact⟨by assumption,hz.symm⟩
  . cases hz
 have hsz:=Bl (-1) (.slice none 0 0) Re.zero
 have hD:Hid (Doc ((w.alloc (.cells (fZ (-1) (.slice none 0 0) Re.zero) 101)).alloc (.cells #[.slice (some ⟨w.heap.size,0,none⟩) 1 1] 104)) (w.heap.size+1) w.heap.size 1 1 (λ_ => .slice none 0 0) T0):=ah (by
  refine⟨At.new' _ eZ,⟨_,hA1.alloc _,by rw[hsz],λi hi => ?_⟩,aG _,by simp[maxLen],λz nd hz => ?_,λz nd hz => ?_,by omega⟩
  . obtain rfl:i=0:=by omega
    have e0:T0 ((0:Nat):Int)=some ⟨-1,[],Re.zero⟩:=rfl;rw[e0];refine⟨?_,λnd e => ?_,λnd e => ?_,λnd e j hj => ?_⟩
    . rw[oH _ _ _ aj];rfl
    . cases e;rw[oH _ _ _ aj];rfl
    . cases e;rw[oH _ _ _ aj];rfl
    . cases e;rw[show 0*58+3+j=3+j by omega,EF _ _ _ hj]
  . rw[(some_ z nd hz).2];exact KS.nil _
  . rw[(some_ z nd hz).1];omega)
 have hBB:=ah hB2;clear hA1 hB1 hB2;go_enter Tryz.func17,Tryz.ntmps17
 go_wp2_with (first|(refine wpList_build aX 101 _ rfl #[(0,.bool true),(1,.int .i64 (-1))] YD (CF _ _) ?_)|(refine wpList_buildSlice aX 102 1 _ rfl #[(0,.agg (fZ (-1) (.slice none 0 0) Re.zero))] YD (Mx _) ?_)|(refine wpList_build aX 104 _ rfl #[(0,.slice (some ⟨w.heap.size,0,none⟩) 1 1)] YD (Mw _ _ _ _) ?_))
 go_ret
 refine⟨⟨w.heap.size+1,rfl,_,_,_,hD.out,λb hb => ?_⟩,hBB.out⟩;rcases hb with rfl|rfl|⟨z,nd,hz,e⟩
 . omega
 . exact aG _
 . cases e
theorem Xz{w:World}{r g c m:Nat}{K:Int->Value}{T:Tr.T}(h:Doc w r g c m K T)(z:Int)(s:Re.St):Calls Tryz.prog 41 #[.pointer (some ⟨r,0,none⟩),.int .i64 z,.agg (cells s)] w λe w'=>e=.returned (.int .i64 (qp T z s))/\Doc w' r g c m K (jv T z s)/\DG r g K T w w' g K (jv T z s):=by
 have hB:Below w.heap.size w (w.alloc (.cells (cells s) 46)):=Below.alloc' aF _;have h1:=h.after hB;have hA:At (w.alloc (.cells (cells s) 46)) w.heap.size (.cells (cells s) 46):=At.new _ _;have hnb:¬ jC r g K T w.heap.size:=λq=>absurd (h.lt q) aj;generalize hW:w.alloc (.cells (cells s) 46)=w1 at *;have key:=jf h1 z;cases hT:T z with
 | none =>
   have hE:qp T z s=2:=by unfold qp;rw[hT];rfl
   have hS:jv T z s=T:=by unfold jv;rw[hE];rfl
   rw[kX hT]at key;rw[hE,hS];have HR:=ah h1;have HB:=ah hB;clear h h1 hB hE hS;go_enter Tryz.func41,Tryz.ntmps41
   go_wp2_with (go_at_call 43;(with_reducible refine key.mono ?_);rintro e w' ⟨rfl,rfl⟩)
   go_ret
   exact⟨rfl,HR.out,DG.of_below HB.out⟩
 | some nd =>
   rw[kW hT]at key;have key2:=E8 s w1;cases hv:Re.valid s with
   | false =>
     have hE:qp T z s=1:=by unfold qp;rw[hT,hv];rfl
     have hS:jv T z s=T:=by unfold jv;rw[hE];rfl
     rw[hv]at key2;rw[hE,hS];have HR:=ah h1;have HB:=ah hB;clear h h1 hB hE hS;go_enter Tryz.func41,Tryz.ntmps41
     go_wp2_with (first|(refine bq aX _ rfl rfl hA ?_)|(go_at_call 43;(with_reducible refine key.mono ?_);rintro e w' ⟨rfl,rfl⟩)|(go_at_call 64;(with_reducible refine key2.mono ?_);rintro e w2 ⟨rfl,hb2⟩))
     go_ret
     exact⟨rfl,HR.out.after hb2,DG.of_below (HB.out.trans (hb2.mono HB.out.size))⟩
   | true =>
     have hE:qp T z s=0:=by unfold qp;rw[hT,hv];rfl
     have hS:jv T z s=Tr.set T z { nd with sty:=s }:=by unfold jv Tr.yE;rw[hE,hT];rfl
     rw[hv]at key2;rw[hE,hS];obtain⟨i,rfl,him⟩:=h.nat hT;have HR:=ah h1;have HB:=ah hB;clear h h1 hB hE hS;go_enter Tryz.func41,Tryz.ntmps41
     go_upto_region 6 with(first|(refine bq aX _ rfl rfl hA ?_)|(go_at_call 43;(with_reducible refine key.mono ?_);rintro e w' ⟨rfl,rfl⟩)|(go_at_call 64;(with_reducible refine key2.mono ?_);rintro e w2 ⟨rfl,hb2⟩))
     have hR2:=(HR.out.after hb2).after (Below.refl _ w2).drew;have hA2:At w2.drew w.heap.size (.cells (cells s) 46):=(hA.keep hb2).drew;have hO2:Below w.heap.size w w2.drew:=(HB.out.trans (hb2.mono HB.out.size)).drew;obtain⟨W3,hst,hOO,hD3,hG3⟩:=hR2.NQ hT s;have hA3:=hA2.out (λ(q:w.heap.size=g)=>hnb (.inr (.inl q))) hOO;generalize hW2:w2.drew=W2 at *;have hS0:W2.cell? ⟨r,0,none⟩=some (.slice (some ⟨g,0,none⟩) m c)/\At W2 w.heap.size (.cells (cells s) 46):=⟨hR2.cT,hA2⟩;have uN:=ah (show _/\At W3 w.heap.size (.cells (cells s) 46)from⟨hD3.cT,hA3⟩);have HST:=ah hst;have HD3:=ah hD3;have HG3:=ah ((DG.of_below hO2).trans hG3);clear hR2 hA2 hO2 hD3 hG3 hst hA3 HR HB hA hb2 hOO;refine ak.qX (S:=(λW'=>W'.cell? ⟨r,0,none⟩=some (.slice (some ⟨g,0,none⟩) m c)/\At W' w.heap.size (.cells (cells s) 46))) 9 jD ?_ ?_
     . rw[hW2];exact hS0
     intro hS1;rw[hW2];clear hS1 hW2;refine aW 0 ?_;refine aW 1 ?_;refine aW 2 ?_;refine aW 3 ?_;refine aW 4 ?_;refine rO 5 rfl (kI aX (.tmp 5) rfl rfl (λW h=>h.2)) ?_;refine aW 6 ?_;refine aW 7 ?_;refine tk1 8 ?_;refine ak.Step.skip (sS (.tmp 23) (.tmp 21) rfl rfl rfl HST.out) ?_;refine⟨λ_=>uN.out,?_⟩
     (try simp only[bL,bM,bN,tks])
     refine ko ?_;go_wp2
     go_ret
     exact⟨rfl,HD3.out,HG3.out⟩
theorem MB{T:Tr.T}{z u:Int}{i:Nat}{p:Tr.Nd}(hu:T u=some p)(hz:T z=none):Tr.pK T z u i=Tr.set (Tr.set T z ⟨u,[],Re.zero⟩) u { p with kids:=Tr.wi p.kids i z }:=by
 have hne:u≠z:=λe=>by rw[e,hz]at hu;cases hu
 funext y;rw[Tr.Dh hu hz];by_cases e:y=z
 . rw[if_pos e,e,Tr.aK _ _ (Ne.symm hne),Tr.aN]
 . rw[if_neg e]
   by_cases e2:y=u
   . rw[if_pos e2,e2,Tr.aN]
   . rw[if_neg e2,Tr.aK _ _ e2,Tr.aK _ _ e]
theorem aa'{w:World}{r g c m:Nat}{K:Int->Value}{T:Tr.T}(h:Doc w r g c m K T)(H:Tr.WF T)(hn:(Tr.ord T).length<4096){u a:Int}(hE0:Tr.nD T u a≠0):Calls Tryz.prog 42 #[.pointer (some ⟨r,0,none⟩),.int .i64 u,.int .i64 a] w λe w'=>e=.returned (.tuple #[.int .i64 (Tr.tF T u a),.int .i64 (Tr.nD T u a)])/\Doc w' r g c m K (Tr.jE T u a)/\DG r g K T w w' g K (Tr.jE T u a):=by
 have hI:Tr.tF T u a = -1:=by unfold Tr.tF;rw[if_neg hE0]
 have hR:Tr.jE T u a=T:=by unfold Tr.jE;rw[if_neg hE0]
 rw[hI,hR];have HD:=ah h;have key:=jf h u;cases hT:T u with
 | none =>
   have hE:Tr.nD T u a=2:=by unfold Tr.nD;rw[hT]
   rw[hE];rw[kX hT]at key;clear h hI hR hE hE0;exact Z28
 | some p =>
   rw[kW hT]at key;obtain⟨iu,rfl,him⟩:=h.nat hT;have c0:=h.cT;have c1:=h.lZ hT;obtain⟨A,cc,hv,_⟩:=(h.row _ p hT).ints;rw[hv]at c1;have hkl:=H.qK hT;by_cases hr:a<0\/(p.kids.length:Int)<a
   . have hE:Tr.nD T iu a=1:=by unfold Tr.nD;rw[hT];dsimp only;rw[if_pos hr]
     rw[hE];clear h hI hR hE hE0 hv;generalize p.kids.length=n at *;rcases hr with hr|hr
     . exact Z28
     . have hr0:¬ a<0:=by omega
       exact Z28
   . have hr0:¬ a<0:=λe=>hr (.inl e)
     have hr1:¬ (p.kids.length:Int)<a:=λe=>hr (.inr e);have nU:=EH h H;obtain⟨d,hd1,hd2,hd3⟩:=H.iZ hT;have KD:=ah λW (hb:Below w.heap.size w W)=>qP (h.after hb) (λ_ q=>H.tC q) hd2 aj;have Vg:(63:Int)<=(d:Int):=by
      unfold Tr.nD at hE0;rw[hT]at hE0;dsimp only at hE0;rw[if_neg hr,hd3]at hE0;by_cases e:(63:Int)<=(d:Int)
      . exact e
      . rw[if_neg e]at hE0;exact absurd rfl hE0
     have hE:Tr.nD T iu a=5:=by unfold Tr.nD;rw[hT];dsimp only;rw[if_neg hr,hd3,if_pos Vg]
     rw[hE];have hnn:¬ (4096:Int)<=((Tr.ord T).length:Int):=by omega
     clear h hI hR hE hE0 hv hd2 hd3 hr;generalize p.kids.length=n at *;generalize (Tr.ord T).length=q at *;go_enter Tryz.func42,Tryz.ntmps42
     go_wp2_with (first|(go_at_call 43;(with_reducible refine key.mono ?_);rintro e w' ⟨rfl,rfl⟩)|(go_at_call 65;(with_reducible refine nU.mono ?_);rintro e w1 ⟨rfl,hb1⟩)|(go_at_call 21;(with_reducible refine(KD.out _ hb1).mono ?_);rintro e w' ⟨rfl,rfl⟩))
     go_ret2
     exact⟨rfl,HD.out.after hb1,DG.of_below hb1⟩
theorem S9{w:World}{r g c m:Nat}{K:Int->Value}{T:Tr.T}(h:Doc w r g c m K T)(H:Tr.WF T)(hn:(Tr.ord T).length<4096)(hmm:m+1<=4096){u a:Int}{p:Tr.Nd}(hu:T u=some p){i:Nat}(ha:a=i)(hi:i<=p.kids.length){d:Nat}(hd:Tr.Dp T u d)(ach:d<63){k:Nat}(hk:Tr.Free T (k:Int))(hkm:k<m):Calls Tryz.prog 42 #[.pointer (some ⟨r,0,none⟩),.int .i64 u,.int .i64 a] w λe w'=>e=.returned (.tuple #[.int .i64 (k:Int),.int .i64 0])/\∃g' c' m' K',Doc w' r g' c' m' K' (Tr.pK T (k:Int) u i)/\m'<=m+1/\DG r g K T w w' g' K' (Tr.pK T (k:Int) u i):=by
 subst ha;have key:=jf h u;rw[kW hu]at key;obtain⟨iu,rfl,him⟩:=h.nat hu;have c0:=h.cT;have c1:=h.lZ hu;obtain⟨A,cc,hv,_⟩:=(h.row _ p hu).ints;rw[hv]at c1;have hkl:=H.qK hu;have nU:=EH h H;have KD:=ah λW (hb:Below w.heap.size w W)=>qP (h.after hb) (λ_ q=>H.tC q) hd aj;have hnn:¬ (4096:Int)<=((Tr.ord T).length:Int):=by omega
 have hdd:¬ (63:Int)<=(d:Int):=by omega
 have hr0:¬ (i:Int)<0:=by omega
 have hr1:¬ (p.kids.length:Int)<(i:Int):=by omega
 have hT:=ah (MB (i:=i) hu hk.2.1);rw[hT.out];have HD:=ah h;have HV:=ah hv;have HU:=ah hu;have HK:=ah hk;have hil:=ah hi;have aed:Hid (p.kids.length<=10000):=ah aj;clear h hv hd hT hu hk hi hkl;generalize hnk:p.kids.length=nk at *;have HNK:=ah hnk;clear hnk;generalize (Tr.ord T).length=q at *;go_enter Tryz.func42,Tryz.ntmps42
 go_upto_region 9 with(first|(go_at_call 43;(with_reducible refine key.mono ?_);rintro e w' ⟨rfl,rfl⟩)|(go_at_call 65;(with_reducible refine nU.mono ?_);rintro e w1 ⟨rfl,hb1⟩)|(go_at_call 21;(with_reducible refine(KD.out _ hb1).mono ?_);rintro e w' ⟨rfl,rfl⟩))
 have HB1:=ah hb1;clear key nU KD c1;have H1:=ah (HD.out.after hb1);clear hb1 HD c0;go_wp2
 go_loopw [8] (λiv wr=>∃k':Nat,k'<=k/\iv=.int .i64 (k':Int)/\wr=w') (λiv _=>k-(intOf iv).toNat)
 case atStart=>exact⟨0,by omega,rfl,rfl⟩
 case round =>
  obtain⟨k',hk',rfl,rfl⟩:=hrel;have Bt:=jf H1.out (k':Int);by_cases hlt:k'<k
  . exact Z25
  . obtain rfl:k'=k:=by omega
    rw[kX HK.out.2.1]at Bt;have h1:=H1.out;obtain⟨gd,rfl⟩:∃x,x=g:=⟨_,rfl⟩;obtain⟨cd,rfl⟩:∃x,x=c:=⟨_,rfl⟩;obtain⟨md,rfl⟩:∃x,x=m:=⟨_,rfl⟩;have hD:=h1;have hG:=DG.refl r gd K T wr;have hkd:k'<md:=hkm;have ah2:iu<md:=him;have hml:md<=md+1:=aj;have hkz:¬ (k':Int)=(md:Int):=aj;have ajw:((k':Int)==(md:Int))=false:=(by simpa using hkz);have c0:=h1.cT;have HD:=ah hD;have HG:=ah hG;clear hD hG h1 H1
    go_upto_region 14 with(first|(go_at_call 43;(with_reducible refine Bt.mono ?_);rintro e w' ⟨rfl,rfl⟩)|(refine wpList_build aX 101 _ rfl #[] eZ (vS _) ?_)|(refine wpList_buildSlice aX 102 1 _ rfl #[(0,.agg jH)] YD (Bn _) ?_)|(at_builtin;refine wpList_append_run aX _ _ 102 rfl rfl rfl agt.out ?_))
    obtain⟨Wd,rfl⟩:∃x,x=wr:=⟨_,rfl⟩;exact Zd
theorem Ta{w:World}{r g c m:Nat}{K:Int->Value}{T:Tr.T}(h:Doc w r g c m K T)(H:Tr.WF T)(hn:(Tr.ord T).length<4096)(hmm:m+1<=4096){u a:Int}{p:Tr.Nd}(hu:T u=some p){i:Nat}(ha:a=i)(hi:i<=p.kids.length){d:Nat}(hd:Tr.Dp T u d)(ach:d<63){k:Nat}(hk:Tr.Free T (k:Int))(hkm:k=m):Calls Tryz.prog 42 #[.pointer (some ⟨r,0,none⟩),.int .i64 u,.int .i64 a] w λe w'=>e=.returned (.tuple #[.int .i64 (k:Int),.int .i64 0])/\∃g' c' m' K',Doc w' r g' c' m' K' (Tr.pK T (k:Int) u i)/\m'<=m+1/\DG r g K T w w' g' K' (Tr.pK T (k:Int) u i):=by
 subst ha;have key:=jf h u;rw[kW hu]at key;obtain⟨iu,rfl,him⟩:=h.nat hu;have c0:=h.cT;have c1:=h.lZ hu;obtain⟨A,cc,hv,_⟩:=(h.row _ p hu).ints;rw[hv]at c1;have hkl:=H.qK hu;have nU:=EH h H;have KD:=ah λW (hb:Below w.heap.size w W)=>qP (h.after hb) (λ_ q=>H.tC q) hd aj;have hnn:¬ (4096:Int)<=((Tr.ord T).length:Int):=by omega
 have hdd:¬ (63:Int)<=(d:Int):=by omega
 have hr0:¬ (i:Int)<0:=by omega
 have hr1:¬ (p.kids.length:Int)<(i:Int):=by omega
 have hT:=ah (MB (i:=i) hu hk.2.1);rw[hT.out];have HD:=ah h;have HV:=ah hv;have HU:=ah hu;have HK:=ah hk;have hil:=ah hi;have aed:Hid (p.kids.length<=10000):=ah aj;clear h hv hd hT hu hk hi hkl;generalize hnk:p.kids.length=nk at *;have HNK:=ah hnk;clear hnk;generalize (Tr.ord T).length=q at *;go_enter Tryz.func42,Tryz.ntmps42
 go_upto_region 9 with(first|(go_at_call 43;(with_reducible refine key.mono ?_);rintro e w' ⟨rfl,rfl⟩)|(go_at_call 65;(with_reducible refine nU.mono ?_);rintro e w1 ⟨rfl,hb1⟩)|(go_at_call 21;(with_reducible refine(KD.out _ hb1).mono ?_);rintro e w' ⟨rfl,rfl⟩))
 have HB1:=ah hb1;clear key nU KD c1;have H1:=ah (HD.out.after hb1);clear hb1 HD c0;go_wp2
 go_loopw [8] (λiv wr=>∃k':Nat,k'<=k/\iv=.int .i64 (k':Int)/\wr=w') (λiv _=>k-(intOf iv).toNat)
 case atStart=>exact⟨0,by omega,rfl,rfl⟩
 case round =>
  obtain⟨k',hk',rfl,rfl⟩:=hrel;have Bt:=jf H1.out (k':Int);by_cases hlt:k'<k
  . exact Z25
  . obtain rfl:k'=k:=by omega
    rw[kX HK.out.2.1]at Bt;have h1:=H1.out;obtain⟨gd,cd,w2,agu,hrA,hD,hG⟩:=h1.grow hmm;have agt:=ah agu;have c0:=h1.cT;have cB:w2.cell? ⟨r,0,none⟩=some (.slice (some ⟨g,0,none⟩) m c):=(by rw[hrA.cell];rfl);have cC:=hrA.thaw 0;have hkd:k'<m+1:=aj;have ah2:iu<m+1:=aj;have hml:m+1<=m+1:=aG _;clear agu hrA;subst hkm;have HD:=ah hD;have HG:=ah hG;clear hD hG h1 H1
    go_upto_region 14 with(first|(go_at_call 43;(with_reducible refine Bt.mono ?_);rintro e w' ⟨rfl,rfl⟩)|(refine wpList_build aX 101 _ rfl #[] eZ (vS _) ?_)|(refine wpList_buildSlice aX 102 1 _ rfl #[(0,.agg jH)] YD (Bn _) ?_)|(at_builtin;refine wpList_append_run aX _ _ 102 rfl rfl rfl agt.out ?_))
    generalize w2.setCell ⟨r,0,none⟩ (.slice (some ⟨gd,0,none⟩) (k'+1) cd)=Wd at *;generalize hmd:k'+1=md at *;replace hml:=Nat.le_of_eq hmd.symm;clear hmd;exact Zd
theorem G5{T:Tr.T}{x:Int}{nd p:Tr.Nd}(hx:T x=some nd)(hp:T nd.up=some p):Tr.leave T x=Tr.set T nd.up { p with kids:=Tr.wo p.kids x }:=by
 unfold Tr.leave;rw[hx];dsimp only;rw[hp]
theorem Tc{ops:Array Oper}{S:World->Prop}{o:Oper}{a:Act}{v:Value}(hrun:∀w,(Instr.build 101 #[]).run Tryz.prog w=.ok v w)(hw:Region.wanted o (yielded ops a.tmps)=true)(ho:o.op=.build 101 #[]):ak.Reads Tryz.prog ops S o v a :=
 .inl ⟨hw,λw _=>by unfold execOp;simp only[ho,List.map_toArray,List.map_nil,Sem.run_bind,hrun w,Result.andThen_ok,Sem.run_pure]⟩
theorem MC{w:World}{r g c m:Nat}{K:Int->Value}{T:Tr.T}(h:Doc w r g c m K T)(H:Tr.WF T)(x:Int):Calls Tryz.prog 38 #[.pointer (some ⟨r,0,none⟩),.int .i64 x] w λe w'=>e=.returned (.tuple #[.int .i64 (Tr.wK T x),.int .i64 (Tr.qV T x)])/\∃K',Doc w' r g c m K' (Tr.nT T x)/\DG r g K T w w' g K' (Tr.nT T x):=by
 have HD:=ah h;have key:=jf h x;cases hT:T x with
 | none =>
   have hE:Tr.qV T x=2:=by unfold Tr.qV;rw[hT]
   have hI:Tr.wK T x=0:=by unfold Tr.wK;rw[hE];rfl
   have hR:Tr.nT T x=T:=by unfold Tr.nT;rw[hE];rfl
   rw[hE,hI,hR];rw[kX hT]at key;clear h hE hI hR;exact Z3j
 | some nd =>
   rw[kW hT]at key;by_cases h0:x=0
   . have hE:Tr.qV T x=1:=by unfold Tr.qV;rw[hT];exact if_pos h0
     have hI:Tr.wK T x=0:=by unfold Tr.wK;rw[hE];rfl
     have hR:Tr.nT T x=T:=by unfold Tr.nT;rw[hE];rfl
     rw[hE,hI,hR];clear h hE hI hR;subst h0;exact Z3j
   . have hE:Tr.qV T x=0:=by unfold Tr.qV;rw[hT];exact if_neg h0
     have hI:Tr.wK T x=((Tr.sub T 64 x).length:Int):=by unfold Tr.wK;rw[hE];rfl
     obtain⟨p,hp,hxp⟩:=H.up x nd hT h0;have hR:Tr.nT T x=Tr.del (Tr.set T nd.up { p with kids:=Tr.wo p.kids x }) (Tr.sub T 64 x):=by unfold Tr.nT;rw[hE,if_pos rfl,<-G5 hT hp];rfl
     rw[hE,hI,hR];have hsl:(Tr.sub T 64 x).length<=4096:=by
      have:=H.Cg hT h0;have:=H.jB;omega
     have rF:=qQ 64 x h (H.iF hT) aj
     have hin:∀y∈Tr.sub T 64 x,0<=y/\y<m:=λy hy=>by
      obtain⟨yd,P6⟩:=((H.gF (H.iF hT)).1 hy).live;exact h.range _ _ P6
     have hpk:p.kids.length<=10000:=by have:=H.qK hp;have:=H.jB;omega
     obtain⟨nu,nk,ns⟩:=nd;dsimp only at hp hR;obtain⟨iu,rfl,him⟩:=h.nat hp;obtain⟨ix,rfl,hix⟩:=h.nat hT;have h0b:((ix:Int)==0)=false:=by simpa using h0
     have HT:=ah hT;have HP:=ah hp;have wH:=ah hin;have HPK:=ah hpk;clear hE hI hR hxp hT hp hin hpk;generalize hl:Tr.sub T 64 (ix:Int)=l at *;clear hl;generalize hn:l.length=n at *;have HN:=ah hn;clear hn;go_enter Tryz.func38,Tryz.ntmps38
     go_upto_region 6 with(first|(go_at_call 43;(with_reducible refine key.mono ?_);rintro e w' ⟨rfl,rfl⟩)|(go_at_call 20;(with_reducible refine rF.mono ?_);rintro e w1 ⟨⟨v1,rfl,ho1⟩,hb1⟩;obtain⟨A1,c1,rfl⟩:=fK ho1))
     have D1:=HD.out.after hb1;have c4:=D1.cT;have c5:=D1.cUp HT.out;have c6:=D1.lZ HP.out;have jO:=D1.row _ _ HP.out;obtain⟨A,cc,hv,_⟩:=jO.ints;rw[hv]at c6 jO;have Br:=ah jO;have HV:=ah hv;have HD1:=ah D1;have HO1:=ah ho1;have HB1:=ah hb1;clear h key rF jO hv D1 ho1 hb1;generalize hnk:p.kids.length=nk at *;have HNK:=ah hnk;clear hnk
     go_upto_region 7 with(fail)
     clear c5;refine lF (S:=(λW'=>W'.cell? ⟨r,0,none⟩=some (.slice (some ⟨g,0,none⟩) m c)/\W'.cell? ⟨g,iu*58+2,none⟩=some (.slice A nk cc)/\Below w1.heap.size w1 W')) 15 ?_ ?_
     . exact⟨c4,c6,Below.drew aF⟩
     intro hS0;clear c4 c6;refine aW 0 ?_;refine aW 1 ?_;refine aW 2 ?_;refine aW 3 ?_;refine aW 4 ?_;refine aW 5 ?_;refine aW 6 ?_;refine aW 7 ?_;refine aW 8 ?_;refine aW 9 ?_;refine aW 10 ?_;refine aW 11 ?_;refine aW 12 ?_;refine aW 13 ?_;refine tk1 14 ?_;refine ak.Step.call dV (ug (Br.out.after hS0.2.2) (by rw[HNK.out];exact HPK.out) (ix:Int)) ?_;rintro e w6 ⟨⟨v6,rfl,BZ⟩,hb6⟩;have hS1:=hS0.2.2.trans (hb6.mono hS0.2.2.size);have JG:=fH BZ sQ;have hown6:=λb hb=>aJ hS0.2.2.size (World.ownsRow.lt BZ b hb).1;obtain⟨A6,c6,rfl⟩:=fK BZ;have hD6:=HD1.out.after hS1;have c7:=hD6.cT;have c8:=hD6.lZ HP.out;rw[HV.out]at c8;obtain⟨cur,hcur,_⟩:=hD6.cur;have hth:=hcur.thaw (iu*58+2);have hD7:=ah (hD6.sU HP.out JG)
     have M0:DG r g K T w1 (w6.setCell ⟨g,iu*58+2,none⟩ (.slice A6 (Tr.wo p.kids ix).length c6)) g (λz=>if z=(iu:Int)then .slice A6 (Tr.wo p.kids ix).length c6 else K z) (Tr.set T iu { p with kids:=Tr.wo p.kids ix }) :=
      ⟨(Out.of_below hS1).trans ((Out.refl _ _).set (M:=jC r g K T) (.inr (.inl rfl)) _ _),λb hb=>(qH HP.out hb).elim .inl λq => .inr (hown6 b q)⟩
     have HG7:=ah ((DG.of_below HB1.out).trans M0);have EP:=bJ HO1.out (λb hb (q:jC r g K T b)=>absurd (HD.out.lt q) (by have:=(World.ownsRow.lt HO1.out b hb).1;omega)) M0.1;have HO7:=ah EP;refine⟨_,rfl,λ_=>⟨c7,c8,hS1⟩,?_⟩;clear M0 hS0 hS1 JG hown6 BZ hb6 hcur hD6 Br HB1 HO1 EP HV HD1;generalize hnl:(Tr.wo p.kids (ix:Int)).length=nl at *
     (try simp only[bL,bM,bN,tks])
     refine tk1 15 ?_;refine uM ?_ (hS:=by first|(intro hlt;exact absurd hlt aH)|(intro _;exact hlt));refine tk1 16 ?_;refine uM ?_ (hS:=by first|(intro hlt;exact absurd hlt aH)|(intro _;exact hlt));refine tk1 17 ?_;refine ak.Step.skip Z4k ?_;refine⟨by first|(intro hlt;exact absurd hlt aH)|(intro _;exact hlt),?_⟩;(try simp only[Act.put]);refine ko ?_;clear hnl c7 c8 hth;generalize hT7:Tr.set T (iu:Int) { p with kids:=Tr.wo p.kids ix }=T7 at *;generalize hK7:(λz:Int=>if z=(iu:Int)then Value.slice A6 nl c6 else K z)=K7 at *;generalize w6.setCell ⟨g,iu*58+2,none⟩ (.slice A6 nl c6)=w7 at *;have HT7:=ah hT7;clear hT7 hK7
     have hOG:Hid (∀b,(Value.slice A1 n c1).ownBlock=some b->b≠g):=ah λb hb e=>by
      have:=(World.ownsRow.lt HO7.out b hb).1;have:=HD.out.lt (b:=g) (.inr (.inl rfl));omega
     go_wp2
     go_loopw [8] (λiv wr=>∃k:Nat,k<=n/\iv=.int .i64 (k:Int)/\Doc wr r g c m K7 (Tr.del T7 (l.take k))/\DG r g K T w wr g K7 (Tr.del T7 (l.take k))/\wr.ownsRow w.heap.size 3 1 (.slice A1 n c1) n (l.map (Value.int .i64))) (λiv _=>n-(intOf iv).toNat)
     case atStart=>exact⟨0,by omega,rfl,by rw[List.take_zero,Cm];exact hD7.out,by rw[List.take_zero,Cm];exact HG7.out,HO7.out⟩
     case round =>
      obtain⟨k,hk,rfl,hd,hg,ho⟩:=hrel;by_cases hlt:k<n
      . have hltz:(k:Int)<(n:Int):=by omega
        obtain⟨hI,_⟩:=KS.wu (l:=l) (by have:=fH (base':=0) ho sQ;unfold KS;rw[HN.out];exact this);obtain⟨b6,o6,rfl,lb6,EG⟩:=hI.at_ (k:=k) Tt;have hat:l[k]? = some (l.getD k 0):=by rw[List.getD,List.getElem?_eq_getElem Tt];rfl
        have hmem:=List.mem_of_getElem? hat;obtain⟨y0,y1⟩:=wH.out _ hmem;have hstep:=ah (P9 T7 l hat);generalize l.getD k 0=y at *;obtain⟨iy,rfl⟩:∃i:Nat,y=i:=⟨y.toNat,by omega⟩;have hiy:iy<m:=by omega
        obtain⟨w8,hst,hO8,hD8,hG8⟩:=hd.after (Below.refl _ wr).drew |>.Xw hiy
        have c7:=hd.cT;have HST:=ah hst;have Wo:=ah vS;generalize jH=dz at *;have HD8:=ah hD8;have HG8:=ah ((hg.trans (DG.of_below (Below.refl _ wr).drew)).trans hG8);have HO8:=ah (bJ (bJ (M:=λ_=>False) ho (λ_ _ q=>q) (Out.of_below (Below.refl _ wr).drew)) (λb hb (q:b=g)=>hOG.out b hb q) hO8);clear hst hO8 hD8 hG8 hd hg ho hI hmem hat
        go_upto_region 11 with(fail)
        refine lF (S:=(λW'=>W'.cell? ⟨r,0,none⟩=some (.slice (some ⟨g,0,none⟩) m c)/\W'.cell? ⟨b6,o6+k,none⟩=some (.int .i64 (iy:Int)))) 9 ?_ ?_
        . exact⟨c7,EG⟩
        intro hS0;clear c7 EG;refine aW 0 ?_;refine aW 1 ?_;refine aW 2 ?_;refine aW 3 ?_;refine aW 4 ?_;refine aW 5 ?_;refine aW 6 ?_;refine aW 7 ?_;refine rO 8 rfl (Tc Wo.out aX rfl) ?_;refine tk1 9 ?_;refine uM ?_ (hS:=by first|(intro hlt;exact absurd hlt aH)|(intro _;exact hlt));refine tk1 10 ?_;refine ak.Step.skip (sS (.tmp 58) (.tmp 57) rfl rfl rfl HST.out) ?_;refine⟨λhlt=>absurd hlt aH,?_⟩
        (try simp only[bL,bM,bN,tks])
        refine ko ?_;go_wp2
        go_roundw
        case rel=>exact⟨k+1,by omega,by go_num,by rw[<-hstep.out];exact HD8.out,by rw[<-hstep.out];exact HG8.out,HO8.out⟩
        case measure=>simp[intOf];omega
      . obtain rfl:k=n:=by omega
        rw[List.take_of_length_le (by rw[HN.out];exact aG _)]at hd hg;have HD8:=ah hd;have HG8:=ah hg;clear hd hg ho;go_wp2
        go_ret2
        rw[HT7.out];exact⟨rfl,_,HD8.out,HG8.out⟩
def vU(T:Tr.T)(dx:Int)(l:List Int):Int:=l.foldl (λm y=>max m (Tr.dep T y-dx)) 0
theorem Pb(T:Tr.T)(dx:Int)(l:List Int)(y:Int):vU T dx (l++[y])=max (vU T dx l) (Tr.dep T y-dx):=by simp[vU]
theorem uj(f:Int->Int)(l:List Int):∀m,m<=l.foldl (λm y=>max m (f y)) m/\(∀y∈l,f y<=l.foldl (λm y=>max m (f y)) m)/\∀B,m<=B->(∀y∈l,f y<=B)->l.foldl (λm y=>max m (f y)) m<=B:=by
 induction l with
 | nil=>intro m;exact⟨Int.le_refl _,by simp,λB h _=>h⟩
 | cons k l ih =>
   intro m;simp only[List.foldl_cons];obtain⟨h1,h2,h3⟩:=ih (max m (f k));refine⟨by omega,λy hy => ?_,λB hB hl=>h3 B ?_ λy hy=>hl y (List.mem_cons_of_mem _ hy)⟩
   . rcases List.mem_cons.1 hy with rfl|hy
     . omega
     . exact h2 y hy
   . have:=hl k List.mem_cons_self;omega
theorem ME{T:Tr.T}(H:Tr.WF T){dx:Int}(hx:0<=dx)(l:List Int):0<=vU T dx l/\vU T dx l<=63 :=
 ⟨(uj _ l 0).1,(uj _ l 0).2.2 63 aj λy _=>by have:=(Xl H y).2;omega⟩
theorem Td{T:Tr.T}(H:Tr.WF T){x:Int}{nd:Tr.Nd}(hx:T x=some nd):vU T (Tr.dep T x) (Tr.sub T 64 x)=(Tr.hgt T 64 x:Int):=by
 obtain⟨d,h1,h2,h3⟩:=H.iZ hx;obtain⟨y,hy,hd⟩:=H.PS (H.iF hx) h2;have e:=H.Ik hd;have hge:=(uj (λy=>Tr.dep T y-Tr.dep T x) (Tr.sub T 64 x) 0).2.1 y hy
 have hle:=(uj (λy=>Tr.dep T y-Tr.dep T x) (Tr.sub T 64 x) 0).2.2 (Tr.hgt T 64 x:Int) aj λz hz=>by
  obtain⟨zd,hzd⟩:=((H.gF (H.iF hx)).1 hz).live;obtain⟨dz,q1,q2,q3⟩:=H.iZ hzd;have:=H.Uw (H.iF hx) h2 hz q2;omega
 unfold vU;omega
theorem abb{T:Tr.T}{x u:Int}{i:Nat}{nd p q:Tr.Nd}(hx:T x=some nd)(hp:T nd.up=some p)(hne:nd.up≠x)(hux:u≠x)(hu:Tr.set T nd.up { p with kids:=Tr.wo p.kids x } u=some q):Tr.mq T x u i=Tr.set (Tr.set (Tr.set T nd.up { p with kids:=Tr.wo p.kids x }) u { q with kids:=Tr.wi q.kids i x }) x { nd with up:=u }:=by
 unfold Tr.mq Tr.enter;rw[G5 hx hp,hu,Tr.aK _ _ (Ne.symm hne),hx]
theorem Te{w:World}{r g c m:Nat}{K:Int->Value}{T:Tr.T}(h:Doc w r g c m K T)(H:Tr.WF T)(x u a:Int):Calls Tryz.prog 40 #[.pointer (some ⟨r,0,none⟩),.int .i64 x,.int .i64 u,.int .i64 a] w λe w'=>e=.returned (.int .i64 (Tr.jI T x u a))/\∃K',Doc w' r g c m K' (Tr.mD T x u a)/\DG r g K T w w' g K' (Tr.mD T x u a):=by
 have HD:=ah h;have key:=jf h x;have uT:=jf h u;have same:∀e,Tr.jI T x u a=e->e≠0->Tr.mD T x u a=T:=λe he hne=>by unfold Tr.mD;rw[he,if_neg hne]
 cases hX:T x with
 | none =>
   have hE:Tr.jI T x u a=2:=by unfold Tr.jI;rw[hX]
   rw[hE,same _ hE aH];rw[kX hX]at key;clear h uT same hE;exact Z1q
 | some nd =>
 rw[kW hX]at key;cases hU:T u with
 | none =>
   have hE:Tr.jI T x u a=2:=by unfold Tr.jI;rw[hX,hU]
   rw[hE,same _ hE aH];rw[kX hU]at uT;clear h same hE;exact Z1q
 | some q =>
 rw[kW hU]at uT;have hE0:Tr.jI T x u a=if x=0 then 1 else if u∈Tr.sub T 64 x then 3 else if a<0\/((Tr.wo q.kids x).length:Int)<a then 1 else if 63<Tr.dep T u+1+Tr.hgt T 64 x then 5 else 0:=by unfold Tr.jI;rw[hX,hU]
 by_cases h0:x=0
 . have hE:Tr.jI T x u a=1:=by rw[hE0,if_pos h0]
   rw[hE,same _ hE aH];clear h same hE hE0;subst h0;exact Z1q
 rw[if_neg h0]at hE0;have h0b:(x==0)=false:=by simpa using h0
 have hsl:(Tr.sub T 64 x).length<=4096:=by
  have:=H.Cg hX h0;have:=H.jB;omega
 have rF:=qQ 64 x h (H.iF hX) aj;have hall:=Td H hX;have TA:0<=Tr.dep T x/\Tr.dep T x<=63:=by obtain⟨d,d1,d2,d3⟩:=H.iZ hX;omega
 have hdu:0<=Tr.dep T u/\Tr.dep T u<=63:=by obtain⟨d,d1,d2,d3⟩:=H.iZ hU;omega
 obtain⟨p,hp,hxp⟩:=H.up x nd hX h0;have hqk:q.kids.length<=10000:=by have:=H.qK hU;have:=H.jB;omega
 have hpk:p.kids.length<=10000:=by have:=H.qK hp;have:=H.jB;omega
 have hoth:=H.others hX hU h0;have hself:x∈Tr.sub T 64 x:=(H.gF (H.iF hX)).2 (.refl hX);have adY:nd.up≠x:=λe=>H.qh hX h0 (by rw[e];exact hself);obtain⟨nu,nk,ns⟩:=nd;dsimp only at hp hoth adY;obtain⟨iv,rfl,hiv⟩:=h.nat hp;obtain⟨iu,rfl,hiu⟩:=h.nat hU;obtain⟨ix,rfl,hix⟩:=h.nat hX;have HX:=ah hX;have HU:=ah hU;have HP:=ah hp;have HE0:=ah hE0;have HS:=ah same;have HAL:=ah hall;have HQK:=ah hqk;have HPK:=ah hpk;have HOT:=ah hoth;have HNX:=ah adY;have HSF:=ah hself;clear hX hU hp hxp hE0 same hall hqk hpk hoth adY hself;generalize hl:Tr.sub T 64 (ix:Int)=l at *;clear hl;generalize hn:l.length=n at *;have HN:=ah hn;clear hn;go_enter Tryz.func40,Tryz.ntmps40
 go_upto_region 6 with(first|(go_at_call 43;first|((with_reducible refine key.mono ?_);rintro e w' ⟨rfl,rfl⟩)|((with_reducible refine uT.mono ?_);rintro e w' ⟨rfl,rfl⟩))|(go_at_call 20;(with_reducible refine rF.mono ?_);rintro e w1 ⟨⟨v1,rfl,ho1⟩,hb1⟩;obtain⟨A1,c1,rfl⟩:=fK ho1))
 have D1:=HD.out.after hb1;have KX:=ah (uf D1 H (ix:Int));have c4:=D1.cT;have HD1:=ah D1;have HO1:=ah ho1;have HB1:=ah hb1;clear h key uT rF D1 ho1 hb1;go_wp2
 go_loopw [10,11] (λdv iv wr=>∃k:Nat,k<=n/\iv=.int .i64 (k:Int)/\dv=.int .i64 (vU T (Tr.dep T ix) (l.take k))/\(iu:Int) ∉ l.take k/\wr=w1) (λ_ iv _=>n-(intOf iv).toNat)
 case atStart=>exact⟨0,by omega,rfl,rfl,by simp,rfl⟩
 case round =>
  obtain⟨k,hk,rfl,rfl,hni,rfl⟩:=hrel;by_cases hlt:k<n
  . have hltz:(k:Int)<(n:Int):=by omega
    obtain⟨hI,_⟩:=KS.wu (l:=l) (by have:=fH (base':=0) HO1.out sQ;unfold KS;rw[HN.out];exact this);obtain⟨b6,o6,rfl,lb6,EG⟩:=hI.at_ (k:=k) Tt;have hat:l[k]? = some (l.getD k 0):=by rw[List.getD,List.getElem?_eq_getElem Tt];rfl
    have hmem:=List.mem_of_getElem? hat;have Qz:=eO l k Tt;clear hI hat;generalize l.getD k 0=y at *;by_cases hyu:y=(iu:Int)
    . subst hyu
      have hE:Tr.jI T ix iu a=3:=by rw[HE0.out,if_pos hmem]
      have HR:=ah (show _/\_ from⟨hE,HS.out _ hE aH⟩);clear hmem Qz hni hE;go_wp2
      go_ret
      rw[HR.out.1,HR.out.2];exact⟨rfl,_,HD1.out,DG.of_below HB1.out⟩
    . have hyb:(y==(iu:Int))=false:=by simpa using hyu
      have hstep:Hid (vU T (Tr.dep T ix) (l.take (k+1))=max (vU T (Tr.dep T ix) (l.take k)) (Tr.dep T y-Tr.dep T ix)):=ah (by rw[Qz,Pb]);have ah3:Hid ((iu:Int) ∉ l.take (k+1)):=ah (by rw[Qz];simp only[List.mem_append,List.mem_singleton,not_or];exact⟨hni,λe=>hyu e.symm⟩);have KY:=ah (uf HD1.out H y);obtain⟨f1,f2⟩:=Xl H y;have hw:IntKind.i64.wrap (Tr.dep T y-Tr.dep T ix)=Tr.dep T y-Tr.dep T ix:=IntWalk.i64_in _ aj;clear hmem Qz hni hyu;generalize Tr.dep T y=dy at *;generalize Tr.dep T (ix:Int)=dx at *;generalize vU T dx (l.take k)=dk at *
      go_wp2_with (first|(go_at_call 21;first|((with_reducible refine(KY.out).mono ?_);rintro e w' ⟨rfl,rfl⟩)|((with_reducible refine(KX.out).mono ?_);rintro e w' ⟨rfl,rfl⟩)))
      go_roundw
      case rel=>exact⟨k+1,by omega,by go_num,by rw[hstep.out],ah3.out,trivial⟩
      case measure=>simp[intOf];omega
  . obtain rfl:k=n:=by omega
    rw[List.take_of_length_le (by rw[HN.out];exact aG _)]at hni ⊢;rw[HAL.out];have hE1:=HE0.out;rw[if_neg hni]at hE1;have HE1:=ah hE1;have HNI:=ah hni;clear hE1 hni HE0;have c5:=HD1.out.lZ HU.out;have jO:=HD1.out.row _ _ HU.out;obtain⟨A,cc,hv,_⟩:=jO.ints;rw[hv]at c5 jO;have Br:=ah jO;clear jO hv;by_cases ha:a<0
    . have hE:Tr.jI T ix iu a=1:=by rw[HE1.out,if_pos (.inl ha)]
      have HR:=ah (show _/\_ from⟨hE,HS.out _ hE aH⟩);clear hE;go_wp2
      go_ret
      rw[HR.out.1,HR.out.2];exact⟨rfl,_,HD1.out,DG.of_below HB1.out⟩
    obtain⟨i,rfl⟩:∃i:Nat,a=i:=⟨a.toNat,by omega⟩;have agv:=ug Br.out HQK.out (ix:Int);generalize hnq:q.kids.length=nq at *;have HNQ:=ah hnq;clear hnq;generalize hnw:(Tr.wo q.kids (ix:Int)).length=nw at *;have HNW:=ah hnw;clear hnw;by_cases hal:nw<i
    . have hE:Tr.jI T ix iu i=1:=by rw[HE1.out,if_pos (.inr aj)]
      have HR:=ah (show _/\_ from⟨hE,HS.out _ hE aH⟩);have ah4:(nw:Int)<(i:Int):=by omega
      clear hE
      go_wp2_with (go_at_call 59;(with_reducible refine agv.mono ?_);rintro e w6 ⟨⟨v6,rfl,BZ⟩,hb6⟩;obtain⟨A6,c6,rfl⟩:=fK BZ)
      go_ret
      rw[HR.out.1,HR.out.2];exact⟨rfl,_,HD1.out.after hb6,DG.of_below (HB1.out.trans (hb6.mono HB1.out.size))⟩
    have ah4:¬ (nw:Int)<(i:Int):=by omega
    go_upto_region 15 with(go_at_call 59;(with_reducible refine agv.mono ?_);rintro e w6 ⟨⟨v6,rfl,BZ⟩,hb6⟩;obtain⟨A6,c6,rfl⟩:=fK BZ)
    have D6:=HD1.out.after hb6;have KU:=ah (uf D6 H (iu:Int));have hw1:IntKind.i64.wrap (Tr.dep T iu+1)=Tr.dep T iu+1:=IntWalk.i64_in _ aj;have hb2:=ME H (l:=l) TA.1;rw[HAL.out]at hb2;have hw2:IntKind.i64.wrap (Tr.dep T iu+1+(Tr.hgt T 64 ix:Int))=Tr.dep T iu+1+(Tr.hgt T 64 ix:Int):=IntWalk.i64_in _ aj;have HHG:Hid (∀e:Int,e=e):=ah λ_=>rfl;by_cases hdd:63<Tr.dep T iu+1+(Tr.hgt T 64 ix:Int)
    . have hE:Tr.jI T ix iu i=5:=by rw[HE1.out,if_neg (λq=>q.elim (λq=>absurd q aj) (λq=>absurd q aj)),if_pos hdd]
      have HR:=ah (show _/\_ from⟨hE,HS.out _ hE aH⟩);have HD6:=ah D6;have HB6:=ah (HB1.out.trans (hb6.mono HB1.out.size));clear hE D6 hb6;generalize Tr.dep T (iu:Int)=du at *;generalize Tr.hgt T 64 (ix:Int)=hg at *
      go_wp2_with (go_at_call 21;(with_reducible refine(KU.out).mono ?_);rintro e w' ⟨rfl,rfl⟩)
      go_ret
      rw[HR.out.1,HR.out.2];exact⟨rfl,_,HD6.out,DG.of_below HB6.out⟩
    have hE:Tr.jI T ix iu i=0:=by rw[HE1.out,if_neg (λq=>q.elim (λq=>absurd q aj) (λq=>absurd q aj)),if_neg hdd]
    have adZ:(iu:Int)≠ix:=λe=>by have:=HSF.out;rw[<-e]at this;exact HNI.out this
    obtain⟨q1,hq1,hql⟩:∃q1,Tr.set T (iv:Int) { p with kids:=Tr.wo p.kids ix } iu=some q1/\q1.kids.length=nw:=by
     by_cases e:(iu:Int)=iv
     . have e2:=HU.out
       rw[e,HP.out]at e2;cases e2;exact⟨_,by rw[e,Tr.aN],HNW.out⟩
     . refine⟨q,by rw[Tr.aK _ _ e];exact HU.out,?_⟩
       have:=HOT.out;rw[if_neg (λq=>e q.symm)]at this;have:=HNQ.out;omega
    have hR:Tr.mD T ix iu i=Tr.set (Tr.set (Tr.set T (iv:Int) { p with kids:=Tr.wo p.kids ix }) iu { q1 with kids:=Tr.wi q1.kids i ix }) ix ⟨iu,nk,ns⟩:=by
     unfold Tr.mD;rw[if_pos hE,Int.toNat_natCast];exact abb HX.out HP.out HNX.out adZ hq1
    have HR:=ah (show _/\_ from⟨hE,hR⟩);have hx2:Tr.set (Tr.set T (iv:Int) { p with kids:=Tr.wo p.kids ix }) iu { q1 with kids:=Tr.wi q1.kids i ix } ix=some ⟨iv,nk,ns⟩:=by
     rw[Tr.aK _ _ (Ne.symm adZ),Tr.aK _ _ (Ne.symm HNX.out)];exact HX.out
    have HX2:=ah hx2;have Yy:=ah hq1;have hil:Hid (i<=q1.kids.length):=ah aj;have ah5:Hid (q1.kids.length<=10000):=ah (by have h1:=List.length_filter_le (λy=>y != (ix:Int)) q.kids;have h2:=HNW.out;have h3:=HNQ.out;have h4:=HQK.out;unfold Tr.wo at h2;omega);have HG6:=ah (DG.of_below (r:=r) (g:=g) (K:=K) (T:=T) (HB1.out.trans (hb6.mono HB1.out.size)));have c4:=D6.cT;have c5:=D6.cUp HX.out;have HD6:=ah D6;clear hE hR hx2 hq1 hql adZ hb6 D6 HE1 HS HAL hb2 BZ;generalize Tr.dep T (iu:Int)=du at *;generalize Tr.hgt T 64 (ix:Int)=hg at *
    go_upto_region 18 with(go_at_call 21;(with_reducible refine(KU.out).mono ?_);rintro e w6 ⟨rfl,rfl⟩)
    clear c5 KU;have c5:=HD6.out.lZ HP.out;have jO:=HD6.out.row _ _ HP.out;obtain⟨Ap,cp,hv,_⟩:=jO.ints;rw[hv]at c5 jO;have Br:=ah jO;have HV:=ah hv;clear jO hv;have HPL:=ah (aG p.kids.length);generalize hnp:p.kids.length=np at *;have HNP:=ah hnp;clear hnp;refine lF (S:=(λW'=>W'.cell? ⟨r,0,none⟩=some (.slice (some ⟨g,0,none⟩) m c)/\W'.cell? ⟨g,iv*58+2,none⟩=some (.slice Ap np cp)/\Below w6.heap.size w6 W')) 15 ?_ ?_
    . exact⟨c4,c5,Below.drew aF⟩
    intro hS0;clear c4 c5;refine aW 0 ?_;refine aW 1 ?_;refine aW 2 ?_;refine aW 3 ?_;refine aW 4 ?_;refine aW 5 ?_;refine aW 6 ?_;refine aW 7 ?_;refine aW 8 ?_;refine aW 9 ?_;refine aW 10 ?_;refine aW 11 ?_;refine aW 12 ?_;refine aW 13 ?_;refine tk1 14 ?_;refine ak.Step.call dV (ug (Br.out.after hS0.2.2) (by rw[HNP.out];exact HPK.out) (ix:Int)) ?_;rintro e w8 ⟨⟨v6,rfl,BZ⟩,hb6⟩;have hS1:=hS0.2.2.trans (hb6.mono hS0.2.2.size);have JG:=fH BZ sQ;have hown6:=λb hb=>aJ hS0.2.2.size (World.ownsRow.lt BZ b hb).1;obtain⟨A8,c8_,rfl⟩:=fK BZ;have hD6:=HD6.out.after hS1;have c7:=hD6.cT;have c8:=hD6.lZ HP.out;rw[HV.out]at c8;obtain⟨cur,hcur,_⟩:=hD6.cur;have hth:=hcur.thaw (iv*58+2);have hD7:=ah (hD6.sU HP.out JG)
    have M0:DG r g K T w6 (w8.setCell ⟨g,iv*58+2,none⟩ (.slice A8 (Tr.wo p.kids (ix:Int)).length c8_)) g (λz=>if z=(iv:Int)then .slice A8 (Tr.wo p.kids (ix:Int)).length c8_ else K z) (Tr.set T iv { p with kids:=Tr.wo p.kids ix }) :=
     ⟨(Out.of_below hS1).trans ((Out.refl _ _).set (M:=jC r g K T) (.inr (.inl rfl)) _ _),λb hb=>(qH HP.out hb).elim .inl λq => .inr (hown6 b q)⟩
    have HG9:=ah (HG6.out.trans M0);have HD9:=ah hD7.out;refine⟨_,rfl,λ_=>⟨c7,c8,hS1⟩,?_⟩;clear M0 hS0 hS1 JG hown6 BZ hb6 hcur hD6 hD7;generalize hnl:(Tr.wo p.kids (ix:Int)).length=n8 at *
    (try simp only[bL,bM,bN,tks])
    refine tk1 15 ?_;refine uM ?_ (hS:=by first|(intro hlt;exact absurd hlt aH)|(intro _;exact hlt));refine tk1 16 ?_;refine uM ?_ (hS:=by first|(intro hlt;exact absurd hlt aH)|(intro _;exact hlt));refine tk1 17 ?_;refine ak.Step.skip Z4k ?_;refine⟨by first|(intro hlt;exact absurd hlt aH)|(intro _;exact hlt),?_⟩;(try simp only[Act.put]);refine ko ?_;clear hnl c7 c8 hth;generalize hT9:Tr.set T (iv:Int) { p with kids:=Tr.wo p.kids ix }=T9 at *;generalize hK9:(λz:Int=>if z=(iv:Int)then Value.slice A8 n8 c8_ else K z)=K9 at *;generalize w8.setCell ⟨g,iv*58+2,none⟩ (.slice A8 n8 c8_)=w9 at *;have HT9:=ah hT9;clear hT9 hK9;have c4:=HD9.out.cT;have c5:=HD9.out.lZ Yy.out;have jO:=HD9.out.row _ _ Yy.out;obtain⟨Aq,cq,hv,_⟩:=jO.ints;rw[hv]at c5 jO;have abZ:=ah jO;have HV2:=ah hv;clear jO hv Br HV HD6 HG6;generalize hnp:q1.kids.length=nz at *;have HNZ:=ah hnp;clear hnp
    go_upto_region 19 with(fail)
    refine lF (S:=(λW'=>W'.cell? ⟨r,0,none⟩=some (.slice (some ⟨g,0,none⟩) m c)/\W'.cell? ⟨g,iu*58+2,none⟩=some (.slice Aq nz cq)/\Below w9.heap.size w9 W')) 16 ?_ ?_
    . exact⟨c4,c5,Below.drew aF⟩
    intro hS0;clear c4 c5;refine aW 0 ?_;refine aW 1 ?_;refine aW 2 ?_;refine aW 3 ?_;refine aW 4 ?_;refine aW 5 ?_;refine aW 6 ?_;refine aW 7 ?_;refine aW 8 ?_;refine aW 9 ?_;refine aW 10 ?_;refine aW 11 ?_;refine aW 12 ?_;refine aW 13 ?_;refine aW 14 ?_;refine tk1 15 ?_;refine ak.Step.call dV (FT (abZ.out.after hS0.2.2) (by rw[HNZ.out];exact ah5.out) (by rw[HNZ.out];exact hil.out) (ix:Int)) ?_;rintro e je ⟨⟨v6,rfl,BZ⟩,hb6⟩;have hS1:=hS0.2.2.trans (hb6.mono hS0.2.2.size);have JG:=fH BZ sQ;have hown6:=λb hb=>aJ hS0.2.2.size (World.ownsRow.lt BZ b hb).1;obtain⟨TP,abd,rfl⟩:=fK BZ;have hD6:=HD9.out.after hS1;have c7:=hD6.cT;have c8:=hD6.lZ Yy.out;rw[HV2.out]at c8;obtain⟨cur,hcur,_⟩:=hD6.cur;have hth:=hcur.thaw (iu*58+2);have hD7:=ah (hD6.sU Yy.out JG)
    have M0:DG r g K9 T9 w9 (je.setCell ⟨g,iu*58+2,none⟩ (.slice TP (Tr.wi q1.kids i (ix:Int)).length abd)) g (λz=>if z=(iu:Int)then .slice TP (Tr.wi q1.kids i (ix:Int)).length abd else K9 z) (Tr.set T9 iu { q1 with kids:=Tr.wi q1.kids i ix }) :=
     ⟨(Out.of_below hS1).trans ((Out.refl _ _).set (M:=jC r g K9 T9) (.inr (.inl rfl)) _ _),λb hb=>(qH Yy.out hb).elim .inl λq => .inr (hown6 b q)⟩
    have agw:=ah (HG9.out.trans M0);have XA:=ah hD7.out;refine⟨_,rfl,λ_=>⟨c7,c8,hS1⟩,?_⟩;clear M0 hS0 hS1 JG hown6 BZ hb6 hcur hD6 hD7;generalize hnl:(Tr.wi q1.kids i (ix:Int)).length=n10 at *
    (try simp only[bL,bM,bN,tks])
    refine tk1 16 ?_;refine uM ?_ (hS:=by first|(intro hlt;exact absurd hlt aH)|(intro _;exact hlt));refine tk1 17 ?_;refine uM ?_ (hS:=by first|(intro hlt;exact absurd hlt aH)|(intro _;exact hlt));refine tk1 18 ?_;refine ak.Step.skip Z4k ?_;refine⟨by first|(intro hlt;exact absurd hlt aH)|(intro _;exact hlt),?_⟩;(try simp only[Act.put]);refine ko ?_;clear hnl c7 c8 hth;generalize Tr.set T9 (iu:Int) { q1 with kids:=Tr.wi q1.kids i ix }=T11 at *;generalize (λz:Int=>if z=(iu:Int)then Value.slice TP n10 abd else K9 z)=K11 at *;generalize je.setCell ⟨g,iu*58+2,none⟩ (.slice TP n10 abd)=cZ at *;have c4:=XA.out.cT;have c5:=XA.out.cUp HX2.out;obtain⟨cur,hcur,_⟩:=XA.out.cur;have hth:=hcur.thaw (ix*58+1);obtain⟨agx,agy⟩:=XA.out.U4 HX2.out (iu:Int);have ah6:=ah agx;have abe:=ah (agw.out.trans agy);clear hcur agx agy XA agw abZ HV2;go_wp2
    go_ret
    rw[HR.out.1,HR.out.2];exact⟨rfl,_,ah6.out,abe.out⟩
end Go.Proofs.YtmidaiklolmkcaaGreat.Fix
