/- What functions of the program do, in plain numbers, part 2; no conditions. -/
import Derived.Test.YtmidaiklolmkcaaGreatM01
set_option linter.unusedVariables false
set_option linter.unusedSimpArgs false
set_option linter.unusedSectionVars false
set_option maxRecDepth 100000
namespace Go.Proofs.YtmidaiklolmkcaaGreat.Tr
structure Nd where
 up:Int
 kids:List Int
 sty:Re.St
abbrev T:=Int->Option Nd
def set(t:T)(x:Int)(n:Nd):T:=λy=>if y=x then some n else t y
def del(t:T)(l:List Int):T:=λy=>if y∈l then none else t y
theorem aN(t:T)(x:Int)(n:Nd):set t x n x=some n:=by simp[set]
theorem aK(t:T){x y:Int}(n:Nd)(h:y≠x):set t x n y=t y:=by simp[set,h]
inductive Dp(t:T):Int->Nat->Prop
 | root {nd:Nd}:t 0=some nd->Dp t 0 0
 | step {x:Int} {nd:Nd} {n:Nat}:t x=some nd->x≠0->Dp t nd.up n->Dp t x (n+1)
inductive EN(t:T)(a:Int):Int->Prop
 | refl {nd:Nd}:t a=some nd->EN t a a
 | step {x:Int} {nd:Nd}:t x=some nd->x≠0->EN t a nd.up->EN t a x
structure WF(t:T):Prop where
 root:∃nd,t 0=some nd/\nd.up = -1
 range:∀x nd,t x=some nd->0<=x/\x<4096
 up:∀x nd,t x=some nd->x≠0->∃p,t nd.up=some p/\x∈p.kids
 kid:∀u p x,t u=some p->x∈p.kids->x≠0/\∃nd,t x=some nd/\nd.up=u
 nodup:∀u p,t u=some p->p.kids.Nodup
 deep:∀x nd,t x=some nd->∃n,n<=63/\Dp t x n
def sub(t:T):Nat->Int->List Int
 | 0,_=>[]
 | f+1,x=>match t x with
   | none=>[]
   | some nd=>x::nd.kids.flatMap (sub t f)
def hgt(t:T):Nat->Int->Nat
 | 0,_=>0
 | f+1,x=>match t x with
   | none=>0
   | some nd=>nd.kids.foldl (λm k=>max m (1+hgt t f k)) 0
def Fit(t:T):Nat->Int->Prop
 | 0,_=>False
 | f+1,x=>∃nd,t x=some nd/\∀k∈nd.kids,Fit t f k
def ord(t:T):List Int:=sub t 64 0
theorem eF{t:T}{f:Nat}{x:Int}{nd:Nd}(h:t x=some nd):sub t (f+1) x=x::nd.kids.flatMap (sub t f):=by simp[sub,h]
theorem oO{t:T}{f:Nat}{x:Int}{nd:Nd}(h:t x=some nd):hgt t (f+1) x=nd.kids.foldl (λm k=>max m (1+hgt t f k)) 0:=by simp[hgt,h]
theorem Dp.live{t:T}{x:Int}{n:Nat}(h:Dp t x n):∃nd,t x=some nd:=by cases h with|root h=>exact⟨_,h⟩|step h _ _=>exact⟨_,h⟩
theorem EN.live{t:T}{a x:Int}(h:EN t a x):∃nd,t x=some nd:=by cases h with|refl h=>exact⟨_,h⟩|step h _ _=>exact⟨_,h⟩
theorem Dp.Y3{t:T}{x:Int}{m n:Nat}(h:Dp t x m)(k:Dp t x n):m=n:=by
 induction h generalizing n with
 | root h=>cases k with|root _=>rfl|step _ h0 _=>exact absurd rfl h0
 | step h h0 _ ih =>
   cases k with
   | root _=>exact absurd rfl h0
   | step h' _ k'=>rw[h]at h';cases h';rw[ih k']
theorem EN.trans{t:T}{a b x:Int}(h:EN t a b)(k:EN t b x):EN t a x:=by
 induction k with
 | refl _=>exact h
 | step h1 h0 _ ih=>exact .step h1 h0 ih
theorem EN.le{t:T}{a x:Int}{m n:Nat}(h:EN t a x)(ha:Dp t a m)(hx:Dp t x n):m<=n/\(m=n->a=x):=by
 induction h generalizing n with
 | refl _=>exact⟨Nat.le_of_eq (ha.Y3 hx),λ_=>rfl⟩
 | step h1 h0 _ ih =>
   cases hx with
   | root _=>exact absurd rfl h0
   | step h' _ k' =>
     rw[h1]at h';cases h';have:=(ih k').1;exact⟨by omega,λe=>by omega⟩
theorem EN.uniq{t:T}{a b x:Int}{m n:Nat}(h:EN t a x)(k:EN t b x)(ha:Dp t a m)(hb:Dp t b m)(hx:Dp t x n):a=b:=by
 induction h generalizing n with
 | refl _=>obtain rfl:=ha.Y3 hx;exact((k.le hb hx).2 rfl).symm
 | step h1 h0 h2 ih =>
   cases k with
   | refl _=>obtain rfl:=hb.Y3 hx;exact((EN.step h1 h0 h2).le ha hx).2 rfl
   | step h' _ k' =>
     rw[h1]at h';cases h';cases hx with
     | root _=>exact absurd rfl h0
     | step h'' _ hx'=>rw[h1]at h'';cases h'';exact ih k' hx'
section
variable {t:T} (H:WF t)
include H
theorem WF.rR{u x:Int}{p:Nd}{n:Nat}(hu:t u=some p)(hx:x∈p.kids)(hd:Dp t u n):Dp t x (n+1):=by
 obtain⟨h0,nd,h1,rfl⟩:=H.kid u p x hu hx;exact .step h1 h0 hd
theorem WF.Uv{u x:Int}{p:Nd}(hu:t u=some p)(hx:x∈p.kids):EN t u x:=by
 obtain⟨h0,nd,h1,rfl⟩:=H.kid u p x hu hx;exact .step h1 h0 (.refl hu)
theorem WF.Y4{x:Int}{n:Nat}(h:Dp t x n):n<=63:=by
 obtain⟨nd,h1⟩:=h.live;obtain⟨m,hm,hd⟩:=H.deep x nd h1;rw[h.Y3 hd];exact hm
theorem WF.fit{x:Int}{n:Nat}(h:Dp t x n):∀f,64<=n+f->Fit t f x:=by
 intro f
 induction f generalizing x n with
 | zero=>intro hf;have:=H.Y4 h;omega
 | succ f ih =>
   intro hf;obtain⟨nd,h1⟩:=h.live;exact⟨nd,h1,λk hk=>ih (H.rR h1 hk h) (by omega)⟩
theorem WF.iF{x:Int}{nd:Nd}(h:t x=some nd):Fit t 64 x:=by
 obtain⟨n,_,hd⟩:=H.deep x nd h;exact H.fit hd 64 (by omega)
theorem WF.agZ{x:Int}{nd:Nd}(h:t x=some nd):EN t 0 x:=by
 obtain⟨n,h63,hd⟩:=H.deep x nd h;clear h h63
 induction hd with
 | root h=>exact .refl h
 | step h h0 _ ih=>exact .step h h0 ih
theorem WF.up_down{a x:Int}(h:EN t a x):x=a\/∃p k,t a=some p/\k∈p.kids/\EN t k x:=by
 induction h with
 | refl _=>exact .inl rfl
 | step h1 h0 _ ih =>
   rename_i x nd _
   rcases ih with e|⟨p,k,hp,hk,ha⟩
   . obtain⟨p,hp,hx⟩:=H.up x nd h1 h0
     exact .inr ⟨p,x,e▸hp,hx,.refl h1⟩
   . exact .inr ⟨p,k,hp,hk,.step h1 h0 ha⟩
theorem WF.gF{f:Nat}{a x:Int}(hf:Fit t f a):x∈sub t f a↔EN t a x:=by
 induction f generalizing a with
 | zero=>exact hf.elim
 | succ f ih =>
   obtain⟨nd,h1,hk⟩:=hf;rw[eF h1,List.mem_cons,List.mem_flatMap];constructor
   . rintro(rfl|⟨k,hkm,hx⟩)
     . exact .refl h1
     . exact(H.Uv h1 hkm).trans ((ih (hk k hkm)).1 hx)
   . intro h
     rcases H.up_down h with rfl|⟨p,k,hp,hkm,ha⟩
     . exact .inl rfl
     . rw[h1]at hp;cases hp
       exact .inr ⟨k,hkm,(ih (hk k hkm)).2 ha⟩
theorem WF.vZ{f:Nat}{a:Int}(hf:Fit t f a):(sub t f a).Nodup:=by
 induction f generalizing a with
 | zero=>exact hf.elim
 | succ f ih =>
   obtain⟨nd,h1,hk⟩:=hf;obtain⟨n,_,hd⟩:=H.deep a nd h1;rw[eF h1,List.nodup_cons];refine⟨λhm => ?_,?_⟩
   . obtain⟨k,hkm,hx⟩:=List.mem_flatMap.1 hm
     have:=(((H.gF (hk k hkm)).1 hx).le (H.rR h1 hkm hd) hd).1;omega
   . refine List.pairwise_flatMap.2 ⟨λk hkm=>ih (hk k hkm),?_⟩
     have hq:∀l:List Int,(∀k∈l,k∈nd.kids)->l.Nodup->l.Pairwise (λa₁ a₂=>∀x∈sub t f a₁,∀y∈sub t f a₂,x≠y):=by
      intro l
      induction l with
      | nil=>intro _ _;exact .nil
      | cons k l ihl =>
        intro hl hn;refine .cons (λk' hk' x hx y hy e => ?_) (ihl (λj hj=>hl j (List.mem_cons_of_mem _ hj)) (List.nodup_cons.1 hn).2);subst e;have m1:=hl k List.mem_cons_self;have m2:=hl k' (List.mem_cons_of_mem _ hk');have a1:=(H.gF (hk k m1)).1 hx;have a2:=(H.gF (hk k' m2)).1 hy;obtain⟨ndx,hlx⟩:=a1.live;obtain⟨q,_,TA⟩:=H.deep x ndx hlx;have e:=a1.uniq a2 (H.rR h1 m1 hd) (H.rR h1 m2 hd) TA;exact(List.nodup_cons.1 hn).1 (e▸hk')
     exact hq nd.kids (λ_ h=>h) (H.nodup a nd h1)
theorem WF.rT:Fit t 64 0:=by
 obtain⟨nd,h,_⟩:=H.root;exact H.iF h
theorem WF.iV{x:Int}:x∈ord t↔∃nd,t x=some nd:=by
 rw[ord,H.gF H.rT];exact⟨λh=>h.live,λ⟨nd,h⟩=>H.agZ h⟩
theorem WF.ou:(ord t).Nodup:=H.vZ H.rT
omit H in
theorem yD{l:List Int}(hn:l.Nodup)(hr:∀x∈l,0<=x/\x<4096):l.length<=4096:=by
 have hs:l ⊆ (List.range 4096).map (λn:Nat=>(n:Int)):=λx hx=>by
  obtain⟨h0,h1⟩:=hr x hx;exact List.mem_map.2 ⟨x.toNat,List.mem_range.2 (by omega),by omega⟩
 have:=hn.length_le_of_subset hs;simpa using this
theorem WF.jB:(ord t).length<=4096:=yD H.ou λx hx=>by
 obtain⟨nd,h⟩:=H.iV.1 hx;exact H.range x nd h
theorem WF.behind{f:Nat}{a:Int}(hf:Fit t f a):∀l1 x l2,sub t f a=l1++x::l2->(l1=[]/\x=a)\/∃nd,t x=some nd/\x≠0/\nd.up∈l1:=by
 induction f generalizing a with
 | zero=>exact hf.elim
 | succ f ih =>
   intro l1 x l2 he;obtain⟨nd,h1,hk⟩:=hf;rw[eF h1]at he;cases l1 with
   | nil=>simp only[List.nil_append,List.cons.injEq]at he;exact .inl ⟨rfl,he.1.symm⟩
   | cons y l1 =>
     simp only[List.cons_append,List.cons.injEq]at he;obtain⟨rfl,he⟩:=he;right;have key:∀ks:List Int,(∀k∈ks,k∈nd.kids)->∀l1,ks.flatMap (sub t f)=l1++x::l2->∃xd,t x=some xd/\x≠0/\(xd.up=a\/xd.up∈l1):=by
      intro ks
      induction ks with
      | nil=>intro _ l1 he;simp at he
      | cons k ks ihk =>
        intro hks l1 he;rw[List.flatMap_cons,List.append_eq_append_iff]at he;have hkm:=hks k List.mem_cons_self;rcases he with⟨as,e1,e2⟩|⟨bs,e1,e2⟩
        . obtain⟨xd,h2,h0,h3⟩:=ihk (λj hj=>hks j (List.mem_cons_of_mem _ hj)) as e2
          exact⟨xd,h2,h0,h3.imp_right λh=>by rw[e1];exact List.mem_append_right _ h⟩
        . cases bs with
          | nil =>
            simp only[List.nil_append]at e2;obtain⟨xd,h2,h0,h3⟩:=ihk (λj hj=>hks j (List.mem_cons_of_mem _ hj)) [] (by rw[<-e2];rfl);exact⟨xd,h2,h0,h3.imp_right λh=>by cases h⟩
          | cons z bs =>
            simp only[List.cons_append,List.cons.injEq]at e2;obtain⟨rfl,e2⟩:=e2;rcases ih (hk k hkm) l1 x bs e1 with⟨rfl,rfl⟩|⟨xd,h2,h0,h3⟩
            . obtain⟨h0,xd,h2,h3⟩:=H.kid a nd x h1 hkm
              exact⟨xd,h2,h0,.inl h3⟩
            . exact⟨xd,h2,h0,.inr h3⟩
     obtain⟨xd,h2,h0,h3⟩:=key nd.kids (λ_ h=>h) l1 he;exact⟨xd,h2,h0,by rcases h3 with h3|h3<;>simp[h3]⟩
end
theorem Fit.mono{t:T}{f:Nat}{x:Int}(h:Fit t f x):∀g,f<=g->Fit t g x/\sub t g x=sub t f x/\hgt t g x=hgt t f x:=by
 induction f generalizing x with
 | zero=>exact h.elim
 | succ f ih =>
   intro g hg;obtain⟨nd,h1,hk⟩:=h;obtain⟨g,rfl⟩:∃g',g=g'+1:=⟨g-1,by omega⟩;refine⟨⟨nd,h1,λk hkm=>(ih (hk k hkm) g (by omega)).1⟩,?_,?_⟩
   . rw[eF h1,eF h1]
     congr 1;rw[List.flatMap_def,List.flatMap_def];congr 1;exact List.map_congr_left λk hkm=>(ih (hk k hkm) g (by omega)).2.1
   . rw[oO h1,oO h1]
     have e:∀(ks:List Int) (m:Nat),(∀k∈ks,k∈nd.kids)->ks.foldl (λm k=>max m (1+hgt t g k)) m=ks.foldl (λm k=>max m (1+hgt t f k)) m:=by
      intro ks
      induction ks with
      | nil=>intro _ _;rfl
      | cons k ks ihk =>
        intro m hks;simp only[List.foldl_cons];rw[(ih (hk k (hks k List.mem_cons_self)) g (by omega)).2.2];exact ihk _ λj hj=>hks j (List.mem_cons_of_mem _ hj)
     exact e nd.kids 0 λ_ h=>h
theorem Fit.congr{t s:T}{f:Nat}{a:Int}(hf:Fit t f a)(hs:∀x∈sub t f a,∀nd,t x=some nd->∃nd',s x=some nd'/\nd'.kids=nd.kids):Fit s f a/\sub s f a=sub t f a/\hgt s f a=hgt t f a:=by
 induction f generalizing a with
 | zero=>exact hf.elim
 | succ f ih =>
   obtain⟨nd,h1,hk⟩:=hf;rw[eF h1]at hs ⊢;obtain⟨nd',h2,he⟩:=hs a List.mem_cons_self nd h1;have hk':∀k∈nd.kids,Fit s f k/\sub s f k=sub t f k/\hgt s f k=hgt t f k:=λk hkm=>ih (hk k hkm) λx hx=>hs x (List.mem_cons_of_mem _ (List.mem_flatMap.2 ⟨k,hkm,hx⟩));refine⟨⟨nd',h2,λk hkm=>(hk' k (he▸hkm)).1⟩,?_,?_⟩
   . rw[eF h2,he]
     congr 1;rw[List.flatMap_def,List.flatMap_def];congr 1;exact List.map_congr_left λk hkm=>(hk' k hkm).2.1
   . rw[oO h2,oO h1,he]
     have e:∀(ks:List Int) (m:Nat),(∀k∈ks,k∈nd.kids)->ks.foldl (λm k=>max m (1+hgt s f k)) m=ks.foldl (λm k=>max m (1+hgt t f k)) m:=by
      intro ks
      induction ks with
      | nil=>intro _ _;rfl
      | cons k ks ihk =>
        intro m hks;simp only[List.foldl_cons];rw[(hk' k (hks k List.mem_cons_self)).2.2];exact ihk _ λj hj=>hks j (List.mem_cons_of_mem _ hj)
     exact e nd.kids 0 λ_ h=>h
theorem kC{f:Int->Nat}{ks:List Int}:∀{m B:Nat},ks.foldl (λm k=>max m (1+f k)) m<=B↔m<=B/\∀k∈ks,1+f k<=B:=by
 induction ks with
 | nil=>intro m B;simp
 | cons k ks ih =>
   intro m B;simp only[List.foldl_cons,ih,List.forall_mem_cons,Nat.max_le];exact⟨λh=>⟨h.1.1,h.1.2,h.2⟩,λh=>⟨⟨h.1,h.2.1⟩,h.2.2⟩⟩
theorem EY{f:Int->Nat}{ks:List Int}:∀{m:Nat},ks.foldl (λm k=>max m (1+f k)) m=m\/∃k∈ks,ks.foldl (λm k=>max m (1+f k)) m=1+f k:=by
 induction ks with
 | nil=>intro m;exact .inl rfl
 | cons k ks ih =>
   intro m;simp only[List.foldl_cons];rcases ih (m:=max m (1+f k))with h|⟨j,hj,h⟩
   . rcases Nat.le_total (1+f k) m with h2|h2
     . left;rw[h];omega
     . right;exact⟨k,List.mem_cons_self,by rw[h];omega⟩
   . exact .inr ⟨j,List.mem_cons_of_mem _ hj,h⟩
theorem WF.Uw{t:T}(H:WF t){f:Nat}{a x:Int}{n m:Nat}(hf:Fit t f a)(ha:Dp t a n)(hx:x∈sub t f a)(hd:Dp t x m):m<=n+hgt t f a:=by
 induction f generalizing a n with
 | zero=>exact hf.elim
 | succ f ih =>
   obtain⟨nd,h1,hk⟩:=hf;rw[eF h1,List.mem_cons,List.mem_flatMap]at hx;rw[oO h1];rcases hx with rfl|⟨k,hkm,hx⟩
   . rw[hd.Y3 ha];omega
   . have h2:=ih (hk k hkm) (H.rR h1 hkm ha) hx
     have h3:=(kC (f:=hgt t f) (ks:=nd.kids) (m:=0)).1 (Nat.le_refl _);have h4:=h3.2 k hkm;omega
theorem WF.PS{t:T}(H:WF t){f:Nat}{a:Int}{n:Nat}(hf:Fit t f a)(ha:Dp t a n):∃x∈sub t f a,Dp t x (n+hgt t f a):=by
 induction f generalizing a n with
 | zero=>exact hf.elim
 | succ f ih =>
   obtain⟨nd,h1,hk⟩:=hf;rw[eF h1,oO h1];rcases EY (f:=hgt t f) (ks:=nd.kids) (m:=0)with h|⟨k,hkm,h⟩
   . rw[h];exact⟨a,List.mem_cons_self,ha⟩
   . rw[h]
     obtain⟨x,hx,hd⟩:=ih (hk k hkm) (H.rR h1 hkm ha);exact⟨x,List.mem_cons_of_mem _ (List.mem_flatMap.2 ⟨k,hkm,hx⟩),by rw[show n+(1+hgt t f k)=n+1+hgt t f k by omega];exact hd⟩
def wo(l:List Int)(x:Int):List Int:=l.filter λy=>y != x
def wi(l:List Int)(i:Nat)(x:Int):List Int:=l.take i++x::l.drop i
theorem xF{l:List Int}{x y:Int}:y∈wo l x↔y∈l/\y≠x:=by simp[wo]
theorem Nh{l:List Int}{i:Nat}{x y:Int}:y∈wi l i x↔y=x\/y∈l:=by
 have:y∈l↔y∈l.take i\/y∈l.drop i:=by rw[<-List.mem_append,List.take_append_drop]
 simp only[wi,List.mem_append,List.mem_cons,this];constructor
 . rintro(h|h|h)
   . exact .inr (.inl h)
   . exact .inl h
   . exact .inr (.inr h)
 . rintro(h|h|h)
   . exact .inr (.inl h)
   . exact .inl h
   . exact .inr (.inr h)
theorem Dc{l:List Int}(h:l.Nodup)(x:Int):(wo l x).Nodup:=h.filter _
theorem JZ{l:List Int}(h:l.Nodup)(i:Nat){x:Int}(hx:x ∉ l):(wi l i x).Nodup:=by
 have h2:(l.take i++l.drop i).Nodup:=by rw[List.take_append_drop];exact h
 rw[List.nodup_append]at h2;rw[wi,List.nodup_append];refine⟨h2.1,List.nodup_cons.2 ⟨λhm=>hx (List.mem_of_mem_drop hm),h2.2.1⟩,λa ha b hb => ?_⟩;rcases List.mem_cons.1 hb with rfl|hb
 . exact λe=>hx (e▸List.mem_of_mem_take ha)
 . exact h2.2.2 a ha b hb
theorem mZ(l:List Int)(i:Nat)(x:Int):(wi l i x).length=l.length+1:=by simp[wi];omega
theorem uW{l:List Int}{x:Int}(h:x ∉ l):wo l x=l:=List.filter_eq_self.2 λy hy=>by simp;rintro rfl;exact h hy
theorem abz{l:List Int}{x:Int}(h:x ∉ l)(i:Nat):wo (wi l i x) x=l:=by
 have h1:wo (l.take i) x=l.take i:=uW λhm=>h (List.mem_of_mem_take hm);have h2:wo (l.drop i) x=l.drop i:=uW λhm=>h (List.mem_of_mem_drop hm);unfold wo at *;rw[wi,List.filter_append,List.filter_cons,h1,h2];simp
theorem Ux{l:List Int}(h:l.Nodup){i:Nat}{x:Int}(hi:l[i]? = some x):wo l x=l.take i++l.drop (i+1):=by
 obtain⟨hlt,he⟩:=List.getElem?_eq_some_iff.1 hi;have hs:l=l.take i++x::l.drop (i+1):=by rw[<-he,<-List.drop_eq_getElem_cons hlt,List.take_append_drop]
 have hn:=h;rw[hs,List.nodup_append]at hn;have h1:x ∉ l.take i:=λhm=>hn.2.2 x hm x List.mem_cons_self rfl;have h2:x ∉ l.drop (i+1):=(List.nodup_cons.1 hn.2.1).1;have e1:wo (l.take i) x=l.take i:=uW h1;have e2:wo (l.drop (i+1)) x=l.drop (i+1):=uW h2
 conv=>lhs;rw[hs]
 unfold wo at *;rw[List.filter_append,List.filter_cons,e1,e2];simp
theorem aek{l:List Int}(h:l.Nodup){i:Nat}{x:Int}(hi:l[i]? = some x):wi (wo l x) i x=l:=by
 rw[Ux h hi,wi];obtain⟨hlt,he⟩:=List.getElem?_eq_some_iff.1 hi;have hl:(l.take i).length=i:=by simp;omega
 rw[List.take_append_of_le_length (by omega),List.take_of_length_le (by omega),List.drop_append_of_le_length (by omega),List.drop_of_length_le (by omega),List.nil_append,<-he,<-List.drop_eq_getElem_cons hlt,List.take_append_drop]
theorem Gj{l:List Int}(h:l.Nodup){x:Int}(hx:x∈l):(wo l x).length+1=l.length:=by
 obtain⟨i,hi,he⟩:=List.mem_iff_getElem.1 hx;rw[Ux h (List.getElem?_eq_some_iff.2 ⟨hi,he⟩)];simp;omega
def leave(t:T)(x:Int):T:=match t x with
 | none=>t
 | some nd=>match t nd.up with
   | none=>t
   | some p=>set t nd.up { p with kids:=wo p.kids x }
def enter(t:T)(x u:Int)(i:Nat):T:=match t u,t x with
 | some p,some nd=>set (set t u { p with kids:=wi p.kids i x }) x { nd with up:=u }
 | _,_=>t
def pK(t:T)(x u:Int)(i:Nat):T:=enter (set t x ⟨0,[],Re.zero⟩) x u i
def Df(t:T)(x:Int):T:=del (leave t x) (sub t 64 x)
def mq(t:T)(x u:Int)(i:Nat):T:=enter (leave t x) x u i
def yE(t:T)(x:Int)(s:Re.St):T:=match t x with
 | none=>t
 | some nd=>set t x { nd with sty:=s }
def Alike(t s:T):Prop:=∀x,(t x).map (λn=>(n.up,n.kids))=(s x).map (λn=>(n.up,n.kids))
theorem Alike.some{t s:T}(h:Alike t s){x:Int}{nd:Nd}(hx:t x=some nd):∃nd',s x=Option.some nd'/\nd'.up=nd.up/\nd'.kids=nd.kids:=by
 have:=h x;rw[hx]at this;cases hs:s x with
 | none=>rw[hs]at this;cases this
 | some nd'=>rw[hs]at this;simp at this;exact⟨nd',rfl,this.1.symm,this.2.symm⟩
theorem Alike.symm{t s:T}(h:Alike t s):Alike s t:=λx=>(h x).symm
theorem Alike.dp{t s:T}(h:Alike t s){x:Int}{n:Nat}(hd:Dp t x n):Dp s x n:=by
 induction hd with
 | root h0=>obtain⟨nd',h1,_⟩:=h.some h0;exact .root h1
 | step h1 h0 _ ih=>obtain⟨nd',h2,h3,_⟩:=h.some h1;exact .step h2 h0 (h3▸ih)
theorem WF.alike{t s:T}(H:WF t)(h:Alike t s):WF s where
 root:=by obtain⟨nd,h1,h2⟩:=H.root;obtain⟨nd',h3,h4,_⟩:=h.some h1;exact⟨nd',h3,h4.trans h2⟩
 range:=λx nd hx=>by obtain⟨nd',h1,_⟩:=h.symm.some hx;exact H.range x nd' h1
 up:=λx nd hx h0=>by
  obtain⟨nd',h1,h2,_⟩:=h.symm.some hx;obtain⟨p,h3,h4⟩:=H.up x nd' h1 h0;obtain⟨p',h5,_,h6⟩:=h.some h3;exact⟨p',h2▸h5,h6▸h4⟩
 kid:=λu p x hu hx=>by
  obtain⟨p',h1,_,h2⟩:=h.symm.some hu;obtain⟨h0,nd,h3,h4⟩:=H.kid u p' x h1 (h2▸hx);obtain⟨nd',h5,h6,_⟩:=h.some h3;exact⟨h0,nd',h5,h6.trans h4⟩
 nodup:=λu p hu=>by obtain⟨p',h1,_,h2⟩:=h.symm.some hu;exact h2▸H.nodup u p' h1
 deep:=λx nd hx=>by
  obtain⟨nd',h1,_⟩:=h.symm.some hx;obtain⟨n,hn,hd⟩:=H.deep x nd' h1;exact⟨n,hn,h.dp hd⟩
theorem QZ(t:T)(x:Int)(s:Re.St):Alike t (yE t x s):=λy=>by
 unfold yE;cases h:t x with
 | none=>rfl
 | some nd =>
   show _=Option.map _ (set t x { nd with sty:=s } y);by_cases e:y=x
   . subst e;rw[aN,h];rfl
   . rw[aK t _ e]
theorem Dh{t:T}{x u:Int}{i:Nat}{p:Nd}(hu:t u=some p)(hx:t x=none)(y:Int) :
  pK t x u i y=if y=x then some ⟨u,[],Re.zero⟩else if y=u then some { p with kids:=wi p.kids i x }else t y:=by
 have hne:u≠x:=by rintro rfl;rw[hu]at hx;cases hx
 unfold pK enter;rw[aK t _ hne,hu,aN];show set _ x _ y=_;by_cases e:y=x
 . subst e;rw[if_pos rfl];simp only[aN]
 . rw[if_neg e,aK _ _ e]
   by_cases e2:y=u
   . subst e2;rw[if_pos rfl,aN]
   . rw[if_neg e2,aK _ _ e2,aK _ _ e]
theorem WF.add{t:T}(H:WF t){x u:Int}{i:Nat}{p:Nd}{n:Nat}(hu:t u=some p)(hx:t x=none)(hr:0<=x/\x<4096)(hd:Dp t u n)(hn:n<=62):WF (pK t x u i):=by
 have hxl:∀y q,t y=some q->y≠x:=λy q h e=>by rw[e,hx]at h;cases h
 have hnk:∀y q,t y=some q->x ∉ q.kids:=λy q h hm=>by obtain⟨_,nd,h2,_⟩:=H.kid y q x h hm;rw[hx]at h2;cases h2
 have A:=λy=>Dh (i:=i) hu hx y
 have old:∀y q,t y=some q->∃q',pK t x u i y=some q'/\q'.up=q.up/\(∀k,k∈q'.kids↔k∈q.kids\/(y=u/\k=x))/\q'.kids.Nodup:=λy q h=>by
  rw[A y,if_neg (hxl y q h)];by_cases e:y=u
  . subst e
    rw[h]at hu;cases hu;rw[if_pos rfl];exact⟨_,rfl,rfl,λk=>by simp only[Nh,true_and,or_comm],JZ (H.nodup _ _ h) _ (hnk _ _ h)⟩
  . rw[if_neg e,h]
    exact⟨q,rfl,rfl,λk=>by simp[e],H.nodup _ _ h⟩
 have new:pK t x u i x=some ⟨u,[],Re.zero⟩:=by rw[A x,if_pos rfl]
 have back:∀y q',pK t x u i y=some q'->(y=x/\q'=⟨u,[],Re.zero⟩)\/∃q,t y=some q/\q'.up=q.up/\(∀k,k∈q'.kids↔k∈q.kids\/(y=u/\k=x))/\q'.kids.Nodup:=λy q' h=>by
  by_cases e:y=x
  . subst e;rw[new]at h;cases h;exact .inl ⟨rfl,rfl⟩
  . right
    cases hy:t y with
    | none =>
      rw[A y,if_neg e]at h;by_cases e2:y=u
      . subst e2;rw[hy]at hu;cases hu
      . rw[if_neg e2,hy]at h;cases h
    | some q =>
      obtain⟨q'',h1,h2⟩:=old y q hy;rw[h]at h1;cases h1;exact⟨q,rfl,h2⟩
 have dp:∀{y:Int} {m:Nat},Dp t y m->Dp (pK t x u i) y m:=λ{y m} h=>by
  induction h with
  | root h0=>obtain⟨q',h1,_⟩:=old _ _ h0;exact .root h1
  | step h1 h0 _ ih=>obtain⟨q',h2,h3,_⟩:=old _ _ h1;exact .step h2 h0 (h3▸ih)
 have hx0:x≠0:=λe=>by obtain⟨nd,h,_⟩:=H.root;exact hxl 0 nd h e.symm
 refine⟨?_,?_,?_,?_,?_,?_⟩
 . obtain⟨nd,h,h2⟩:=H.root
   obtain⟨q',h3,h4,_⟩:=old 0 nd h;exact⟨q',h3,h4.trans h2⟩
 . intro y nd h
   rcases back y nd h with⟨rfl,_⟩|⟨q,h2,_⟩
   . exact hr
   . exact H.range y q h2
 . intro y nd h h0
   rcases back y nd h with⟨rfl,rfl⟩|⟨q,h2,h3,_⟩
   . obtain⟨q',h3,_,h4,_⟩:=old u p hu
     exact⟨q',h3,(h4 y).2 (.inr ⟨rfl,rfl⟩)⟩
   . obtain⟨r,h4,h5⟩:=H.up y q h2 h0
     obtain⟨r',h6,_,h7,_⟩:=old _ r h4;exact⟨r',h3▸h6,(h7 y).2 (.inl h5)⟩
 . intro v q' y h hy
   rcases back v q' h with⟨rfl,rfl⟩|⟨q,h2,h3,h4,_⟩
   . cases hy
   . rcases(h4 y).1 hy with h5|⟨rfl,rfl⟩
     . obtain⟨h0,nd,h6,h7⟩:=H.kid v q y h2 h5
       obtain⟨nd',h8,h9,_⟩:=old y nd h6;exact⟨h0,nd',h8,h9.trans h7⟩
     . exact⟨hx0,_,new,rfl⟩
 . intro v q' h
   rcases back v q' h with⟨rfl,rfl⟩|⟨q,h2,h3,h4,h5⟩
   . exact .nil
   . exact h5
 . intro y nd h
   rcases back y nd h with⟨rfl,rfl⟩|⟨q,h2,_⟩
   . exact⟨n+1,by omega,.step new hx0 (dp hd)⟩
   . obtain⟨m,hm,h3⟩:=H.deep y q h2
     exact⟨m,hm,dp h3⟩
theorem WF.Y5{t:T}(H:WF t){x u:Int}{i:Nat}{p:Nd}(hu:t u=some p)(hx:t x=none)(H':WF (pK t x u i)):(ord (pK t x u i)).length=(ord t).length+1:=by
 have hp:(ord (pK t x u i)).Perm (x::ord t):=by
  refine(List.perm_ext_iff_of_nodup H'.ou (List.nodup_cons.2 ⟨λhm => ?_,H.ou⟩)).2 λy => ?_
  . obtain⟨nd,h⟩:=H.iV.1 hm;rw[hx]at h;cases h
  . rw[H'.iV,List.mem_cons,H.iV,Dh hu hx]
    by_cases e:y=x
    . simp[e]
    . by_cases e2:y=u
      . subst e2;simp[e,hu]
      . simp[e,e2]
 simpa using hp.length_eq
theorem qg{t:T}{x:Int}{nd p:Nd}(hx:t x=some nd)(hp:t nd.up=some p)(y:Int):leave t x y=if y=nd.up then some { p with kids:=wo p.kids x }else t y:=by
 unfold leave;rw[hx];simp only[hp];by_cases e:y=nd.up
 . subst e;rw[if_pos rfl,aN]
 . rw[if_neg e,aK _ _ e]
section
variable {t:T} (H:WF t) {x:Int} {nd:Nd} (hx:t x=some nd) (h0:x≠0)
include H hx h0
theorem WF.qh:nd.up ∉ sub t 64 x:=λhm=>by
 have ha:=(H.gF (H.iF hx)).1 hm;obtain⟨n,_,hd⟩:=H.deep x nd hx;cases hd with
 | root _=>exact h0 rfl
 | step h1 _ h2 =>
   rw[hx]at h1;cases h1;have:=(ha.le (.step hx h0 h2) h2).1;omega
theorem WF.Uy:(0:Int) ∉ sub t 64 x:=λhm=>by
 have ha:=(H.gF (H.iF hx)).1 hm;obtain⟨n,_,hd⟩:=H.deep x nd hx;obtain⟨r,hr,_⟩:=H.root;have:=ha.le hd (.root hr);exact h0 (this.2 (by omega))
omit h0 in
theorem WF.Ii{y:Int}{q:Nd}(hy:t y=some q)(hn:y ∉ sub t 64 x)(hy0:y≠0):q.up ∉ sub t 64 x:=λhm=>hn ((H.gF (H.iF hx)).2 (.step hy hy0 ((H.gF (H.iF hx)).1 hm)))
theorem WF.Y6{y v:Int}{q:Nd}(hv:t v=some q)(hy:y∈q.kids)(hn:v ∉ sub t 64 x)(hne:y≠x):y ∉ sub t 64 x:=λhm=>by
 obtain⟨hy0,yd,h1,h2⟩:=H.kid v q y hv hy;have ha:=(H.gF (H.iF hx)).1 hm;cases ha with
 | refl _=>exact hne rfl
 | step h3 _ h4=>rw[h1]at h3;cases h3;exact hn ((H.gF (H.iF hx)).2 (h2▸h4))
theorem WF.J3{v:Int}{q:Nd}(hv:t v=some q)(hm:x∈q.kids):v=nd.up:=by
 obtain⟨_,xd,h1,h2⟩:=H.kid v q x hv hm;rw[hx]at h1;cases h1;exact h2.symm
theorem WF.Y7:x∈sub t 64 x:=(H.gF (H.iF hx)).2 (.refl hx)
theorem WF.rU{y:Int}(e:y=x):y∈sub t 64 x:=by rw[e];exact H.Y7 hx h0
theorem WF.rem:WF (Df t x):=by
 obtain⟨p,hp,hxp⟩:=H.up x nd hx h0
 have A:∀y,Df t x y=if y∈sub t 64 x then none else if y=nd.up then some { p with kids:=wo p.kids x }else t y:=λy=>by
  unfold Df del;rw[qg hx hp]
 have old:∀y q,t y=some q->y ∉ sub t 64 x->∃q',Df t x y=some q'/\q'.up=q.up/\(∀k,k∈q'.kids↔k∈q.kids/\k≠x)/\q'.kids.Nodup:=λy q h hn=>by
  rw[A y,if_neg hn];by_cases e:y=nd.up
  . rw[if_pos e]
    rw[e,hp]at h;cases h;exact⟨_,rfl,rfl,λk=>xF,Dc (H.nodup _ _ hp) _⟩
  . rw[if_neg e,h]
    exact⟨q,rfl,rfl,λk=>⟨λhk=>⟨hk,λek=>e (H.J3 hx h0 h (ek▸hk))⟩,λhk=>hk.1⟩,H.nodup _ _ h⟩
 have back:∀y q',Df t x y=some q'->y ∉ sub t 64 x/\∃q,t y=some q/\q'.up=q.up/\(∀k,k∈q'.kids↔k∈q.kids/\k≠x)/\q'.kids.Nodup:=λy q' h=>by
  by_cases hn:y∈sub t 64 x
  . rw[A y,if_pos hn]at h;cases h
  . refine⟨hn,?_⟩
    cases hy:t y with
    | none =>
      rw[A y,if_neg hn]at h;by_cases e:y=nd.up
      . rw[e,hp]at hy;cases hy
      . rw[if_neg e,hy]at h;cases h
    | some q =>
      obtain⟨q'',h1,h2⟩:=old y q hy hn;rw[h]at h1;cases h1;exact⟨q,rfl,h2⟩
 have dp:∀{y:Int} {m:Nat},Dp t y m->y ∉ sub t 64 x->Dp (Df t x) y m:=λ{y m} h=>by
  induction h with
  | root h1=>intro hn;obtain⟨q',h2,_⟩:=old _ _ h1 hn;exact .root h2
  | step h1 hz _ ih=>intro hn;obtain⟨q',h2,h3,_⟩:=old _ _ h1 hn;exact .step h2 hz (h3▸ih (H.Ii hx h1 hn hz))
 refine⟨?_,?_,?_,?_,?_,?_⟩
 . obtain⟨r,h1,h2⟩:=H.root
   obtain⟨q',h3,h4,_⟩:=old 0 r h1 (H.Uy hx h0);exact⟨q',h3,h4.trans h2⟩
 . intro y q' h
   obtain⟨_,q,h1,_⟩:=back y q' h;exact H.range y q h1
 . intro y q' h hy0
   obtain⟨hn,q,h1,h2,_⟩:=back y q' h;obtain⟨r,h3,h4⟩:=H.up y q h1 hy0;obtain⟨r',h5,_,h6,_⟩:=old _ r h3 (H.Ii hx h1 hn hy0);exact⟨r',h2▸h5,(h6 y).2 ⟨h4,λe=>hn (H.rU hx h0 e)⟩⟩
 . intro v q' y h hy
   obtain⟨hn,q,h1,h2,h3,_⟩:=back v q' h;obtain⟨h4,h5⟩:=(h3 y).1 hy;obtain⟨hy0,yd,h6,h7⟩:=H.kid v q y h1 h4;obtain⟨y',h8,h9,_⟩:=old y yd h6 (H.Y6 hx h0 h1 h4 hn h5);exact⟨hy0,y',h8,h9.trans h7⟩
 . intro v q' h
   obtain⟨_,q,_,_,_,h5⟩:=back v q' h;exact h5
 . intro y q' h
   obtain⟨hn,q,h1,_⟩:=back y q' h;obtain⟨m,hm,h3⟩:=H.deep y q h1;exact⟨m,hm,dp h3 hn⟩
theorem WF.J4(y:Int):(∃q,Df t x y=some q)↔(∃q,t y=some q)/\y ∉ sub t 64 x:=by
 obtain⟨p,hp,hxp⟩:=H.up x nd hx h0;unfold Df del;rw[qg hx hp];by_cases hn:y∈sub t 64 x
 . simp[hn]
 . by_cases e:y=nd.up
   . subst e;simp[hn,hp]
   . simp[hn,e]
theorem WF.Cg:(ord (Df t x)).length+(sub t 64 x).length=(ord t).length:=by
 have hp:(ord t).Perm (ord (Df t x)++sub t 64 x):=by
  have H':=H.rem hx h0;refine(List.perm_ext_iff_of_nodup H.ou (List.nodup_append.2 ⟨H'.ou,H.vZ (H.iF hx),λa ha b hb e => ?_⟩)).2 λy => ?_
  . subst e;exact((H.J4 hx h0 a).1 (H'.iV.1 ha)).2 hb
  . rw[List.mem_append,H.iV,H'.iV,H.J4 hx h0]
    by_cases hn:y∈sub t 64 x
    . simp only[hn,not_true_eq_false,and_false,or_true,iff_true]
      exact((H.gF (H.iF hx)).1 hn).live
    . simp[hn]
 have:=hp.length_eq;simp at this;omega
theorem WF.Q0:Fit (leave t x) 64 x/\sub (leave t x) 64 x=sub t 64 x/\hgt (leave t x) 64 x=hgt t 64 x:=by
 obtain⟨p,hp,hxp⟩:=H.up x nd hx h0;refine(H.iF hx).congr λy hy q hq => ?_;rw[qg hx hp,if_neg (λe:y=nd.up=>H.qh hx h0 (by rw[<-e];exact hy))];exact⟨q,hq,rfl⟩
section
variable {u:Int} {q:Nd} (hu:t u=some q) (hun:u ∉ sub t 64 x)
include hu hun
theorem WF.xG(i:Nat)(y:Int):mq t x u i y=(t y).map λr=>{ r with up:=if y=x then u else r.up,kids:=if y=u then wi (if y=nd.up then wo r.kids x else r.kids) i x else if y=nd.up then wo r.kids x else r.kids }:=by
 obtain⟨p,hp,hxp⟩:=H.up x nd hx h0;have hxu:u≠x:=λe=>hun (H.rU hx h0 e);have hxn:x≠nd.up:=λe=>H.qh hx h0 (H.rU hx h0 e.symm);have L:=λy=>qg hx hp y;have Lx:leave t x x=some nd:=by rw[L,if_neg hxn,hx]
 unfold mq enter;by_cases e:u=nd.up
 . subst e
   rw[hu]at hp;cases hp;have Lu:leave t x nd.up=some { q with kids:=wo q.kids x }:=by rw[L,if_pos rfl]
   rw[Lu,Lx];simp only;by_cases e1:y=x
   . subst e1;rw[aN,hx];simp[hxn]
   . rw[aK _ _ e1]
     by_cases e2:y=nd.up
     . rw[e2,aN,hu];simp[hxu]
     . rw[aK _ _ e2,L,if_neg e2]
       cases t y<;>simp[e1,e2]
 . have Lu:leave t x u=some q:=by rw[L,if_neg e,hu]
   rw[Lu,Lx];simp only;by_cases e1:y=x
   . subst e1;rw[aN,hx];simp[hxn,hxu.symm]
   . rw[aK _ _ e1]
     by_cases e2:y=u
     . rw[e2,aN,hu];simp[e,hxu]
     . rw[aK _ _ e2,L]
       by_cases e3:y=nd.up
       . rw[if_pos e3,e3,hp];simp[hxn.symm,show¬ nd.up=u from λh=>e h.symm]
       . rw[if_neg e3]
         cases t y<;>simp[e1,e2,e3]
theorem WF.mov{i:Nat}{du:Nat}(hdu:Dp t u du)(PU:du+1+hgt t 64 x<=63):WF (mq t x u i):=by
 obtain⟨p,hp,hxp⟩:=H.up x nd hx h0;have hxu:u≠x:=λe=>hun (H.rU hx h0 e);have hxn:x≠nd.up:=λe=>H.qh hx h0 (H.rU hx h0 e.symm);have A:=λy=>H.xG hx h0 hu hun i y
 have old:∀y r,t y=some r->∃r',mq t x u i y=some r'/\(y≠x->r'.up=r.up)/\(y=x->r'.up=u)/\(∀k,k≠x->(k∈r'.kids↔k∈r.kids))/\(x∈r'.kids↔y=u)/\r'.kids.Nodup:=λy r h=>by
  have hk:x ∉ (if y=nd.up then wo r.kids x else r.kids):=by
   split
   . exact λhm=>(xF.1 hm).2 rfl
   . rename_i e;exact λhm=>e (H.J3 hx h0 h hm)
  have hn:(if y=nd.up then wo r.kids x else r.kids).Nodup:=by
   split
   . exact Dc (H.nodup y r h) x
   . exact H.nodup y r h
  have hm:∀k,k≠x->(k∈(if y=nd.up then wo r.kids x else r.kids)↔k∈r.kids):=λk hkx=>by
   split
   . rw[xF];simp[hkx]
   . exact Iff.rfl
  rw[A y,h];refine⟨_,rfl,λe=>if_neg e,λe=>if_pos e,λk hkx => ?_,?_,?_⟩
  . show k∈(if y=u then _ else _)↔_
    split
    . rw[Nh];simp only[hkx,false_or];exact hm k hkx
    . exact hm k hkx
  . show x∈(if y=u then _ else _)↔_
    split
    . rename_i e;rw[Nh];simp[e]
    . rename_i e;simp only[e,iff_false];exact hk
  . show(if y=u then _ else _:List Int).Nodup
    split
    . exact JZ hn i hk
    . exact hn
 have back:∀y r',mq t x u i y=some r'->∃r,t y=some r/\(y≠x->r'.up=r.up)/\(y=x->r'.up=u)/\(∀k,k≠x->(k∈r'.kids↔k∈r.kids))/\(x∈r'.kids↔y=u)/\r'.kids.Nodup:=λy r' h=>by
  cases hy:t y with
  | none=>rw[A y,hy]at h;cases h
  | some r =>
    obtain⟨r'',h1,h2⟩:=old y r hy;rw[h]at h1;cases h1;exact⟨r,rfl,h2⟩
 have dpo:∀{y:Int} {m:Nat},Dp t y m->y ∉ sub t 64 x->Dp (mq t x u i) y m:=λ{y m} h=>by
  induction h with
  | root h1=>intro hn;obtain⟨q',h2,_⟩:=old _ _ h1;exact .root h2
  | step h1 hz _ ih =>
    intro hn;obtain⟨q',h2,h3,_⟩:=old _ _ h1;exact .step h2 hz (h3 (λe=>hn (H.rU hx h0 e))▸ih (H.Ii hx h1 hn hz))
 obtain⟨dx,_,TA⟩:=H.deep x nd hx;obtain⟨x',hx1,_,hx2,_⟩:=old x nd hx;have dpx:Dp (mq t x u i) x (du+1):=.step hx1 h0 (hx2 rfl▸dpo hdu hun)
 have dpi:∀{y:Int},EN t x y->∀n,Dp t y n->dx<=n/\Dp (mq t x u i) y (n-dx+du+1):=λ{y} ha=>by
  induction ha with
  | refl _=>intro n hn;obtain rfl:=TA.Y3 hn;exact⟨Nat.le_refl _,by rw[Nat.sub_self,Nat.zero_add];exact dpx⟩
  | step h1 hz ha ih =>
    rename_i y yd
    intro n hn;cases hn with
    | root _=>exact absurd rfl hz
    | step h2 _ h3 =>
      rename_i n _
      rw[h1]at h2;cases h2;obtain⟨hle,h4⟩:=ih _ h3;obtain⟨r',h5,h6,_⟩:=old _ _ h1;have hyx:y≠x:=λe=>by subst e;have:=TA.Y3 (.step h1 hz h3);omega
      refine⟨by omega,?_⟩;rw[show n+1-dx+du+1=n-dx+du+1+1 by omega];exact .step h5 hz (h6 hyx▸h4)
 refine⟨?_,?_,?_,?_,?_,?_⟩
 . obtain⟨r,h1,h2⟩:=H.root
   obtain⟨r',h3,h4,_⟩:=old 0 r h1;exact⟨r',h3,(h4 h0.symm).trans h2⟩
 . intro y r' h
   obtain⟨r,h1,_⟩:=back y r' h;exact H.range y r h1
 . intro y r' h hy0
   obtain⟨r,h1,h2,h3,_⟩:=back y r' h;by_cases e:y=x
   . obtain⟨u',h4,_,_,_,h5,_⟩:=old u q hu
     exact⟨u',h3 e▸h4,e▸h5.2 rfl⟩
   . obtain⟨v,h4,h5⟩:=H.up y r h1 hy0
     obtain⟨v',h6,_,_,h7,_⟩:=old _ v h4;exact⟨v',h2 e▸h6,(h7 y e).2 h5⟩
 . intro v r' y h hy
   obtain⟨r,h1,_,_,h3,h4,_⟩:=back v r' h;by_cases e:y=x
   . subst e
     exact⟨h0,x',hx1,(hx2 rfl).trans (h4.1 hy).symm⟩
   . obtain⟨hy0,yd,h5,h6⟩:=H.kid v r y h1 ((h3 y e).1 hy)
     obtain⟨y',h7,h8,_⟩:=old y yd h5;exact⟨hy0,y',h7,(h8 e).trans h6⟩
 . intro v r' h
   obtain⟨_,_,_,_,_,_,h5⟩:=back v r' h;exact h5
 . intro y r' h
   obtain⟨r,h1,_⟩:=back y r' h;obtain⟨m,hm,h3⟩:=H.deep y r h1;by_cases hn:y∈sub t 64 x
   . obtain⟨hle,h4⟩:=dpi ((H.gF (H.iF hx)).1 hn) m h3
     have:=H.Uw (H.iF hx) TA hn h3;exact⟨_,by omega,h4⟩
   . exact⟨m,hm,dpo h3 hn⟩
theorem WF.Uz(i:Nat)(y:Int):(∃r,mq t x u i y=some r)↔∃r,t y=some r:=by
 rw[H.xG hx h0 hu hun];cases t y<;>simp
theorem WF.Y8{i:Nat}(H':WF (mq t x u i)):(ord (mq t x u i)).length=(ord t).length:=by
 refine((List.perm_ext_iff_of_nodup H'.ou H.ou).2 λy => ?_).length_eq;rw[H'.iV,H.iV,H.Uz hx h0 hu hun]
theorem WF.Ij(i:Nat):sub (mq t x u i) 64 x=sub t 64 x/\hgt (mq t x u i) 64 x=hgt t 64 x:=by
 refine((H.iF hx).congr λy hy r hr => ?_).2;rw[H.xG hx h0 hu hun,hr];exact⟨_,rfl,by show(if y=u then _ else _)=_;rw[if_neg (λe:y=u=>hun (by rw[<-e];exact hy)),if_neg (λe:y=nd.up=>H.qh hx h0 (by rw[<-e];exact hy))]⟩
end
theorem WF.UA{u:Int}{q:Nd}(hu:t u=some q)(hun:u ∉ sub t 64 x){i j:Nat}{p:Nd}(hp:t nd.up=some p)(hj:p.kids[j]? = some x)(H':WF (mq t x u i)):mq (mq t x u i) x nd.up j=t:=by
 have hxu:u≠x:=λe=>hun (H.rU hx h0 e);have hxn:x≠nd.up:=λe=>H.qh hx h0 (H.rU hx h0 e.symm);have A:=λy=>H.xG hx h0 hu hun i y;have hx1:mq t x u i x=some { nd with up:=u }:=by rw[A,hx];simp[hxu.symm,hxn]
 have hp1:∃p',mq t x u i nd.up=some p':=by rw[A,hp];exact⟨_,rfl⟩
 obtain⟨p',hp1⟩:=hp1;have hn1:nd.up ∉ sub (mq t x u i) 64 x:=by rw[(H.Ij hx h0 hu hun i).1];exact H.qh hx h0
 funext y;rw[H'.xG hx1 h0 hp1 hn1 j y,A y];cases hy:t y with
 | none=>rfl
 | some r =>
   have hk:x ∉ (if y=nd.up then wo r.kids x else r.kids):=by
    split
    . exact λhm=>(xF.1 hm).2 rfl
    . rename_i e;exact λhm=>e (H.J3 hx h0 hy hm)
   have e1:(if y=u then wo (if y=u then wi (if y=nd.up then wo r.kids x else r.kids) i x else if y=nd.up then wo r.kids x else r.kids) x else if y=u then wi (if y=nd.up then wo r.kids x else r.kids) i x else if y=nd.up then wo r.kids x else r.kids)=if y=nd.up then wo r.kids x else r.kids:=by
    by_cases e:y=u
    . rw[if_pos e,if_pos e,abz hk]
    . rw[if_neg e,if_neg e]
   simp only[Option.map_some,Option.some.injEq];rw[e1];by_cases e:y=nd.up
   . have e2:=e
     subst e;rw[hp]at hy;cases hy;simp only[if_true,if_neg hxn.symm];rw[aek (H.nodup _ _ hp) hj]
   . simp only[if_neg e]
     by_cases ex:y=x
     . subst ex;rw[hx]at hy;cases hy;simp
     . simp[ex]
end
def dp(t:T):Nat->Int->Int
 | 0,_ => -1
 | f+1,x=>match t x with
   | none => -1
   | some nd=>dp t f nd.up+1
def dep(t:T)(x:Int):Int:=dp t 100 x
theorem ael{t:T}(h1:∀nd,t 0=some nd->nd.up = -1)(h2:t (-1)=none){x:Int}{d:Nat}(h:Dp t x d):∀f,d<f->dp t f x=d:=by
 induction h with
 | root h =>
   intro f hf;cases f with
   | zero=>omega
   | succ f =>
     simp only[dp,h,h1 _ h];cases f with
     | zero=>simp[dp]
     | succ f=>simp[dp,h2]
 | step h h0 _ ih =>
   intro f hf;cases f with
   | zero=>omega
   | succ f =>
     simp only[dp,h,ih f (by omega)];omega
theorem WF.tC{t:T}(H:WF t){nd:Nd}(h:t 0=some nd):nd.up = -1:=by
 obtain⟨r,h1,h2⟩:=H.root;rw[h]at h1;cases h1;exact h2
theorem WF.low{t:T}(H:WF t){x:Int}(h:x<0):t x=none:=by
 cases e:t x with
 | none=>rfl
 | some nd=>have:=H.range x nd e;omega
theorem J5{t:T}{x:Int}(h:t x=none):dep t x = -1:=by simp[dep,dp,h]
theorem WF.Ik{t:T}(H:WF t){x:Int}{d:Nat}(h:Dp t x d):dep t x=d:=ael (λ_ h=>H.tC h) (H.low (by omega)) h 100 (by have:=H.Y4 h;omega)
theorem WF.iZ{t:T}(H:WF t){x:Int}{nd:Nd}(h:t x=some nd):∃d:Nat,d<=63/\Dp t x d/\dep t x=d:=by
 obtain⟨d,h1,h2⟩:=H.deep x nd h;exact⟨d,h1,h2,H.Ik h2⟩
def Free(t:T)(z:Int):Prop:=0<=z/\t z=none/\∀y,0<=y->y<z->t y≠none
open Classical in
noncomputable def free(t:T):Int:=if h:∃z,Free t z then h.choose else 0
theorem free_eq{t:T}{z:Int}(h:Free t z):free t=z:=by
 have he:∃z,Free t z:=⟨z,h⟩;unfold free;rw[dif_pos he];have hc:=he.choose_spec;generalize he.choose=y at *;by_cases h1:y<z
 . exact absurd hc.2.1 (h.2.2 y hc.1 h1)
 . by_cases h2:z<y
   . exact absurd h.2.1 (hc.2.2 z h.1 h2)
   . omega
theorem WF.full{t:T}(H:WF t){k:Nat}(h:∀y:Int,0<=y->y<k->t y≠none):k<=(ord t).length:=by
 have hn:((List.range k).map (λn:Nat=>(n:Int))).Nodup:=List.Pairwise.map _ (λa b hab e=>hab (by omega)) List.nodup_range
 have hs:((List.range k).map (λn:Nat=>(n:Int))) ⊆ ord t:=λx hx=>by
  obtain⟨n,hn,rfl⟩:=List.mem_map.1 hx;have:=h n (by omega) (by have:=List.mem_range.1 hn;omega);obtain⟨nd,hnd⟩:=Option.ne_none_iff_exists'.1 this;exact H.iV.2 ⟨nd,hnd⟩
 have:=hn.length_le_of_subset hs;simpa using this
theorem WF.Ch{t:T}(H:WF t):Free t (free t)/\free t<=((ord t).length:Int):=by
 have hex:∃k:Nat,t (k:Int)=none/\∀y:Int,0<=y->y<k->t y≠none:=by
  by_cases h:∀k:Nat,t (k:Int)≠none
  . have:=H.full (k:=(ord t).length+1) (λy h0 _=>by have:=h y.toNat;rwa [Int.toNat_of_nonneg h0]at this)
    omega
  . obtain⟨k,hk⟩:=Classical.not_forall.1 h
    replace hk:=Classical.not_not.1 hk
    induction k using Nat.strongRecOn with
    | ind k ih =>
      by_cases hl:∀y:Int,0<=y->y<k->t y≠none
      . exact⟨k,hk,hl⟩
      . obtain⟨y,hy⟩:=Classical.not_forall.1 hl
        have h0:0<=y/\y<k/\t y=none:=by
         refine⟨?_,?_,?_⟩
         . exact Classical.byContradiction λq=>hy λq2=>absurd q2 q
         . exact Classical.byContradiction λq=>hy λ_ q2=>absurd q2 q
         . exact Classical.byContradiction λq=>hy λ_ _ q2=>q q2
        refine ih y.toNat (by omega) ?_;rw[Int.toNat_of_nonneg h0.1];exact h0.2.2
 obtain⟨k,h1,h2⟩:=hex;have hf:Free t (k:Int):=⟨by omega,h1,h2⟩;rw[free_eq hf];exact⟨hf,by have:=H.full h2;omega⟩
theorem WF.qK{t:T}(H:WF t){u:Int}{p:Nd}(hu:t u=some p):p.kids.length<=(ord t).length :=
 (H.nodup u p hu).length_le_of_subset λx hx=>by
  obtain⟨_,nd,h,_⟩:=H.kid u p x hu hx;exact H.iV.2 ⟨nd,h⟩
def nD(t:T)(u a:Int):Int:=match t u with
 | none=>2
 | some p=>if a<0\/(p.kids.length:Int)<a then 1 else if 63<=dep t u then 5 else 0
noncomputable def tF(t:T)(u a:Int):Int:=if nD t u a=0 then free t else -1
noncomputable def jE(t:T)(u a:Int):T:=if nD t u a=0 then pK t (free t) u a.toNat else t
theorem WF.jE{t:T}(H:WF t)(u a:Int)(hn:(ord t).length<4096):WF (jE t u a)/\(ord (Tr.jE t u a)).length=(ord t).length+(if nD t u a=0 then 1 else 0):=by
 unfold Tr.jE;by_cases h:nD t u a=0
 . rw[if_pos h,if_pos h]
   unfold nD at h;cases hu:t u with
   | none=>rw[hu]at h;cases h
   | some p =>
     rw[hu]at h;dsimp only at h;split at h
     . cases h
     . split at h
       . cases h
       . rename_i h1 h2
         obtain⟨d,h3,h4,h5⟩:=H.iZ hu;obtain⟨⟨f0,f1,_⟩,f2⟩:=H.Ch;have W:=H.add (i:=a.toNat) hu f1 ⟨f0,by omega⟩ h4 (by omega);exact⟨W,H.Y5 hu f1 W⟩
 . rw[if_neg h,if_neg h]
   exact⟨H,rfl⟩
def qV(t:T)(x:Int):Int:=match t x with
 | none=>2
 | some _=>if x=0 then 1 else 0
def wK(t:T)(x:Int):Int:=if qV t x=0 then (sub t 64 x).length else 0
def nT(t:T)(x:Int):T:=if qV t x=0 then Df t x else t
theorem WF.nT{t:T}(H:WF t)(x:Int):WF (nT t x)/\((ord (Tr.nT t x)).length:Int)+wK t x=(ord t).length:=by
 unfold Tr.nT wK;by_cases h:qV t x=0
 . rw[if_pos h,if_pos h]
   unfold qV at h;cases hx:t x with
   | none=>rw[hx]at h;cases h
   | some nd =>
     rw[hx]at h;dsimp only at h;split at h
     . cases h
     . rename_i h0
       refine⟨H.rem hx h0,?_⟩;have:=H.Cg hx h0;omega
 . rw[if_neg h,if_neg h]
   exact⟨H,by omega⟩
def jI(t:T)(x u a:Int):Int:=match t x,t u with
 | some _,some p=>if x=0 then 1 else if u∈sub t 64 x then 3 else if a<0\/((wo p.kids x).length:Int)<a then 1 else if 63<dep t u+1+hgt t 64 x then 5 else 0
 | _,_=>2
def mD(t:T)(x u a:Int):T:=if jI t x u a=0 then mq t x u a.toNat else t
theorem Gl{t:T}{x u a:Int}(h:jI t x u a=0):∃nd p,t x=some nd/\t u=some p/\x≠0/\u ∉ sub t 64 x/\0<=a/\a<=(wo p.kids x).length/\dep t u+1+hgt t 64 x<=63:=by
 unfold jI at h;cases hx:t x with
 | none=>rw[hx]at h;cases h
 | some nd =>
   cases hu:t u with
   | none=>rw[hx,hu]at h;cases h
   | some p =>
     rw[hx,hu]at h;dsimp only at h;split at h
     . cases h
     . split at h
       . cases h
       . split at h
         . cases h
         . split at h
           . cases h
           . exact⟨nd,p,rfl,rfl,by assumption,by assumption,by omega,by omega,by omega⟩
theorem WF.mD{t:T}(H:WF t)(x u a:Int):WF (mD t x u a)/\(ord (Tr.mD t x u a)).length=(ord t).length:=by
 unfold Tr.mD;by_cases h:jI t x u a=0
 . rw[if_pos h]
   obtain⟨nd,p,hx,hu,h0,hun,ha,hal,hd⟩:=Gl h;obtain⟨d,h3,h4,h5⟩:=H.iZ hu;have W:=H.mov (i:=a.toNat) hx h0 hu hun h4 (by omega);exact⟨W,H.Y8 hx h0 hu hun W⟩
 . rw[if_neg h]
   exact⟨H,rfl⟩
theorem WF.others{t:T}(H:WF t){x u:Int}{nd p:Nd}(hx:t x=some nd)(hu:t u=some p)(h0:x≠0):((wo p.kids x).length:Int)=if nd.up=u then (p.kids.length:Int)-1 else p.kids.length:=by
 by_cases e:nd.up=u
 . rw[if_pos e]
   obtain⟨q,hq,hm⟩:=H.up x nd hx h0;rw[e,hu]at hq;cases hq;have:=Gj (H.nodup u p hu) hm;omega
 . rw[if_neg e,uW]
   intro hm;obtain⟨_,nd',h1,h2⟩:=H.kid u p x hu hm;rw[hx]at h1;cases h1;exact e h2
end Go.Proofs.YtmidaiklolmkcaaGreat.Tr
namespace Go.Proofs.YtmidaiklolmkcaaGreat.Fe
theorem UC{gr:Bool}{room:Int}{n:Nat}{S:Nat->St}(k:Nat)(i:Nat):(rounds gr room n S k i).x=(S i).x:=by
 induction k with
 | zero=>rfl
 | succ k ih =>
   show(round gr room n (rounds gr room n S k) i).x=_;rw[<-ih];unfold round froze shared fU;cases h:(rounds gr room n S k i).f<;>simp[h]
theorem Y9{gr:Bool}{room:Int}{n:Nat}{S:Nat->St}{i:Nat}(h:(S i).f=false):(round gr room n S i).z=clamp (S i).x (want gr (parts gr room S n) S i):=by
 unfold round froze shared fU;simp[h]
theorem Ni(l:Nat->It)(n:Nat)(room:Int)(i:Nat):clamp (l i) (fin l n room i).z=(fin l n room i).z:=by
 have h:∀k,clamp (l i) (rounds (yB l n room) room n (begun (yB l n room) l) k i).z=(rounds (yB l n room) room n (begun (yB l n room) l) k i).z:=by
  intro k
  induction k with
  | zero=>exact Al _ _
  | succ k ih =>
    show clamp (l i) (round _ room n (rounds _ room n _ k) i).z=(round _ room n (rounds _ room n _ k) i).z;cases hf:(rounds (yB l n room) room n (begun (yB l n room) l) k i).f with
    | true=>rw[Ao hf];exact ih
    | false =>
      rw[Y9 hf,UC];show clamp (l i) (clamp (cnt (l i)) _)=clamp (cnt (l i)) _;rw[Gh,Al]
 exact h n
end Go.Proofs.YtmidaiklolmkcaaGreat.Fe
namespace Go.Proofs.YtmidaiklolmkcaaGreat
namespace Ju
def off(l:List Int)(gap:Int):Nat->Int
 | 0=>0
 | k+1=>off l gap k+l.getD k 0+gap
theorem J6(l:List Int)(gap:Int)(k:Nat):off l gap (k+1)=off l gap k+l.getD k 0+gap:=rfl
theorem abA(kind lf:Int){n:Int}(n1:1<=n)(n2:n<=64):1<=(pq kind lf n).2.2/\(pq kind lf n).2.2<=128/\(pq kind lf n).1+(pq kind lf n).2.1*(n-1)<=(pq kind lf n).2.2:=by
 unfold pq
 (repeat' split)<;>simp only[]<;>omega
theorem UD{kind lf:Int}{n k:Nat}(n2:n<=64)(hk:k<n):0<=(pq kind lf n).1+(pq kind lf n).2.1*(k:Int)/\(pq kind lf n).1+(pq kind lf n).2.1*(k:Int)<=(pq kind lf n).2.2:=by
 obtain⟨q1,q2,q3⟩:=abA kind lf (n:=n) (by omega) (by omega);obtain⟨p0,p1,s0,s2⟩:=aby kind lf n;generalize (pq kind lf n).1=p at *;generalize (pq kind lf n).2.1=s at *;generalize (pq kind lf n).2.2=q at *;have h1:s*(k:Int)<=s*((n:Int)-1):=Int.mul_le_mul_of_nonneg_left (by omega) s0;have h2:0<=s*(k:Int):=Int.mul_nonneg s0 (by omega);omega
end Ju
end Go.Proofs.YtmidaiklolmkcaaGreat
