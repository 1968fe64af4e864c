/- Boxes laid by the program: what its functions do, part 2. -/
import Derived.Test.YteggipnplbkijaaGreatW01
set_option linter.unusedVariables false
set_option linter.unusedSimpArgs false
set_option linter.unusedSectionVars false
set_option maxRecDepth 100000
namespace Go.Proofs.YteggipnplbkijaaGreat.Fw
section
variable (B:Int→Bx) (f:Nat)
theorem lay_id (z r0 r1 t0 t1:Int):(lay B f z r0 r1 t0 t1).id=z:=rfl
theorem mblock_ids (z i0 i1:Int):(mblock B (lay B f) f z i0 i1).1.map (·.id)=(B z).fl:=by
 unfold mblock
 simp only []
 exact List.ext_getElem (by simp) fun i h1 h2=>by simp [blkKid,lay_id]
theorem mcolumn_ids (z i0 i1:Int):(mcolumn B (lay B f) z i0 i1).1.map (·.id)=(B z).fl:=by
 unfold mcolumn
 simp only []
 exact List.ext_getElem (by simp) fun i h1 h2=>by simp [lay_id]
theorem rowLine_ids (z i0 i1 high:Int) (ks:List Int):(rowLine B (lay B f) z i0 i1 high ks).1.map (·.id)=ks:=by
 unfold rowLine
 simp only []
 split
 · exact List.ext_getElem (by simp) fun i h1 h2=>by
    simp only [List.getElem_map,List.getElem_mapIdx]
    split <;> simp [lay_id]
 · exact List.ext_getElem (by simp) fun i h1 h2=>by simp [lay_id]
theorem rowLines_ids (z i0 i1 high:Int) (fl:List Int) (room gap:Int) (wrap:Bool) (l:List Int) (hl:l.length=fl.length):∀ (n at_:Nat) (fst:Bool) (y:Int),l.length - at_≤n→at_≤l.length→(rowLines B (lay B f) z i0 i1 high fl fst y (Li.tail room gap wrap l at_)).1.map (·.id)=fl.drop at_:=by
 intro n
 induction n with
 | zero =>
   intro at_ fst y h1 h2
   rw [Li.tail_end _ _ _ _ (by omega),List.drop_of_length_le (by omega)]
   rfl
 | succ n ih =>
   intro at_ fst y h1 h2
   by_cases h:at_<l.length
   · have hg:=Li.stop_gt room gap wrap l at_
     have hs:=Li.stop_le room gap wrap l h
     rw [Li.tail_step _ _ _ _ h]
     simp only [rowLines,List.map_append,List.map_map]
     rw [ih _ _ _ (by omega) hs]
     have e:((fun x=>x.id) ∘ fun x:Ld=>{ x with a1:=wr (x.a1 + if fst=true then y else wr (y + (B z).sty.c 46)) })=(fun x:Ld=>x.id):=rfl
     rw [e,rowLine_ids]
     conv=>rhs;rw [← List.take_append_drop (Li.stop room gap wrap l at_ - at_) (fl.drop at_)]
     rw [List.drop_drop,show at_ + (Li.stop room gap wrap l at_ - at_)=Li.stop room gap wrap l at_ by omega]
   · rw [Li.tail_end _ _ _ _ (by omega),List.drop_of_length_le (by omega)]
     rfl
theorem mrow_ids (z i0 i1:Int):(mrow B (lay B f) z i0 i1).1.map (·.id)=(B z).fl:=by
 unfold mrow
 simp only []
 unfold Li.brk
 rw [rowLines_ids B f z i0 i1 _ (B z).fl _ _ _ _ (by simp) _ 0 _ _ (Nat.le_refl _) (Nat.zero_le _)]
 rfl
theorem kind_ids (z i0 i1:Int):(kind B (lay B f) f z i0 i1).1.map (·.id)=(B z).fl:=by
 unfold kind
 split
 · exact mrow_ids B f z i0 i1
 · split
   · exact mcolumn_ids B f z i0 i1
   · exact mblock_ids B f z i0 i1
end
theorem wr_ge (x:Int) : -9223372036854775808≤wr x:=by unfold wr;omega
theorem wr_le (x:Int):wr x≤9223372036854775807:=by unfold wr;omega
theorem lim_ge (s:Re.St) (y:Nat) (n base:Int):0≤lim s y n base:=Fx.limit_ge0 _ _ _ _ _ _
theorem lim_le (s:Re.St) (y:Nat) (n base:Int):lim s y n base≤1099511627776:=by
 unfold lim
 rw [← Fx.limit_cut]
 exact Fx.cut_le _
theorem wth_bd (s:Re.St) (y:Nat) (r0 r t:Int) : -1≤wth s y r0 r t∧wth s y r0 r t≤9223372036854775807:=by
 unfold wth
 have h1:=wr_ge (t - eds s y)
 have h2:=wr_le (t - eds s y)
 have h3:=fun n base=>lim_ge s y n base
 have h4:=fun n base=>lim_le s y n base
 split
 · omega
 · split
   · have a:=h3 (lng s y r 0) r;have b:=h4 (lng s y r 0) r;omega
   · split
     · have a:=h3 (max (wr (wr (r - mgs s y r0) - eds s y)) 0) r;have b:=h4 (max (wr (wr (r - mgs s y r0) - eds s y)) 0) r;omega
     · omega
end Go.Proofs.YteggipnplbkijaaGreat.Fw
namespace Go.Proofs.YteggipnplbkijaaGreat.Tr
structure Nd where
 up:Int
 kids:List Int
 sty:Re.St
abbrev T:=Int→Option Nd
def set (t:T) (x:Int) (n:Nd):T:=fun y=>if y=x then some n else t y
def del (t:T) (l:List Int):T:=fun y=>if y ∈ l then none else t y
theorem set_same (t:T) (x:Int) (n:Nd):set t x n x=some n:=by simp [set]
theorem set_other (t:T) {x y:Int} (n:Nd) (h:y≠x):set t x n y=t y:=by simp [set,h]
inductive Dp (t:T):Int→Nat→Prop
 | root {nd:Nd}:t 0=some nd→Dp t 0 0
 | step {x:Int} {nd:Nd} {n:Nat}:t x=some nd→x≠0→Dp t nd.up n→Dp t x (n + 1)
inductive Anc (t:T) (a:Int):Int→Prop
 | refl {nd:Nd}:t a=some nd→Anc t a a
 | step {x:Int} {nd:Nd}:t x=some nd→x≠0→Anc t a nd.up→Anc t a x
structure WF (t:T):Prop where
 root:∃ nd,t 0=some nd∧nd.up = -1
 range:∀ x nd,t x=some nd→0≤x∧x<4096
 up:∀ x nd,t x=some nd→x≠0→∃ p,t nd.up=some p∧x ∈ p.kids
 kid:∀ u p x,t u=some p→x ∈ p.kids→x≠0∧∃ nd,t x=some nd∧nd.up=u
 nodup:∀ u p,t u=some p→p.kids.Nodup
 deep:∀ x nd,t x=some nd→∃ n,n≤63∧Dp t x n
def sub (t:T):Nat→Int→List Int
 | 0,_=>[]
 | f + 1,x=>match t x with
   | none=>[]
   | some nd=>x :: nd.kids.flatMap (sub t f)
def hgt (t:T):Nat→Int→Nat
 | 0,_=>0
 | f + 1,x=>match t x with
   | none=>0
   | some nd=>nd.kids.foldl (fun m k=>max m (1 + hgt t f k)) 0
def Fit (t:T):Nat→Int→Prop
 | 0,_=>False
 | f + 1,x=>∃ nd,t x=some nd∧∀ k ∈ nd.kids,Fit t f k
def ord (t:T):List Int:=sub t 64 0
theorem sub_some {t:T} {f:Nat} {x:Int} {nd:Nd} (h:t x=some nd):sub t (f + 1) x=x :: nd.kids.flatMap (sub t f):=by simp [sub,h]
theorem hgt_some {t:T} {f:Nat} {x:Int} {nd:Nd} (h:t x=some nd):hgt t (f + 1) x=nd.kids.foldl (fun m k=>max m (1 + hgt t f k)) 0:=by simp [hgt,h]
theorem Dp.live {t:T} {x:Int} {n:Nat} (h:Dp t x n):∃ nd,t x=some nd:=by cases h with | root h=>exact ⟨_,h⟩ | step h _ _=>exact ⟨_,h⟩
theorem Anc.live {t:T} {a x:Int} (h:Anc t a x):∃ nd,t x=some nd:=by cases h with | refl h=>exact ⟨_,h⟩ | step h _ _=>exact ⟨_,h⟩
theorem Dp.det {t:T} {x:Int} {m n:Nat} (h:Dp t x m) (k:Dp t x n):m=n:=by
 induction h generalizing n with
 | root h=>cases k with | root _=>rfl | step _ h0 _=>exact absurd rfl h0
 | step h h0 _ ih =>
   cases k with
   | root _=>exact absurd rfl h0
   | step h' _ k'=>rw [h] at h';cases h';rw [ih k']
theorem Anc.trans {t:T} {a b x:Int} (h:Anc t a b) (k:Anc t b x):Anc t a x:=by
 induction k with
 | refl _=>exact h
 | step h1 h0 _ ih=>exact .step h1 h0 ih
theorem Anc.le {t:T} {a x:Int} {m n:Nat} (h:Anc t a x) (ha:Dp t a m) (hx:Dp t x n):m≤n∧(m=n→a=x):=by
 induction h generalizing n with
 | refl _=>exact ⟨Nat.le_of_eq (ha.det hx),fun _=>rfl⟩
 | step h1 h0 _ ih =>
   cases hx with
   | root _=>exact absurd rfl h0
   | step h' _ k' =>
     rw [h1] at h';cases h'
     have:=(ih k').1
     exact ⟨by omega,fun e=>by omega⟩
theorem Anc.uniq {t:T} {a b x:Int} {m n:Nat} (h:Anc t a x) (k:Anc t b x) (ha:Dp t a m) (hb:Dp t b m) (hx:Dp t x n):a=b:=by
 induction h generalizing n with
 | refl _=>obtain rfl:=ha.det hx;exact ((k.le hb hx).2 rfl).symm
 | step h1 h0 h2 ih =>
   cases k with
   | refl _=>obtain rfl:=hb.det hx;exact ((Anc.step h1 h0 h2).le ha hx).2 rfl
   | step h' _ k' =>
     rw [h1] at h';cases h'
     cases hx with
     | root _=>exact absurd rfl h0
     | step h'' _ hx'=>rw [h1] at h'';cases h'';exact ih k' hx'
section
variable {t:T} (H:WF t)
include H
theorem WF.kidDp {u x:Int} {p:Nd} {n:Nat} (hu:t u=some p) (hx:x ∈ p.kids) (hd:Dp t u n):Dp t x (n + 1):=by
 obtain ⟨h0,nd,h1,rfl⟩:=H.kid u p x hu hx
 exact .step h1 h0 hd
theorem WF.kidAnc {u x:Int} {p:Nd} (hu:t u=some p) (hx:x ∈ p.kids):Anc t u x:=by
 obtain ⟨h0,nd,h1,rfl⟩:=H.kid u p x hu hx
 exact .step h1 h0 (.refl hu)
theorem WF.dp63 {x:Int} {n:Nat} (h:Dp t x n):n≤63:=by
 obtain ⟨nd,h1⟩:=h.live
 obtain ⟨m,hm,hd⟩:=H.deep x nd h1
 rw [h.det hd];exact hm
theorem WF.fit {x:Int} {n:Nat} (h:Dp t x n):∀ f,64≤n + f→Fit t f x:=by
 intro f
 induction f generalizing x n with
 | zero=>intro hf;have:=H.dp63 h;omega
 | succ f ih =>
   intro hf
   obtain ⟨nd,h1⟩:=h.live
   exact ⟨nd,h1,fun k hk=>ih (H.kidDp h1 hk h) (by omega)⟩
theorem WF.fit64 {x:Int} {nd:Nd} (h:t x=some nd):Fit t 64 x:=by
 obtain ⟨n,_,hd⟩:=H.deep x nd h
 exact H.fit hd 64 (by omega)
theorem WF.anc0 {x:Int} {nd:Nd} (h:t x=some nd):Anc t 0 x:=by
 obtain ⟨n,h63,hd⟩:=H.deep x nd h
 clear h h63
 induction hd with
 | root h=>exact .refl h
 | step h h0 _ ih=>exact .step h h0 ih
theorem WF.up_down {a x:Int} (h:Anc t a x):x=a∨∃ p k,t a=some p∧k ∈ p.kids∧Anc t k x:=by
 induction h with
 | refl _=>exact .inl rfl
 | step h1 h0 _ ih =>
   rename_i x nd _
   rcases ih with e | ⟨p,k,hp,hk,ha⟩
   · obtain ⟨p,hp,hx⟩:=H.up x nd h1 h0
     exact .inr ⟨p,x,e ▸ hp,hx,.refl h1⟩
   · exact .inr ⟨p,k,hp,hk,.step h1 h0 ha⟩
theorem WF.mem_sub {f:Nat} {a x:Int} (hf:Fit t f a):x ∈ sub t f a↔Anc t a x:=by
 induction f generalizing a with
 | zero=>exact hf.elim
 | succ f ih =>
   obtain ⟨nd,h1,hk⟩:=hf
   rw [sub_some h1,List.mem_cons,List.mem_flatMap]
   constructor
   · rintro (rfl | ⟨k,hkm,hx⟩)
     · exact .refl h1
     · exact (H.kidAnc h1 hkm).trans ((ih (hk k hkm)).1 hx)
   · intro h
     rcases H.up_down h with rfl | ⟨p,k,hp,hkm,ha⟩
     · exact .inl rfl
     · rw [h1] at hp;cases hp
       exact .inr ⟨k,hkm,(ih (hk k hkm)).2 ha⟩
theorem WF.nodup_sub {f:Nat} {a:Int} (hf:Fit t f a):(sub t f a).Nodup:=by
 induction f generalizing a with
 | zero=>exact hf.elim
 | succ f ih =>
   obtain ⟨nd,h1,hk⟩:=hf
   obtain ⟨n,_,hd⟩:=H.deep a nd h1
   rw [sub_some h1,List.nodup_cons]
   refine ⟨fun hm => ?_,?_⟩
   · obtain ⟨k,hkm,hx⟩:=List.mem_flatMap.1 hm
     have:=(((H.mem_sub (hk k hkm)).1 hx).le (H.kidDp h1 hkm hd) hd).1
     omega
   · refine List.pairwise_flatMap.2 ⟨fun k hkm=>ih (hk k hkm),?_⟩
     have hq:∀ l:List Int,(∀ k ∈ l,k ∈ nd.kids)→l.Nodup→l.Pairwise (fun a₁ a₂=>∀ x ∈ sub t f a₁,∀ y ∈ sub t f a₂,x≠y):=by
      intro l
      induction l with
      | nil=>intro _ _;exact .nil
      | cons k l ihl =>
        intro hl hn
        refine .cons (fun k' hk' x hx y hy e => ?_) (ihl (fun j hj=>hl j (List.mem_cons_of_mem _ hj)) (List.nodup_cons.1 hn).2)
        subst e
        have m1:=hl k List.mem_cons_self
        have m2:=hl k' (List.mem_cons_of_mem _ hk')
        have a1:=(H.mem_sub (hk k m1)).1 hx
        have a2:=(H.mem_sub (hk k' m2)).1 hy
        obtain ⟨ndx,hlx⟩:=a1.live
        obtain ⟨q,_,hdx⟩:=H.deep x ndx hlx
        have e:=a1.uniq a2 (H.kidDp h1 m1 hd) (H.kidDp h1 m2 hd) hdx
        exact (List.nodup_cons.1 hn).1 (e ▸ hk')
     exact hq nd.kids (fun _ h=>h) (H.nodup a nd h1)
theorem WF.fit0:Fit t 64 0:=by
 obtain ⟨nd,h,_⟩:=H.root
 exact H.fit64 h
theorem WF.mem_ord {x:Int}:x ∈ ord t↔∃ nd,t x=some nd:=by
 rw [ord,H.mem_sub H.fit0]
 exact ⟨fun h=>h.live,fun ⟨nd,h⟩=>H.anc0 h⟩
theorem WF.nodup_ord:(ord t).Nodup:=H.nodup_sub H.fit0
theorem WF.behind {f:Nat} {a:Int} (hf:Fit t f a):∀ l1 x l2,sub t f a=l1 ++ x :: l2→(l1=[]∧x=a)∨∃ nd,t x=some nd∧x≠0∧nd.up ∈ l1:=by
 induction f generalizing a with
 | zero=>exact hf.elim
 | succ f ih =>
   intro l1 x l2 he
   obtain ⟨nd,h1,hk⟩:=hf
   rw [sub_some h1] at he
   cases l1 with
   | nil=>simp only [List.nil_append,List.cons.injEq] at he;exact .inl ⟨rfl,he.1.symm⟩
   | cons y l1 =>
     simp only [List.cons_append,List.cons.injEq] at he
     obtain ⟨rfl,he⟩:=he
     right
     have key:∀ ks:List Int,(∀ k ∈ ks,k ∈ nd.kids)→∀ l1,ks.flatMap (sub t f)=l1 ++ x :: l2→∃ xd,t x=some xd∧x≠0∧(xd.up=a∨xd.up ∈ l1):=by
      intro ks
      induction ks with
      | nil=>intro _ l1 he;simp at he
      | cons k ks ihk =>
        intro hks l1 he
        rw [List.flatMap_cons,List.append_eq_append_iff] at he
        have hkm:=hks k List.mem_cons_self
        rcases he with ⟨as,e1,e2⟩ | ⟨bs,e1,e2⟩
        · obtain ⟨xd,h2,h0,h3⟩:=ihk (fun j hj=>hks j (List.mem_cons_of_mem _ hj)) as e2
          exact ⟨xd,h2,h0,h3.imp_right fun h=>by rw [e1];exact List.mem_append_right _ h⟩
        · cases bs with
          | nil =>
            simp only [List.nil_append] at e2
            obtain ⟨xd,h2,h0,h3⟩:=ihk (fun j hj=>hks j (List.mem_cons_of_mem _ hj)) [] (by rw [← e2];rfl)
            exact ⟨xd,h2,h0,h3.imp_right fun h=>by cases h⟩
          | cons z bs =>
            simp only [List.cons_append,List.cons.injEq] at e2
            obtain ⟨rfl,e2⟩:=e2
            rcases ih (hk k hkm) l1 x bs e1 with ⟨rfl,rfl⟩ | ⟨xd,h2,h0,h3⟩
            · obtain ⟨h0,xd,h2,h3⟩:=H.kid a nd x h1 hkm
              exact ⟨xd,h2,h0,.inl h3⟩
            · exact ⟨xd,h2,h0,.inr h3⟩
     obtain ⟨xd,h2,h0,h3⟩:=key nd.kids (fun _ h=>h) l1 he
     exact ⟨xd,h2,h0,by rcases h3 with h3 | h3 <;> simp [h3]⟩
end
theorem Fit.mono {t:T} {f:Nat} {x:Int} (h:Fit t f x):∀ g,f≤g→Fit t g x∧sub t g x=sub t f x∧hgt t g x=hgt t f x:=by
 induction f generalizing x with
 | zero=>exact h.elim
 | succ f ih =>
   intro g hg
   obtain ⟨nd,h1,hk⟩:=h
   obtain ⟨g,rfl⟩:∃ g',g=g' + 1:=⟨g - 1,by omega⟩
   refine ⟨⟨nd,h1,fun k hkm=>(ih (hk k hkm) g (by omega)).1⟩,?_,?_⟩
   · rw [sub_some h1,sub_some h1]
     congr 1
     rw [List.flatMap_def,List.flatMap_def]
     congr 1
     exact List.map_congr_left fun k hkm=>(ih (hk k hkm) g (by omega)).2.1
   · rw [hgt_some h1,hgt_some h1]
     have e:∀ (ks:List Int) (m:Nat),(∀ k ∈ ks,k ∈ nd.kids)→ks.foldl (fun m k=>max m (1 + hgt t g k)) m=ks.foldl (fun m k=>max m (1 + hgt t f k)) m:=by
      intro ks
      induction ks with
      | nil=>intro _ _;rfl
      | cons k ks ihk =>
        intro m hks
        simp only [List.foldl_cons]
        rw [(ih (hk k (hks k List.mem_cons_self)) g (by omega)).2.2]
        exact ihk _ fun j hj=>hks j (List.mem_cons_of_mem _ hj)
     exact e nd.kids 0 fun _ h=>h
theorem Fit.congr {t s:T} {f:Nat} {a:Int} (hf:Fit t f a) (hs:∀ x ∈ sub t f a,∀ nd,t x=some nd→∃ nd',s x=some nd'∧nd'.kids=nd.kids):Fit s f a∧sub s f a=sub t f a∧hgt s f a=hgt t f a:=by
 induction f generalizing a with
 | zero=>exact hf.elim
 | succ f ih =>
   obtain ⟨nd,h1,hk⟩:=hf
   rw [sub_some h1] at hs ⊢
   obtain ⟨nd',h2,he⟩:=hs a List.mem_cons_self nd h1
   have hk':∀ k ∈ nd.kids,Fit s f k∧sub s f k=sub t f k∧hgt s f k=hgt t f k:=fun k hkm=>ih (hk k hkm) fun x hx=>hs x (List.mem_cons_of_mem _ (List.mem_flatMap.2 ⟨k,hkm,hx⟩))
   refine ⟨⟨nd',h2,fun k hkm=>(hk' k (he ▸ hkm)).1⟩,?_,?_⟩
   · rw [sub_some h2,he]
     congr 1
     rw [List.flatMap_def,List.flatMap_def]
     congr 1
     exact List.map_congr_left fun k hkm=>(hk' k hkm).2.1
   · rw [hgt_some h2,hgt_some h1,he]
     have e:∀ (ks:List Int) (m:Nat),(∀ k ∈ ks,k ∈ nd.kids)→ks.foldl (fun m k=>max m (1 + hgt s f k)) m=ks.foldl (fun m k=>max m (1 + hgt t f k)) m:=by
      intro ks
      induction ks with
      | nil=>intro _ _;rfl
      | cons k ks ihk =>
        intro m hks
        simp only [List.foldl_cons]
        rw [(hk' k (hks k List.mem_cons_self)).2.2]
        exact ihk _ fun j hj=>hks j (List.mem_cons_of_mem _ hj)
     exact e nd.kids 0 fun _ h=>h
theorem foldl_max_le {f:Int→Nat} {ks:List Int}:∀ {m B:Nat},ks.foldl (fun m k=>max m (1 + f k)) m≤B↔m≤B∧∀ k ∈ ks,1 + f k≤B:=by
 induction ks with
 | nil=>intro m B;simp
 | cons k ks ih =>
   intro m B
   simp only [List.foldl_cons,ih,List.forall_mem_cons,Nat.max_le]
   exact ⟨fun h=>⟨h.1.1,h.1.2,h.2⟩,fun h=>⟨⟨h.1,h.2.1⟩,h.2.2⟩⟩
theorem foldl_max_mem {f:Int→Nat} {ks:List Int}:∀ {m:Nat},ks.foldl (fun m k=>max m (1 + f k)) m=m∨∃ k ∈ ks,ks.foldl (fun m k=>max m (1 + f k)) m=1 + f k:=by
 induction ks with
 | nil=>intro m;exact .inl rfl
 | cons k ks ih =>
   intro m
   simp only [List.foldl_cons]
   rcases ih (m:=max m (1 + f k)) with h | ⟨j,hj,h⟩
   · rcases Nat.le_total (1 + f k) m with h2 | h2
     · left;rw [h];omega
     · right;exact ⟨k,List.mem_cons_self,by rw [h];omega⟩
   · exact .inr ⟨j,List.mem_cons_of_mem _ hj,h⟩
theorem WF.hgt_le {t:T} (H:WF t) {f:Nat} {a x:Int} {n m:Nat} (hf:Fit t f a) (ha:Dp t a n) (hx:x ∈ sub t f a) (hd:Dp t x m):m≤n + hgt t f a:=by
 induction f generalizing a n with
 | zero=>exact hf.elim
 | succ f ih =>
   obtain ⟨nd,h1,hk⟩:=hf
   rw [sub_some h1,List.mem_cons,List.mem_flatMap] at hx
   rw [hgt_some h1]
   rcases hx with rfl | ⟨k,hkm,hx⟩
   · rw [hd.det ha];omega
   · have h2:=ih (hk k hkm) (H.kidDp h1 hkm ha) hx
     have h3:=(foldl_max_le (f:=hgt t f) (ks:=nd.kids) (m:=0)).1 (Nat.le_refl _)
     have h4:=h3.2 k hkm
     omega
theorem WF.hgt_mem {t:T} (H:WF t) {f:Nat} {a:Int} {n:Nat} (hf:Fit t f a) (ha:Dp t a n):∃ x ∈ sub t f a,Dp t x (n + hgt t f a):=by
 induction f generalizing a n with
 | zero=>exact hf.elim
 | succ f ih =>
   obtain ⟨nd,h1,hk⟩:=hf
   rw [sub_some h1,hgt_some h1]
   rcases foldl_max_mem (f:=hgt t f) (ks:=nd.kids) (m:=0) with h | ⟨k,hkm,h⟩
   · rw [h];exact ⟨a,List.mem_cons_self,ha⟩
   · rw [h]
     obtain ⟨x,hx,hd⟩:=ih (hk k hkm) (H.kidDp h1 hkm ha)
     exact ⟨x,List.mem_cons_of_mem _ (List.mem_flatMap.2 ⟨k,hkm,hx⟩),by rw [show n + (1 + hgt t f k)=n + 1 + hgt t f k by omega];exact hd⟩
def wo (l:List Int) (x:Int):List Int:=l.filter fun y=>y != x
def wi (l:List Int) (i:Nat) (x:Int):List Int:=l.take i ++ x :: l.drop i
theorem mem_wo {l:List Int} {x y:Int}:y ∈ wo l x↔y ∈ l∧y≠x:=by simp [wo]
theorem mem_wi {l:List Int} {i:Nat} {x y:Int}:y ∈ wi l i x↔y=x∨y ∈ l:=by
 have:y ∈ l↔y ∈ l.take i∨y ∈ l.drop i:=by rw [← List.mem_append,List.take_append_drop]
 simp only [wi,List.mem_append,List.mem_cons,this]
 constructor
 · rintro (h | h | h)
   · exact .inr (.inl h)
   · exact .inl h
   · exact .inr (.inr h)
 · rintro (h | h | h)
   · exact .inr (.inl h)
   · exact .inl h
   · exact .inr (.inr h)
theorem nodup_wo {l:List Int} (h:l.Nodup) (x:Int):(wo l x).Nodup:=h.filter _
theorem nodup_wi {l:List Int} (h:l.Nodup) (i:Nat) {x:Int} (hx:x ∉ l):(wi l i x).Nodup:=by
 have h2:(l.take i ++ l.drop i).Nodup:=by rw [List.take_append_drop];exact h
 rw [List.nodup_append] at h2
 rw [wi,List.nodup_append]
 refine ⟨h2.1,List.nodup_cons.2 ⟨fun hm=>hx (List.mem_of_mem_drop hm),h2.2.1⟩,fun a ha b hb => ?_⟩
 rcases List.mem_cons.1 hb with rfl | hb
 · exact fun e=>hx (e ▸ List.mem_of_mem_take ha)
 · exact h2.2.2 a ha b hb
theorem length_wi (l:List Int) (i:Nat) (x:Int):(wi l i x).length=l.length + 1:=by simp [wi];omega
theorem wo_not {l:List Int} {x:Int} (h:x ∉ l):wo l x=l:=List.filter_eq_self.2 fun y hy=>by simp;rintro rfl;exact h hy
theorem wo_wi {l:List Int} {x:Int} (h:x ∉ l) (i:Nat):wo (wi l i x) x=l:=by
 have h1:wo (l.take i) x=l.take i:=wo_not fun hm=>h (List.mem_of_mem_take hm)
 have h2:wo (l.drop i) x=l.drop i:=wo_not fun hm=>h (List.mem_of_mem_drop hm)
 unfold wo at *
 rw [wi,List.filter_append,List.filter_cons,h1,h2]
 simp
theorem wo_at {l:List Int} (h:l.Nodup) {i:Nat} {x:Int} (hi:l[i]? = some x):wo l x=l.take i ++ l.drop (i + 1):=by
 obtain ⟨hlt,he⟩:=List.getElem?_eq_some_iff.1 hi
 have hs:l=l.take i ++ x :: l.drop (i + 1):=by rw [← he, ← List.drop_eq_getElem_cons hlt,List.take_append_drop]
 have hn:=h
 rw [hs,List.nodup_append] at hn
 have h1:x ∉ l.take i:=fun hm=>hn.2.2 x hm x List.mem_cons_self rfl
 have h2:x ∉ l.drop (i + 1):=(List.nodup_cons.1 hn.2.1).1
 have e1:wo (l.take i) x=l.take i:=wo_not h1
 have e2:wo (l.drop (i + 1)) x=l.drop (i + 1):=wo_not h2
 conv=>lhs;rw [hs]
 unfold wo at *
 rw [List.filter_append,List.filter_cons,e1,e2]
 simp
theorem wi_wo {l:List Int} (h:l.Nodup) {i:Nat} {x:Int} (hi:l[i]? = some x):wi (wo l x) i x=l:=by
 rw [wo_at h hi,wi]
 obtain ⟨hlt,he⟩:=List.getElem?_eq_some_iff.1 hi
 have hl:(l.take i).length=i:=by simp;omega
 rw [List.take_append_of_le_length (by omega),List.take_of_length_le (by omega),List.drop_append_of_le_length (by omega),List.drop_of_length_le (by omega),List.nil_append, ← he, ← List.drop_eq_getElem_cons hlt,List.take_append_drop]
theorem length_wo {l:List Int} (h:l.Nodup) {x:Int} (hx:x ∈ l):(wo l x).length + 1=l.length:=by
 obtain ⟨i,hi,he⟩:=List.mem_iff_getElem.1 hx
 rw [wo_at h (List.getElem?_eq_some_iff.2 ⟨hi,he⟩)]
 simp
 omega
def leave (t:T) (x:Int):T:=match t x with
 | none=>t
 | some nd=>match t nd.up with
   | none=>t
   | some p=>set t nd.up { p with kids:=wo p.kids x }
def enter (t:T) (x u:Int) (i:Nat):T:=match t u,t x with
 | some p,some nd=>set (set t u { p with kids:=wi p.kids i x }) x { nd with up:=u }
 | _,_=>t
def addT (t:T) (x u:Int) (i:Nat):T:=enter (set t x ⟨0,[],Re.zero⟩) x u i
def movT (t:T) (x u:Int) (i:Nat):T:=enter (leave t x) x u i
def styT (t:T) (x:Int) (s:Re.St):T:=match t x with
 | none=>t
 | some nd=>set t x { nd with sty:=s }
def Alike (t s:T):Prop:=∀ x,(t x).map (fun n=>(n.up,n.kids))=(s x).map (fun n=>(n.up,n.kids))
theorem Alike.some {t s:T} (h:Alike t s) {x:Int} {nd:Nd} (hx:t x=some nd):∃ nd',s x=Option.some nd'∧nd'.up=nd.up∧nd'.kids=nd.kids:=by
 have:=h x
 rw [hx] at this
 cases hs:s x with
 | none=>rw [hs] at this;cases this
 | some nd'=>rw [hs] at this;simp at this;exact ⟨nd',rfl,this.1.symm,this.2.symm⟩
theorem Alike.symm {t s:T} (h:Alike t s):Alike s t:=fun x=>(h x).symm
theorem Alike.dp {t s:T} (h:Alike t s) {x:Int} {n:Nat} (hd:Dp t x n):Dp s x n:=by
 induction hd with
 | root h0=>obtain ⟨nd',h1,_⟩:=h.some h0;exact .root h1
 | step h1 h0 _ ih=>obtain ⟨nd',h2,h3,_⟩:=h.some h1;exact .step h2 h0 (h3 ▸ ih)
theorem WF.alike {t s:T} (H:WF t) (h:Alike t s):WF s where
 root:=by obtain ⟨nd,h1,h2⟩:=H.root;obtain ⟨nd',h3,h4,_⟩:=h.some h1;exact ⟨nd',h3,h4.trans h2⟩
 range:=fun x nd hx=>by obtain ⟨nd',h1,_⟩:=h.symm.some hx;exact H.range x nd' h1
 up:=fun x nd hx h0=>by
  obtain ⟨nd',h1,h2,_⟩:=h.symm.some hx
  obtain ⟨p,h3,h4⟩:=H.up x nd' h1 h0
  obtain ⟨p',h5,_,h6⟩:=h.some h3
  exact ⟨p',h2 ▸ h5,h6 ▸ h4⟩
 kid:=fun u p x hu hx=>by
  obtain ⟨p',h1,_,h2⟩:=h.symm.some hu
  obtain ⟨h0,nd,h3,h4⟩:=H.kid u p' x h1 (h2 ▸ hx)
  obtain ⟨nd',h5,h6,_⟩:=h.some h3
  exact ⟨h0,nd',h5,h6.trans h4⟩
 nodup:=fun u p hu=>by obtain ⟨p',h1,_,h2⟩:=h.symm.some hu;exact h2 ▸ H.nodup u p' h1
 deep:=fun x nd hx=>by
  obtain ⟨nd',h1,_⟩:=h.symm.some hx
  obtain ⟨n,hn,hd⟩:=H.deep x nd' h1
  exact ⟨n,hn,h.dp hd⟩
theorem alike_sty (t:T) (x:Int) (s:Re.St):Alike t (styT t x s):=fun y=>by
 unfold styT
 cases h:t x with
 | none=>rfl
 | some nd =>
   show _=Option.map _ (set t x { nd with sty:=s } y)
   by_cases e:y=x
   · subst e;rw [set_same,h];rfl
   · rw [set_other t _ e]
theorem add_at {t:T} {x u:Int} {i:Nat} {p:Nd} (hu:t u=some p) (hx:t x=none) (y:Int) :
  addT t x u i y=if y=x then some ⟨u,[],Re.zero⟩ else if y=u then some { p with kids:=wi p.kids i x } else t y:=by
 have hne:u≠x:=by rintro rfl;rw [hu] at hx;cases hx
 unfold addT enter
 rw [set_other t _ hne,hu,set_same]
 show set _ x _ y=_
 by_cases e:y=x
 · subst e;rw [if_pos rfl];simp only [set_same]
 · rw [if_neg e,set_other _ _ e]
   by_cases e2:y=u
   · subst e2;rw [if_pos rfl,set_same]
   · rw [if_neg e2,set_other _ _ e2,set_other _ _ e]
theorem WF.add {t:T} (H:WF t) {x u:Int} {i:Nat} {p:Nd} {n:Nat} (hu:t u=some p) (hx:t x=none) (hr:0≤x∧x<4096) (hd:Dp t u n) (hn:n≤62):WF (addT t x u i):=by
 have hxl:∀ y q,t y=some q→y≠x:=fun y q h e=>by rw [e,hx] at h;cases h
 have hnk:∀ y q,t y=some q→x ∉ q.kids:=fun y q h hm=>by obtain ⟨_,nd,h2,_⟩:=H.kid y q x h hm;rw [hx] at h2;cases h2
 have A:=fun y=>add_at (i:=i) hu hx y
 have old:∀ y q,t y=some q→∃ q',addT t x u i y=some q'∧q'.up=q.up∧(∀ k,k ∈ q'.kids↔k ∈ q.kids∨(y=u∧k=x))∧q'.kids.Nodup:=fun y q h=>by
  rw [A y,if_neg (hxl y q h)]
  by_cases e:y=u
  · subst e
    rw [h] at hu;cases hu
    rw [if_pos rfl]
    exact ⟨_,rfl,rfl,fun k=>by simp only [mem_wi,true_and,or_comm],nodup_wi (H.nodup _ _ h) _ (hnk _ _ h)⟩
  · rw [if_neg e,h]
    exact ⟨q,rfl,rfl,fun k=>by simp [e],H.nodup _ _ h⟩
 have new:addT t x u i x=some ⟨u,[],Re.zero⟩:=by rw [A x,if_pos rfl]
 have back:∀ y q',addT t x u i y=some q'→(y=x∧q'=⟨u,[],Re.zero⟩)∨∃ q,t y=some q∧q'.up=q.up∧(∀ k,k ∈ q'.kids↔k ∈ q.kids∨(y=u∧k=x))∧q'.kids.Nodup:=fun y q' h=>by
  by_cases e:y=x
  · subst e;rw [new] at h;cases h;exact .inl ⟨rfl,rfl⟩
  · right
    cases hy:t y with
    | none =>
      rw [A y,if_neg e] at h
      by_cases e2:y=u
      · subst e2;rw [hy] at hu;cases hu
      · rw [if_neg e2,hy] at h;cases h
    | some q =>
      obtain ⟨q'',h1,h2⟩:=old y q hy
      rw [h] at h1;cases h1
      exact ⟨q,rfl,h2⟩
 have dp:∀ {y:Int} {m:Nat},Dp t y m→Dp (addT t x u i) y m:=fun {y m} h=>by
  induction h with
  | root h0=>obtain ⟨q',h1,_⟩:=old _ _ h0;exact .root h1
  | step h1 h0 _ ih=>obtain ⟨q',h2,h3,_⟩:=old _ _ h1;exact .step h2 h0 (h3 ▸ ih)
 have hx0:x≠0:=fun e=>by obtain ⟨nd,h,_⟩:=H.root;exact hxl 0 nd h e.symm
 refine ⟨?_,?_,?_,?_,?_,?_⟩
 · obtain ⟨nd,h,h2⟩:=H.root
   obtain ⟨q',h3,h4,_⟩:=old 0 nd h
   exact ⟨q',h3,h4.trans h2⟩
 · intro y nd h
   rcases back y nd h with ⟨rfl,_⟩ | ⟨q,h2,_⟩
   · exact hr
   · exact H.range y q h2
 · intro y nd h h0
   rcases back y nd h with ⟨rfl,rfl⟩ | ⟨q,h2,h3,_⟩
   · obtain ⟨q',h3,_,h4,_⟩:=old u p hu
     exact ⟨q',h3,(h4 y).2 (.inr ⟨rfl,rfl⟩)⟩
   · obtain ⟨r,h4,h5⟩:=H.up y q h2 h0
     obtain ⟨r',h6,_,h7,_⟩:=old _ r h4
     exact ⟨r',h3 ▸ h6,(h7 y).2 (.inl h5)⟩
 · intro v q' y h hy
   rcases back v q' h with ⟨rfl,rfl⟩ | ⟨q,h2,h3,h4,_⟩
   · cases hy
   · rcases (h4 y).1 hy with h5 | ⟨rfl,rfl⟩
     · obtain ⟨h0,nd,h6,h7⟩:=H.kid v q y h2 h5
       obtain ⟨nd',h8,h9,_⟩:=old y nd h6
       exact ⟨h0,nd',h8,h9.trans h7⟩
     · exact ⟨hx0,_,new,rfl⟩
 · intro v q' h
   rcases back v q' h with ⟨rfl,rfl⟩ | ⟨q,h2,h3,h4,h5⟩
   · exact .nil
   · exact h5
 · intro y nd h
   rcases back y nd h with ⟨rfl,rfl⟩ | ⟨q,h2,_⟩
   · exact ⟨n + 1,by omega,.step new hx0 (dp hd)⟩
   · obtain ⟨m,hm,h3⟩:=H.deep y q h2
     exact ⟨m,hm,dp h3⟩
theorem WF.add_ord {t:T} (H:WF t) {x u:Int} {i:Nat} {p:Nd} (hu:t u=some p) (hx:t x=none) (H':WF (addT t x u i)):(ord (addT t x u i)).length=(ord t).length + 1:=by
 have hp:(ord (addT t x u i)).Perm (x :: ord t):=by
  refine (List.perm_ext_iff_of_nodup H'.nodup_ord (List.nodup_cons.2 ⟨fun hm => ?_,H.nodup_ord⟩)).2 fun y => ?_
  · obtain ⟨nd,h⟩:=H.mem_ord.1 hm;rw [hx] at h;cases h
  · rw [H'.mem_ord,List.mem_cons,H.mem_ord,add_at hu hx]
    by_cases e:y=x
    · simp [e]
    · by_cases e2:y=u
      · subst e2;simp [e,hu]
      · simp [e,e2]
 simpa using hp.length_eq
theorem leave_at {t:T} {x:Int} {nd p:Nd} (hx:t x=some nd) (hp:t nd.up=some p) (y:Int):leave t x y=if y=nd.up then some { p with kids:=wo p.kids x } else t y:=by
 unfold leave
 rw [hx]
 simp only [hp]
 by_cases e:y=nd.up
 · subst e;rw [if_pos rfl,set_same]
 · rw [if_neg e,set_other _ _ e]
section
variable {t:T} (H:WF t) {x:Int} {nd:Nd} (hx:t x=some nd) (h0:x≠0)
include H hx h0
theorem WF.up_out:nd.up ∉ sub t 64 x:=fun hm=>by
 have ha:=(H.mem_sub (H.fit64 hx)).1 hm
 obtain ⟨n,_,hd⟩:=H.deep x nd hx
 cases hd with
 | root _=>exact h0 rfl
 | step h1 _ h2 =>
   rw [hx] at h1;cases h1
   have:=(ha.le (.step hx h0 h2) h2).1
   omega
omit h0 in
theorem WF.out_up {y:Int} {q:Nd} (hy:t y=some q) (hn:y ∉ sub t 64 x) (hy0:y≠0):q.up ∉ sub t 64 x:=fun hm=>hn ((H.mem_sub (H.fit64 hx)).2 (.step hy hy0 ((H.mem_sub (H.fit64 hx)).1 hm)))
theorem WF.x_kid {v:Int} {q:Nd} (hv:t v=some q) (hm:x ∈ q.kids):v=nd.up:=by
 obtain ⟨_,xd,h1,h2⟩:=H.kid v q x hv hm
 rw [hx] at h1;cases h1;exact h2.symm
theorem WF.self_in:x ∈ sub t 64 x:=(H.mem_sub (H.fit64 hx)).2 (.refl hx)
theorem WF.is_in {y:Int} (e:y=x):y ∈ sub t 64 x:=by rw [e];exact H.self_in hx h0
section
variable {u:Int} {q:Nd} (hu:t u=some q) (hun:u ∉ sub t 64 x)
include hu hun
theorem WF.mov_at (i:Nat) (y:Int):movT t x u i y=(t y).map fun r=>{ r with up:=if y=x then u else r.up,kids:=if y=u then wi (if y=nd.up then wo r.kids x else r.kids) i x else if y=nd.up then wo r.kids x else r.kids }:=by
 obtain ⟨p,hp,hxp⟩:=H.up x nd hx h0
 have hxu:u≠x:=fun e=>hun (H.is_in hx h0 e)
 have hxn:x≠nd.up:=fun e=>H.up_out hx h0 (H.is_in hx h0 e.symm)
 have L:=fun y=>leave_at hx hp y
 have Lx:leave t x x=some nd:=by rw [L,if_neg hxn,hx]
 unfold movT enter
 by_cases e:u=nd.up
 · subst e
   rw [hu] at hp;cases hp
   have Lu:leave t x nd.up=some { q with kids:=wo q.kids x }:=by rw [L,if_pos rfl]
   rw [Lu,Lx]
   simp only
   by_cases e1:y=x
   · subst e1;rw [set_same,hx];simp [hxn]
   · rw [set_other _ _ e1]
     by_cases e2:y=nd.up
     · rw [e2,set_same,hu];simp [hxu]
     · rw [set_other _ _ e2,L,if_neg e2]
       cases t y <;> simp [e1,e2]
 · have Lu:leave t x u=some q:=by rw [L,if_neg e,hu]
   rw [Lu,Lx]
   simp only
   by_cases e1:y=x
   · subst e1;rw [set_same,hx];simp [hxn,hxu.symm]
   · rw [set_other _ _ e1]
     by_cases e2:y=u
     · rw [e2,set_same,hu];simp [e,hxu]
     · rw [set_other _ _ e2,L]
       by_cases e3:y=nd.up
       · rw [if_pos e3,e3,hp];simp [hxn.symm,show ¬ nd.up=u from fun h=>e h.symm]
       · rw [if_neg e3]
         cases t y <;> simp [e1,e2,e3]
theorem WF.mov {i:Nat} {du:Nat} (hdu:Dp t u du) (hdeep:du + 1 + hgt t 64 x≤63):WF (movT t x u i):=by
 obtain ⟨p,hp,hxp⟩:=H.up x nd hx h0
 have hxu:u≠x:=fun e=>hun (H.is_in hx h0 e)
 have hxn:x≠nd.up:=fun e=>H.up_out hx h0 (H.is_in hx h0 e.symm)
 have A:=fun y=>H.mov_at hx h0 hu hun i y
 have old:∀ y r,t y=some r→∃ r',movT t x u i y=some r'∧(y≠x→r'.up=r.up)∧(y=x→r'.up=u)∧(∀ k,k≠x→(k ∈ r'.kids↔k ∈ r.kids))∧(x ∈ r'.kids↔y=u)∧r'.kids.Nodup:=fun y r h=>by
  have hk:x ∉ (if y=nd.up then wo r.kids x else r.kids):=by
   split
   · exact fun hm=>(mem_wo.1 hm).2 rfl
   · rename_i e;exact fun hm=>e (H.x_kid hx h0 h hm)
  have hn:(if y=nd.up then wo r.kids x else r.kids).Nodup:=by
   split
   · exact nodup_wo (H.nodup y r h) x
   · exact H.nodup y r h
  have hm:∀ k,k≠x→(k ∈ (if y=nd.up then wo r.kids x else r.kids)↔k ∈ r.kids):=fun k hkx=>by
   split
   · rw [mem_wo];simp [hkx]
   · exact Iff.rfl
  rw [A y,h]
  refine ⟨_,rfl,fun e=>if_neg e,fun e=>if_pos e,fun k hkx => ?_,?_,?_⟩
  · show k ∈ (if y=u then _ else _)↔_
    split
    · rw [mem_wi];simp only [hkx,false_or];exact hm k hkx
    · exact hm k hkx
  · show x ∈ (if y=u then _ else _)↔_
    split
    · rename_i e;rw [mem_wi];simp [e]
    · rename_i e;simp only [e,iff_false];exact hk
  · show (if y=u then _ else _:List Int).Nodup
    split
    · exact nodup_wi hn i hk
    · exact hn
 have back:∀ y r',movT t x u i y=some r'→∃ r,t y=some r∧(y≠x→r'.up=r.up)∧(y=x→r'.up=u)∧(∀ k,k≠x→(k ∈ r'.kids↔k ∈ r.kids))∧(x ∈ r'.kids↔y=u)∧r'.kids.Nodup:=fun y r' h=>by
  cases hy:t y with
  | none=>rw [A y,hy] at h;cases h
  | some r =>
    obtain ⟨r'',h1,h2⟩:=old y r hy
    rw [h] at h1;cases h1
    exact ⟨r,rfl,h2⟩
 have dpo:∀ {y:Int} {m:Nat},Dp t y m→y ∉ sub t 64 x→Dp (movT t x u i) y m:=fun {y m} h=>by
  induction h with
  | root h1=>intro hn;obtain ⟨q',h2,_⟩:=old _ _ h1;exact .root h2
  | step h1 hz _ ih =>
    intro hn
    obtain ⟨q',h2,h3,_⟩:=old _ _ h1
    exact .step h2 hz (h3 (fun e=>hn (H.is_in hx h0 e)) ▸ ih (H.out_up hx h1 hn hz))
 obtain ⟨dx,_,hdx⟩:=H.deep x nd hx
 obtain ⟨x',hx1,_,hx2,_⟩:=old x nd hx
 have dpx:Dp (movT t x u i) x (du + 1):= .step hx1 h0 (hx2 rfl ▸ dpo hdu hun)
 have dpi:∀ {y:Int},Anc t x y→∀ n,Dp t y n→dx≤n∧Dp (movT t x u i) y (n - dx + du + 1):=fun {y} ha=>by
  induction ha with
  | refl _=>intro n hn;obtain rfl:=hdx.det hn;exact ⟨Nat.le_refl _,by rw [Nat.sub_self,Nat.zero_add];exact dpx⟩
  | step h1 hz ha ih =>
    rename_i y yd
    intro n hn
    cases hn with
    | root _=>exact absurd rfl hz
    | step h2 _ h3 =>
      rename_i n _
      rw [h1] at h2;cases h2
      obtain ⟨hle,h4⟩:=ih _ h3
      obtain ⟨r',h5,h6,_⟩:=old _ _ h1
      have hyx:y≠x:=fun e=>by subst e;have:=hdx.det (.step h1 hz h3);omega
      refine ⟨by omega,?_⟩
      rw [show n + 1 - dx + du + 1=n - dx + du + 1 + 1 by omega]
      exact .step h5 hz (h6 hyx ▸ h4)
 refine ⟨?_,?_,?_,?_,?_,?_⟩
 · obtain ⟨r,h1,h2⟩:=H.root
   obtain ⟨r',h3,h4,_⟩:=old 0 r h1
   exact ⟨r',h3,(h4 h0.symm).trans h2⟩
 · intro y r' h
   obtain ⟨r,h1,_⟩:=back y r' h
   exact H.range y r h1
 · intro y r' h hy0
   obtain ⟨r,h1,h2,h3,_⟩:=back y r' h
   by_cases e:y=x
   · obtain ⟨u',h4,_,_,_,h5,_⟩:=old u q hu
     exact ⟨u',h3 e ▸ h4,e ▸ h5.2 rfl⟩
   · obtain ⟨v,h4,h5⟩:=H.up y r h1 hy0
     obtain ⟨v',h6,_,_,h7,_⟩:=old _ v h4
     exact ⟨v',h2 e ▸ h6,(h7 y e).2 h5⟩
 · intro v r' y h hy
   obtain ⟨r,h1,_,_,h3,h4,_⟩:=back v r' h
   by_cases e:y=x
   · subst e
     exact ⟨h0,x',hx1,(hx2 rfl).trans (h4.1 hy).symm⟩
   · obtain ⟨hy0,yd,h5,h6⟩:=H.kid v r y h1 ((h3 y e).1 hy)
     obtain ⟨y',h7,h8,_⟩:=old y yd h5
     exact ⟨hy0,y',h7,(h8 e).trans h6⟩
 · intro v r' h
   obtain ⟨_,_,_,_,_,_,h5⟩:=back v r' h
   exact h5
 · intro y r' h
   obtain ⟨r,h1,_⟩:=back y r' h
   obtain ⟨m,hm,h3⟩:=H.deep y r h1
   by_cases hn:y ∈ sub t 64 x
   · obtain ⟨hle,h4⟩:=dpi ((H.mem_sub (H.fit64 hx)).1 hn) m h3
     have:=H.hgt_le (H.fit64 hx) hdx hn h3
     exact ⟨_,by omega,h4⟩
   · exact ⟨m,hm,dpo h3 hn⟩
theorem WF.mov_live (i:Nat) (y:Int):(∃ r,movT t x u i y=some r)↔∃ r,t y=some r:=by
 rw [H.mov_at hx h0 hu hun]
 cases t y <;> simp
theorem WF.mov_ord {i:Nat} (H':WF (movT t x u i)):(ord (movT t x u i)).length=(ord t).length:=by
 refine ((List.perm_ext_iff_of_nodup H'.nodup_ord H.nodup_ord).2 fun y => ?_).length_eq
 rw [H'.mem_ord,H.mem_ord,H.mov_live hx h0 hu hun]
theorem WF.mov_sub (i:Nat):sub (movT t x u i) 64 x=sub t 64 x∧hgt (movT t x u i) 64 x=hgt t 64 x:=by
 refine ((H.fit64 hx).congr fun y hy r hr => ?_).2
 rw [H.mov_at hx h0 hu hun,hr]
 exact ⟨_,rfl,by show (if y=u then _ else _)=_;rw [if_neg (fun e:y=u=>hun (by rw [← e];exact hy)),if_neg (fun e:y=nd.up=>H.up_out hx h0 (by rw [← e];exact hy))]⟩
end
theorem WF.mov_back {u:Int} {q:Nd} (hu:t u=some q) (hun:u ∉ sub t 64 x) {i j:Nat} {p:Nd} (hp:t nd.up=some p) (hj:p.kids[j]? = some x) (H':WF (movT t x u i)):movT (movT t x u i) x nd.up j=t:=by
 have hxu:u≠x:=fun e=>hun (H.is_in hx h0 e)
 have hxn:x≠nd.up:=fun e=>H.up_out hx h0 (H.is_in hx h0 e.symm)
 have A:=fun y=>H.mov_at hx h0 hu hun i y
 have hx1:movT t x u i x=some { nd with up:=u }:=by rw [A,hx];simp [hxu.symm,hxn]
 have hp1:∃ p',movT t x u i nd.up=some p':=by rw [A,hp];exact ⟨_,rfl⟩
 obtain ⟨p',hp1⟩:=hp1
 have hn1:nd.up ∉ sub (movT t x u i) 64 x:=by rw [(H.mov_sub hx h0 hu hun i).1];exact H.up_out hx h0
 funext y
 rw [H'.mov_at hx1 h0 hp1 hn1 j y,A y]
 cases hy:t y with
 | none=>rfl
 | some r =>
   have hk:x ∉ (if y=nd.up then wo r.kids x else r.kids):=by
    split
    · exact fun hm=>(mem_wo.1 hm).2 rfl
    · rename_i e;exact fun hm=>e (H.x_kid hx h0 hy hm)
   have e1:(if y=u then wo (if y=u then wi (if y=nd.up then wo r.kids x else r.kids) i x else if y=nd.up then wo r.kids x else r.kids) x else if y=u then wi (if y=nd.up then wo r.kids x else r.kids) i x else if y=nd.up then wo r.kids x else r.kids)=if y=nd.up then wo r.kids x else r.kids:=by
    by_cases e:y=u
    · rw [if_pos e,if_pos e,wo_wi hk]
    · rw [if_neg e,if_neg e]
   simp only [Option.map_some,Option.some.injEq]
   rw [e1]
   by_cases e:y=nd.up
   · have e2:=e
     subst e
     rw [hp] at hy;cases hy
     simp only [if_true,if_neg hxn.symm]
     rw [wi_wo (H.nodup _ _ hp) hj]
   · simp only [if_neg e]
     by_cases ex:y=x
     · subst ex;rw [hx] at hy;cases hy;simp
     · simp [ex]
end
def dp (t:T):Nat→Int→Int
 | 0,_ => -1
 | f + 1,x=>match t x with
   | none => -1
   | some nd=>dp t f nd.up + 1
def dep (t:T) (x:Int):Int:=dp t 100 x
theorem dp_of {t:T} (h1:∀ nd,t 0=some nd→nd.up = -1) (h2:t (-1)=none) {x:Int} {d:Nat} (h:Dp t x d):∀ f,d<f→dp t f x=d:=by
 induction h with
 | root h =>
   intro f hf
   cases f with
   | zero=>omega
   | succ f =>
     simp only [dp,h,h1 _ h]
     cases f with
     | zero=>simp [dp]
     | succ f=>simp [dp,h2]
 | step h h0 _ ih =>
   intro f hf
   cases f with
   | zero=>omega
   | succ f =>
     simp only [dp,h,ih f (by omega)]
     omega
theorem WF.root_up {t:T} (H:WF t) {nd:Nd} (h:t 0=some nd):nd.up = -1:=by
 obtain ⟨r,h1,h2⟩:=H.root
 rw [h] at h1;cases h1;exact h2
theorem WF.low {t:T} (H:WF t) {x:Int} (h:x<0):t x=none:=by
 cases e:t x with
 | none=>rfl
 | some nd=>have:=H.range x nd e;omega
theorem WF.dep_of {t:T} (H:WF t) {x:Int} {d:Nat} (h:Dp t x d):dep t x=d:=dp_of (fun _ h=>H.root_up h) (H.low (by omega)) h 100 (by have:=H.dp63 h;omega)
theorem WF.dep_some {t:T} (H:WF t) {x:Int} {nd:Nd} (h:t x=some nd):∃ d:Nat,d≤63∧Dp t x d∧dep t x=d:=by
 obtain ⟨d,h1,h2⟩:=H.deep x nd h
 exact ⟨d,h1,h2,H.dep_of h2⟩
def Free (t:T) (z:Int):Prop:=0≤z∧t z=none∧∀ y,0≤y→y<z→t y≠none
open Classical in
noncomputable def free (t:T):Int:=if h:∃ z,Free t z then h.choose else 0
theorem free_eq {t:T} {z:Int} (h:Free t z):free t=z:=by
 have he:∃ z,Free t z:=⟨z,h⟩
 unfold free
 rw [dif_pos he]
 have hc:=he.choose_spec
 generalize he.choose=y at *
 by_cases h1:y<z
 · exact absurd hc.2.1 (h.2.2 y hc.1 h1)
 · by_cases h2:z<y
   · exact absurd h.2.1 (hc.2.2 z h.1 h2)
   · omega
theorem WF.full {t:T} (H:WF t) {k:Nat} (h:∀ y:Int,0≤y→y<k→t y≠none):k≤(ord t).length:=by
 have hn:((List.range k).map (fun n:Nat=>(n:Int))).Nodup:=List.Pairwise.map _ (fun a b hab e=>hab (by omega)) List.nodup_range
 have hs:((List.range k).map (fun n:Nat=>(n:Int))) ⊆ ord t:=fun x hx=>by
  obtain ⟨n,hn,rfl⟩:=List.mem_map.1 hx
  have:=h n (by omega) (by have:=List.mem_range.1 hn;omega)
  obtain ⟨nd,hnd⟩:=Option.ne_none_iff_exists'.1 this
  exact H.mem_ord.2 ⟨nd,hnd⟩
 have:=hn.length_le_of_subset hs
 simpa using this
theorem WF.free_is {t:T} (H:WF t):Free t (free t)∧free t≤((ord t).length:Int):=by
 have hex:∃ k:Nat,t (k:Int)=none∧∀ y:Int,0≤y→y<k→t y≠none:=by
  by_cases h:∀ k:Nat,t (k:Int)≠none
  · have:=H.full (k:=(ord t).length + 1) (fun y h0 _=>by have:=h y.toNat;rwa [Int.toNat_of_nonneg h0] at this)
    omega
  · obtain ⟨k,hk⟩:=Classical.not_forall.1 h
    replace hk:=Classical.not_not.1 hk
    induction k using Nat.strongRecOn with
    | ind k ih =>
      by_cases hl:∀ y:Int,0≤y→y<k→t y≠none
      · exact ⟨k,hk,hl⟩
      · obtain ⟨y,hy⟩:=Classical.not_forall.1 hl
        have h0:0≤y∧y<k∧t y=none:=by
         refine ⟨?_,?_,?_⟩
         · exact Classical.byContradiction fun q=>hy fun q2=>absurd q2 q
         · exact Classical.byContradiction fun q=>hy fun _ q2=>absurd q2 q
         · exact Classical.byContradiction fun q=>hy fun _ _ q2=>q q2
        refine ih y.toNat (by omega) ?_
        rw [Int.toNat_of_nonneg h0.1];exact h0.2.2
 obtain ⟨k,h1,h2⟩:=hex
 have hf:Free t (k:Int):=⟨by omega,h1,h2⟩
 rw [free_eq hf]
 exact ⟨hf,by have:=H.full h2;omega⟩
theorem WF.kids_le {t:T} (H:WF t) {u:Int} {p:Nd} (hu:t u=some p):p.kids.length≤(ord t).length :=
 (H.nodup u p hu).length_le_of_subset fun x hx=>by
  obtain ⟨_,nd,h,_⟩:=H.kid u p x hu hx
  exact H.mem_ord.2 ⟨nd,h⟩
def addE (t:T) (u a:Int):Int:=match t u with
 | none=>2
 | some p=>if a<0∨(p.kids.length:Int)<a then 1 else if 63≤dep t u then 5 else 0
noncomputable def addI (t:T) (u a:Int):Int:=if addE t u a=0 then free t else -1
noncomputable def addR (t:T) (u a:Int):T:=if addE t u a=0 then addT t (free t) u a.toNat else t
theorem WF.addR {t:T} (H:WF t) (u a:Int) (hn:(ord t).length<4096):WF (addR t u a)∧(ord (Tr.addR t u a)).length=(ord t).length + (if addE t u a=0 then 1 else 0):=by
 unfold Tr.addR
 by_cases h:addE t u a=0
 · rw [if_pos h,if_pos h]
   unfold addE at h
   cases hu:t u with
   | none=>rw [hu] at h;cases h
   | some p =>
     rw [hu] at h
     dsimp only at h
     split at h
     · cases h
     · split at h
       · cases h
       · rename_i h1 h2
         obtain ⟨d,h3,h4,h5⟩:=H.dep_some hu
         obtain ⟨⟨f0,f1,_⟩,f2⟩:=H.free_is
         have W:=H.add (i:=a.toNat) hu f1 ⟨f0,by omega⟩ h4 (by omega)
         exact ⟨W,H.add_ord hu f1 W⟩
 · rw [if_neg h,if_neg h]
   exact ⟨H,rfl⟩
def movE (t:T) (x u a:Int):Int:=match t x,t u with
 | some _,some p=>if x=0 then 1 else if u ∈ sub t 64 x then 3 else if a<0∨((wo p.kids x).length:Int)<a then 1 else if 63<dep t u + 1 + hgt t 64 x then 5 else 0
 | _,_=>2
def movR (t:T) (x u a:Int):T:=if movE t x u a=0 then movT t x u a.toNat else t
theorem movE_zero {t:T} {x u a:Int} (h:movE t x u a=0):∃ nd p,t x=some nd∧t u=some p∧x≠0∧u ∉ sub t 64 x∧0≤a∧a≤(wo p.kids x).length∧dep t u + 1 + hgt t 64 x≤63:=by
 unfold movE at h
 cases hx:t x with
 | none=>rw [hx] at h;cases h
 | some nd =>
   cases hu:t u with
   | none=>rw [hx,hu] at h;cases h
   | some p =>
     rw [hx,hu] at h
     dsimp only at h
     split at h
     · cases h
     · split at h
       · cases h
       · split at h
         · cases h
         · split at h
           · cases h
           · exact ⟨nd,p,rfl,rfl,by assumption,by assumption,by omega,by omega,by omega⟩
theorem WF.movR {t:T} (H:WF t) (x u a:Int):WF (movR t x u a)∧(ord (Tr.movR t x u a)).length=(ord t).length:=by
 unfold Tr.movR
 by_cases h:movE t x u a=0
 · rw [if_pos h]
   obtain ⟨nd,p,hx,hu,h0,hun,ha,hal,hd⟩:=movE_zero h
   obtain ⟨d,h3,h4,h5⟩:=H.dep_some hu
   have W:=H.mov (i:=a.toNat) hx h0 hu hun h4 (by omega)
   exact ⟨W,H.mov_ord hx h0 hu hun W⟩
 · rw [if_neg h]
   exact ⟨H,rfl⟩
end Go.Proofs.YteggipnplbkijaaGreat.Tr
